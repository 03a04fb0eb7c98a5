/- What code.Is answers; Fill's errors. -/
import Derived.Test.YteiddjjakemklabCdRef
import Derived.Test.YteiddjjakemklabCdFill
import Derived.Test.YteiddjjakemklabCdInv
namespace Go.Proofs.Yteiddjjakemklab
open Go.RowKit
theorem StrsAt.take {w : World} {a : Option Addr} {l : List ByteArray} (h : StrsAt w a l) (n : Nat) : StrsAt w a (l.take n) := by
  rcases h with rfl | ⟨b, o, ha, hlt, hc⟩
  · exact .inl (by simp)
  · exact .inr ⟨b, o, ha, hlt, fun i s hs => hc i s (by rw [List.getElem?_take] at hs; split at hs <;> simp_all)⟩
/-- the nine shards of six texts -/
def shs (l : List ByteArray) : List ByteArray := (List.range 9).map (sh l (l[0]?.getD ByteArray.empty).size)
def isB (l : List ByteArray) : Bool := decide (l.length = 9) && al (l.take 6) && decide (shs (l.take 6) = l)
theorem al_size {l : List ByteArray} (h : al l = true) : ∀ s ∈ l, s.size = (l[0]?.getD ByteArray.empty).size := al_iff.1 h
theorem shs_len (l : List ByteArray) : (shs l).length = 9 := by simp [shs]
set_option maxRecDepth 100000 in
set_option maxHeartbeats 1000000 in
theorem is_many (t : Option Addr) (a : Option Addr) (n cap : Nat) (w : World) (h : n ≠ 9) :
    Calls Try.prog 15 #[.pointer t, .slice a n cap] w fun e w' => e = .returned (.bool false) ∧ w = w' := by
  have hb : ((n : Int) != 9) = true := by simp; omega
  clear h
  go_enter Try.func15, Try.ntmps15
  go_wp2_with fail
  go_ret
  exact ⟨rfl, rfl⟩
set_option maxRecDepth 100000 in
set_option maxHeartbeats 1000000 in
theorem is_nil (a : Option Addr) (cap : Nat) (w : World) (hcap : 9 ≤ cap) :
    Calls Try.prog 15 #[.pointer none, .slice a 9 cap] w fun e w' => e = .returned (.bool false) ∧ w = w' := by
  have hc : (6 : Int) ≤ (cap : Int) := by omega
  go_enter Try.func15, Try.ntmps15
  go_wp2_with fail
  refine (encode_nil a 6 cap w).mono ?_
  rintro e w1 ⟨rfl, rfl⟩
  simp only [noStrs]
  go_wp2_with fail
  go_ret
  exact ⟨rfl, rfl⟩
set_option maxRecDepth 100000 in
set_option maxHeartbeats 1000000 in
theorem is_nine (b : Nat) (a : Option Addr) (cap : Nat) (l : List ByteArray) (w : World) (ht : TabAt w b) (hl : l.length = 9) (hS : StrsAt w a l) (hcap : 9 ≤ cap) (hLb : ((l.take 6)[0]?.getD ByteArray.empty).size ≤ 1000) :
    Calls Try.prog 15 #[.pointer (some ⟨b, 0, none⟩), .slice a 9 cap] w fun e w' => e = .returned (.bool (isB l)) ∧ Below w.heap.size w w' := by
  have hc : (6 : Int) ≤ (cap : Int) := by omega
  have h6 : (l.take 6).length = 6 := by simp; omega
  have HL := hide hl
  have HS := hide hS
  have H6 := hide h6
  have HT := hide ht
  have HLb := hide hLb
  clear hl hS h6 ht hLb
  by_cases hal : al (l.take 6) = true
  · have HAL := hide hal
    clear hal
    go_enter Try.func15, Try.ntmps15
    go_wp2_with fail
    refine (encode_any b a cap _ (l.take 6) w HT.out H6.out (HS.out.take 6) (al_size HAL.out) HLb.out).mono ?_
    rintro e w1 ⟨rfl, hf, hb⟩
    have HSE : Hid (StrsAt w1 (some ⟨w.heap.size, 0, none⟩) (shs (l.take 6))) := hf.strs
    have HSL := hide (HS.out.below hb)
    have HB := hide hb
    clear hf hb
    go_wp2_with fail
    refine (equal_any _ _ 9 9 9 cap (shs (l.take 6)) l w1 (shs_len _) HL.out (by omega) (by omega) HSE.out HSL.out).mono ?_
    rintro e w2 ⟨rfl, q, rfl⟩
    go_wp2_with fail
    go_ret
    refine ⟨ret_bool ?_, below_draws HB.out q⟩
    have h9 : decide (l.length = 9) = true := by simp [HL.out]
    show _ = ((decide (l.length = 9) && al (l.take 6)) && decide (shs (l.take 6) = l))
    rw [HAL.out, h9]
    rfl
  · have hal' : al (l.take 6) = false := by simpa using hal
    have HAL := hide hal'
    clear hal hal'
    go_enter Try.func15, Try.ntmps15
    go_wp2_with fail
    refine (encode_unlike b a cap (l.take 6) w H6.out (HS.out.take 6) HAL.out).mono ?_
    rintro e w1 ⟨rfl, rfl⟩
    simp only [noStrs]
    go_wp2_with fail
    go_ret
    refine ⟨ret_bool ?_, Below.refl _ _⟩
    unfold isB
    rw [HAL.out]; simp
theorem isB_nine {l : List ByteArray} (h : isB l = true) : l.length = 9 := by unfold isB at h; simp at h; exact h.1.1
set_option maxRecDepth 100000 in
set_option maxHeartbeats 1000000 in
theorem fill_many (b : Nat) (a h : Option Addr) (n m ca ch : Nat) (w : World) (hne : n ≠ 9 ∨ m ≠ 9) :
    Calls Try.prog 17 #[.pointer (some ⟨b, 0, none⟩), .slice a n ca, .slice h m ch] w fun e w' => e = .returned noStrs ∧ w = w' := by
  by_cases h9 : n = 9
  · subst h9
    have hb : ((m : Int) != 9) = true := by simp; omega
    clear hne
    go_enter Try.func17, Try.ntmps17
    go_wp2_with fail
    go_ret2
    exact ⟨rfl, rfl⟩
  · have hb : ((n : Int) != 9) = true := by simp; omega
    clear hne h9
    go_enter Try.func17, Try.ntmps17
    go_wp2_with fail
    go_ret2
    exact ⟨rfl, rfl⟩
theorem selTo_fst (ls : List ByteArray) (hv : List Bool) : ∀ k, (selTo ls hv k).map (·.1) = (List.range k).filter fun i => hv[i]?.getD false := by
  intro k
  induction k with
  | zero => rfl
  | succ k ih =>
    rw [selTo, List.map_append, ih, List.range_succ, List.filter_append]
    congr 1
    by_cases h : hv[k]?.getD false = true
    · simp [h]
    · simp [h]
theorem selTo_snd (ls : List ByteArray) (hv : List Bool) : ∀ k, (selTo ls hv k).map (·.2) = ((selTo ls hv k).map (·.1)).map fun i => ls[i]?.getD ByteArray.empty := by
  intro k
  induction k with
  | zero => rfl
  | succ k ih =>
    rw [selTo, List.map_append, List.map_append, List.map_append, ih]
    congr 1
    split <;> simp
theorem sel_cnt (ls : List ByteArray) (hv : List Bool) : (selTo ls hv 9).length = cntOf hv := by
  have := congrArg List.length (selTo_fst ls hv 9)
  rw [List.length_map] at this
  exact this
theorem sel_idx (ls : List ByteArray) (hv : List Bool) : ((selTo ls hv 9).map (·.1)).take 6 = idxOf hv := by rw [selTo_fst]; rfl
/-- the shards that there are -/
def selS (ls : List ByteArray) (hv : List Bool) : List ByteArray := (selTo ls hv 9).map (·.2)
def lenS (ls : List ByteArray) (hv : List Bool) : Nat := ((selS ls hv)[0]?.getD ByteArray.empty).size
theorem cert_for {hv : List Bool} (hl : hv.length = 9) : ∃ k : Cd.Cert, k.ok = true ∧ (6 ≤ cntOf hv → k.idx = idxOf hv) := by
  by_cases h : 6 ≤ cntOf hv
  · obtain ⟨k, hk, e⟩ := cover hl h
    exact ⟨k, Cd.certs_ok k hk, fun _ => e⟩
  · exact ⟨Cd.cert0, Cd.cert0_ok, fun h' => absurd h' h⟩
/-- what Fill answers, by the certificate of its choice -/
theorem fill_cert (b bs o bh oh caps caph : Nat) (ls : List ByteArray) (hv : List Bool) (w : World) (ht : TabAt w b)
    (hls : ls.length = 9) (hhv : hv.length = 9) (hbs : bs < w.heap.size) (hbh : bh < w.heap.size) (hLb : lenS ls hv ≤ 1000)
    (hcs : ∀ (i : Nat) (s : ByteArray), ls[i]? = some s → w.cell? ⟨bs, o + i, none⟩ = some (.string s)) (hch : ∀ (i : Nat) (s : Bool), hv[i]? = some s → w.cell? ⟨bh, oh + i, none⟩ = some (.bool s)) :
    ∃ k : Cd.Cert, k.ok = true ∧ (6 ≤ cntOf hv → k.idx = idxOf hv) ∧
    Calls Try.prog 17 #[.pointer (some ⟨b, 0, none⟩), .slice (some ⟨bs, o, none⟩) 9 caps, .slice (some ⟨bh, oh, none⟩) 9 caph] w (FillPost w ls hv fun i => sh (dataL (k.a 6) ((selS ls hv).take 6) (lenS ls hv)) (lenS ls hv) i) := by
  obtain ⟨k, hk, he⟩ := cert_for hhv
  refine ⟨k, hk, he, ?_⟩
  exact fill_any b bs o bh oh caps caph (lenS ls hv) ls hv (fun c => (k.m c, k.a c)) k.r w ht hls hhv hbs hbh (fun h6 => by rw [sel_idx, ← he (by rw [← sel_cnt ls]; exact h6)]; exact clears_of hk) (fun h => al_size h) hLb hcs hch
end Go.Proofs.Yteiddjjakemklab
