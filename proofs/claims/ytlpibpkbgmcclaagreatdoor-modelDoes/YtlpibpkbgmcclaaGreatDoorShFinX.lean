/- What the state's Sum and Add answer; what digest.Sum answers. A state's end is the digest of its text; what digest.Sum answers; the two examples of the document. Lemmas for sluicegateref03.filled: the text filled up, byte by byte, in a row of its own. No walk stands here yet. -/
import Derived.Test.YtlpibpkbgmcclaaGreatDoorShTextX
import Derived.Test.YtlpibpkbgmcclaaGreatDoorShHexX
import Derived.Laws.IdiomStrings
namespace Go.Proofs.YtlpibpkbgmcclaaGreatDoor
open Go.RowKit
theorem st_info' (v : Sh.S8) (r : Nat → Nat) (n : Nat) : (Tryz.prog.info? 116).map (·.size) = some (stC v r n).size := by rw [st_size]; kernel_rfl
theorem endS_in (v : Sh.S8) (r : Nat → Nat) (n : Nat) : Sh.In (endS v r n) := by
  unfold endS; split <;> exact blk_in _ _
set_option maxRecDepth 100000 in
set_option maxHeartbeats 1000000 in
theorem stSum_nil (w : World) : Calls Tryz.prog 59 #[.pointer none] w fun e w' => e = .returned (.string ByteArray.empty) ∧ w = w' := by
  go_enter Tryz.func59, Tryz.ntmps59
  go_wp2_with fail
  go_ret
  exact ⟨rfl, rfl⟩
set_option maxRecDepth 100000 in
set_option maxHeartbeats 1000000 in
theorem stSum_any (b : Nat) (v : Sh.S8) (r : Nat → Nat) (n : Nat) (w : World) (hK : KAt w) (hS : StAt w b v r n) (hv : Sh.In v) (hr : ∀ p, r p < 256) (hn : n < 1099511627776) :
    Calls Tryz.prog 59 #[.pointer (some ⟨b, 0, none⟩)] w fun e w' => e = .returned (.string (mkS 32 (by8 (endS v r n)))) ∧ Below w.heap.size w w' := by
  have HK := hide hK
  have HS := hide hS
  have HV := hide hv
  have HR := hide hr
  have HE := hide (endS_in v r n)
  clear hK hS hv hr
  go_enter Tryz.func59, Tryz.ntmps59
  go_wp2_with (refine wpList_load_row rfl 116 (.tmp 6) rfl b rfl 116 (stC v r n) (0, 0) _ HS.out Tryz.underlying116 rfl (st_info' v r n) ?_)
  refine (ended_any v r n w HK.out HV.out HR.out hn).mono ?_
  rintro e w1 ⟨rfl, hb1⟩
  have HB1 := hide hb1
  clear hb1
  generalize hF : endS v r n = F at *
  have HF := hide hF
  clear hF
  go_wp2_with fail
  refine (text_any F w1 HE.out).mono ?_
  rintro e w2 ⟨rfl, hb2⟩
  have HB2 := hide (HB1.out.trans (hb2.mono HB1.out.size))
  clear hb2 HB1
  go_wp2_with fail
  go_ret
  exact ⟨ret_str (by rw [HF.out]), HB2.out⟩
set_option maxRecDepth 100000 in
set_option maxHeartbeats 1000000 in
theorem stAdd_nil (s : ByteArray) (w : World) : Calls Tryz.prog 58 #[.pointer none, .string s] w fun e w' => e = .returned (.int .i64 0) ∧ w = w' := by
  go_enter Tryz.func58, Tryz.ntmps58
  go_wp2_with fail
  go_ret
  exact ⟨rfl, rfl⟩
/-- the rest, where k bytes of g were put to the place m -/
def putB (r g : Nat → Nat) (m k p : Nat) : Nat := if m ≤ p ∧ p < m + k then g (p - m) else r p
theorem StAt.setBytes {w : World} {b : Nat} {v : Sh.S8} {r : Nat → Nat} {n : Nat} (h : StAt w b v r n) (g : Nat → Nat) {m k : Nat} (hm : m + k ≤ 64) : StAt (w.setCells b (8 + m) (bys g k)) b v (putB r g m k) n := by
  refine FnAt.congr (FnAt.setCells (bys g k) (8 + m) h) fun p _ => ?_
  rw [bys_len]
  unfold stV putB
  by_cases c : 8 + m ≤ p ∧ p < 8 + m + k
  · rw [if_pos c, if_neg (by omega), if_pos (by omega), if_pos (by omega)]
    rw [List.getD_eq_getElem?_getD]
    have : p - (8 + m) < k := by omega
    simp [bys, this]
    congr 2
    omega
  · rw [if_neg c]
    by_cases d : p < 8
    · rw [if_pos d, if_pos d]
    · rw [if_neg d, if_neg d]
      by_cases e : p < 72
      · rw [if_pos e, if_pos e, if_neg (by omega)]
      · rw [if_neg e, if_neg e]
theorem u8_size : (Tryz.prog.info? 5).map (·.size) = some 1 := by kernel_rfl
theorem first_bytes (t : ByteArray) {k : Nat} (hk : k ≤ t.size) : ((t.extract 0 k).data.map fun c => Value.int .u8 c.toNat).toList = bys (bt t) k := by
  have hz : (t.extract 0 k).data.size = k := by
    show (t.extract 0 k).size = k
    rw [ByteArray.size_extract]; omega
  apply List.ext_getElem
  · simp only [Array.toList_map, List.length_map, Array.length_toList, hz, bys_len]
  · intro i h1 h2
    have hi : i < k := by rwa [bys_len] at h2
    have hx : i < (t.extract 0 k).size := by rw [ByteArray.size_extract]; omega
    simp only [Array.toList_map, List.getElem_map, Array.getElem_toList, bys, List.getElem_range]
    congr 2
    rw [← bt_eq (show i < t.size by omega)]
    have := ByteArray.getElem_extract (b := t) (start := 0) (stop := k) (i := i) hx
    simp only [Nat.zero_add] at this
    rw [← this]
    rfl
theorem copy_str {w : World} {b : Nat} {v : Sh.S8} {r : Nat → Nat} {n : Nat} (h : StAt w b v r n) {m : Nat} (hm : m < 64) (t : ByteArray) {k : Nat} (hk : k = Nat.min t.size (64 - m)) :
    (Builtin.copy_ #[57, 9] 3 #[.slice (some ⟨b, 8 + m, none⟩) (64 - m) (64 - m), .string t]).run Tryz.prog w = .ok (.int .i64 (k : Int)) (w.setCells b (8 + m) (bys (bt t) k)) := by
  have hkt : k ≤ t.size := by rw [hk]; exact Nat.min_le_left _ _
  have hkm : k ≤ 64 - m := by rw [hk]; exact Nat.min_le_right _ _
  have hst := run_storeCells_cells (P := Tryz.prog) b (8 + m) (bys (bt t) k) 0 w (fun j hj => by rw [bys_len] at hj; have := (h.there (o := 8) (m := 64) (by omega) (m + j) (by omega)).1; simpa [Nat.add_assoc] using this) (fun j hj => h.free _) (fun x hx => by obtain ⟨p, _, rfl⟩ := List.mem_map.1 hx; rfl)
  have hi := u8_size
  cases hq : Tryz.prog.info? 5 with
  | none => rw [hq] at hi; cases hi
  | some i =>
    have h1 : i.size = 1 := by rw [hq] at hi; simpa using hi
    have hfb := first_bytes t hkt
    simp [Builtin.copy_, run_underlying Tryz.underlying57, Builtin.lenOf, Builtin.firstCells, sizeOf, typeInfo, hq, ← hk]
    have hfb' : List.take k (List.map (fun c => Value.int .u8 (c.toNat : Int)) t.data.toList) = bys (bt t) k := by rw [← hfb]; simp
    rw [hfb', hst]
    rfl
theorem extract_all (s : ByteArray) : s.extract 0 s.size = s := by
  apply ByteArray.ext
  simp
theorem bt_extract' (s : ByteArray) (a b p : Nat) (h : a + p < b) (hb : b ≤ s.size) : bt (s.extract a b) p = bt s (a + p) := by
  have h1 : p < (s.extract a b).size := by rw [ByteArray.size_extract]; omega
  have h2 : a + p < s.size := by omega
  rw [← bt_eq h1, ← bt_eq h2, ByteArray.getElem_extract]
theorem extract_extract (s : ByteArray) {j k : Nat} (hj : j ≤ s.size) (hk : k ≤ s.size - j) : (s.extract j s.size).extract k (s.extract j s.size).size = s.extract (j + k) s.size := by
  have hz : (s.extract j s.size).size = s.size - j := by rw [ByteArray.size_extract]; omega
  apply ext_bt
  · simp only [ByteArray.size_extract]; omega
  · intro p hp
    rw [ByteArray.size_extract, hz] at hp
    rw [hz, bt_extract' _ _ _ _ (by omega) (by omega), bt_extract' _ _ _ _ (by omega) (Nat.le_refl _), bt_extract' _ _ _ _ (by omega) (Nat.le_refl _)]
    congr 1; omega
/-- the text's rest behind n bytes -/
def restF (f : Nat → Nat) (n p : Nat) : Nat := if p < n % 64 then f (64 * (n / 64) + p) else 0
/-- a state of the first n bytes of f -/
def TxSt (w : World) (b : Nat) (f : Nat → Nat) (n : Nat) : Prop := StAt w b (Sh.sts f (n / 64)) (restF f n) n
theorem restF_lt {f : Nat → Nat} (h : ∀ p, f p < 256) (n p : Nat) : restF f n p < 256 := by unfold restF; split; exact h _; decide
theorem sts_in (f : Nat → Nat) : ∀ k, Sh.In (Sh.sts f k)
  | 0 => by intro q; unfold Sh.at8 Sh.sts Sh.iv8; split <;> decide
  | k + 1 => blk_in _ _
/-- k bytes more, within the block -/
theorem put_part {f g : Nat → Nat} {n m k : Nat} (hm : m = n % 64) (hk : m + k < 64) (hg : ∀ p, p < k → g p = f (n + p)) (p : Nat) : putB (restF f n) g m k p = restF f (n + k) p := by
  unfold putB restF
  rw [show (n + k) % 64 = m + k by omega, show (n + k) / 64 = n / 64 by omega]
  by_cases c : m ≤ p ∧ p < m + k
  · rw [if_pos c, if_pos (by omega), hg _ (by omega)]
    congr 1; omega
  · rw [if_neg c]
    by_cases d : p < n % 64
    · rw [if_pos d, if_pos (by omega)]
    · rw [if_neg d, if_neg (by omega)]
/-- k bytes more, that fill the block -/
theorem put_full {f g : Nat → Nat} {n m k : Nat} (hm : m = n % 64) (hk : m + k = 64) (hg : ∀ p, p < k → g p = f (n + p)) {p : Nat} (hp : p < 64) : putB (restF f n) g m k p = f (64 * (n / 64) + p) := by
  unfold putB restF
  by_cases c : m ≤ p ∧ p < m + k
  · rw [if_pos c, hg _ (by omega)]
    congr 1; omega
  · rw [if_neg c, if_pos (by omega)]
theorem blk_congr {v : Sh.S8} {b b' : Nat → Nat} (h : ∀ p, p < 64 → b p = b' p) : Sh.blk v b = Sh.blk v b' := by
  have hl : ∀ k, k ≤ 64 → Sh.wl b k = Sh.wl b' k := by
    intro k
    induction k with
    | zero => intro _; rfl
    | succ k ih =>
      intro hk
      have e : ∀ l, Sh.nxt b l k = Sh.nxt b' l k := fun l => by
        unfold Sh.nxt Sh.wd
        by_cases c : k < 16
        · rw [if_pos c, if_pos c, h _ (by omega), h _ (by omega), h _ (by omega), h _ (by omega)]
        · rw [if_neg c, if_neg c]
      rw [Sh.wl, Sh.wl, ih (by omega), e]
  unfold Sh.blk
  rw [hl 64 (Nat.le_refl _)]
def strLen : Value → Nat
  | .string t => t.size
  | _ => 0
theorem sts_full {f : Nat → Nat} {n m k : Nat} {R : Nat → Nat} (hm : m = n % 64) (hk : m + k = 64) (hR : ∀ p, p < 64 → R p = f (64 * (n / 64) + p)) : Sh.blk (Sh.sts f (n / 64)) R = Sh.sts f ((n + k) / 64) := by
  rw [show (n + k) / 64 = n / 64 + 1 by omega, Sh.sts]
  exact blk_congr hR
theorem rest_none {f : Nat → Nat} {n m k : Nat} (hm : m = n % 64) (hk : m + k = 64) (p : Nat) : (0 : Nat) = restF f (n + k) p := by
  unfold restF; rw [if_neg (by omega)]
theorem TxSt.part {w : World} {b : Nat} {f g : Nat → Nat} {N m k : Nat} (h : TxSt w b f N) (hm : N % 64 = m) (hk : m + k < 64) (hg : ∀ p, p < k → g p = f (N + p)) :
    TxSt ((w.setCells b (8 + m) (bys g k)).setCell ⟨b, 72, none⟩ (.int .i64 (N + k : Nat))) b f (N + k) := by
  have h1 := (h.setBytes g (m := m) (k := k) (by omega)).setLen (N + k)
  unfold TxSt
  rw [show (N + k) / 64 = N / 64 by omega]
  exact h1.congr fun p _ => put_part hm.symm hk hg p
theorem putB_lt {r g : Nat → Nat} (hr : ∀ p, r p < 256) (hg : ∀ p, g p < 256) (m k p : Nat) : putB r g m k p < 256 := by
  unfold putB; split
  · exact hg _
  · exact hr _
theorem KAt.at {w w' : World} {B : Nat} (h : KAt w) (hb : Below B w w') (hB : 0 < B) : KAt w' := ⟨Nat.lt_of_lt_of_le h.1 hb.size, fun i hi => (hb.cell (p := ⟨0, i, none⟩) hB).trans (h.2 i hi)⟩
theorem stV_low (v : Sh.S8) {r : Nat → Nat} {n q : Nat} (h : q < 8) : stV v r n q = .int .u32 (Sh.at8 v q : Nat) := by unfold stV; rw [if_pos h]
theorem StAt.below' {w w' : World} {b : Nat} {v : Sh.S8} {r : Nat → Nat} {n : Nat} (h : StAt w b v r n) (hb : Below w.drew.heap.size w.drew w') : StAt w' b v r n := FnAt.below (w := w.drew) h hb h.lt
theorem StAt.lt_le {w : World} {b : Nat} {v : Sh.S8} {r : Nat → Nat} {n : Nat} (h : StAt w b v r n) : b ≤ w.drew.heap.size := Nat.le_of_lt h.lt
theorem mx1 (v : Sh.S8) (b : Nat → Nat) (F : Sh.S8) (w : World) (hF : Sh.blk v b = F) (hK : KAt w) (hv : Sh.In v) (hb : ∀ p, b p < 256) :
    Calls Tryz.prog 75 #[.agg (a8 v), .agg (b64 b)] w fun e w' => e = .returned (.agg (a8 F)) ∧ Below w.heap.size w w' := by
  rw [← hF]
  exact mixed_any v b w hK hv hb
theorem mx2 (v : Sh.S8) (b : Nat → Nat) (F : Sh.S8) (w : World) (hF : Sh.blk v b = F) (hK : KAt w) (hv : Sh.In v) (hb : ∀ p, b p < 256) (A B C : Array Value) (hA : a8 v = A) (hB : a8 F = B) (hC : b64 b = C) :
    Calls Tryz.prog 75 #[.agg A, .agg C] w fun e w' => e = .returned (.agg B) ∧ Below w.heap.size w w' := by
  subst hA; subst hB; subst hC
  exact mx1 v b F w hF hK hv hb
theorem arr_of {A : Array Value} {LR : List Value} (h : LR = A.toList) : A = LR.toArray := by subst h; simp
theorem mixed_lit (v : Sh.S8) (b : Nat → Nat) (F : Sh.S8) (w : World) (LR : List Value) (h : LR = (b64 b).toList) (hF : Sh.blk v b = F) (hK : KAt w) (hv : Sh.In v) (hb : ∀ p, b p < 256) :
    Calls Tryz.prog 75 #[.agg #[.int .u32 (v.a : Nat), .int .u32 (v.b : Nat), .int .u32 (v.c : Nat), .int .u32 (v.d : Nat), .int .u32 (v.e : Nat), .int .u32 (v.f : Nat), .int .u32 (v.g : Nat), .int .u32 (v.h : Nat)], .agg LR.toArray] w fun e w' => e = .returned (.agg #[.int .u32 (F.a : Nat), .int .u32 (F.b : Nat), .int .u32 (F.c : Nat), .int .u32 (F.d : Nat), .int .u32 (F.e : Nat), .int .u32 (F.f : Nat), .int .u32 (F.g : Nat), .int .u32 (F.h : Nat)]) ∧ Below w.heap.size w w' :=
  mx2 v b F w hF hK hv hb _ _ _ (a8_lit v) (a8_lit F) (arr_of h)
theorem extract_none (s : ByteArray) : s.extract s.size s.size = ByteArray.empty := by
  apply ext_bt
  · rw [ByteArray.size_extract]; simp
  · intro p hp
    rw [ByteArray.size_extract] at hp
    omega
set_option maxRecDepth 100000 in
set_option maxHeartbeats 2000000 in
theorem add_any (b : Nat) (f : Nat → Nat) (n : Nat) (s : ByteArray) (w : World) (hK : KAt w) (hb0 : 0 < b) (hS : TxSt w b f n) (hf : ∀ p, f p < 256) (hs : ∀ p, p < s.size → bt s p = f (n + p)) (hn : n + s.size < 1099511627776) :
    Calls Tryz.prog 58 #[.pointer (some ⟨b, 0, none⟩), .string s] w fun e w' => e = .returned (.int .i64 (n + s.size : Nat)) ∧ TxSt w' b f (n + s.size) ∧ Below b w w' := by
  have HK := hide hK
  have HF := hide hf
  have HSS := hide hs
  have HST := hide hS
  clear hK hf hs hS
  go_enter Tryz.func58, Tryz.ntmps58
  go_wp2_with fail
  go_loopw [1] (fun x wr => ∃ j : Nat, j ≤ s.size ∧ x = .string (s.extract j s.size) ∧ TxSt wr b f (n + j) ∧ Below b w wr) (fun x _ => strLen x)
  case atStart => exact ⟨0, by omega, by rw [extract_all], HST.out, Below.refl _ _⟩
  case round =>
    obtain ⟨j, hj, rfl, hT, hbl⟩ := hrel
    have HT := hide hT
    have HB := hide hbl
    clear hT hbl
    have htz : (s.extract j s.size).size = s.size - j := by rw [ByteArray.size_extract]; omega
    have hbt : Hid (∀ p, p < s.size - j → bt (s.extract j s.size) p = f (n + j + p)) := by
      intro p hp
      rw [bt_extract' _ _ _ _ (by omega) (Nat.le_refl _), HSS.out _ (by omega)]
      congr 1; omega
    by_cases hlt : j < s.size
    · have hex : Hid (∀ k, k ≤ s.size - j → (s.extract j s.size).extract k (s.extract j s.size).size = s.extract (j + k) s.size) := fun k hk => extract_extract s hj hk
      generalize s.extract j s.size = t at *
      generalize hN : n + j = N at *
      have hlen := HT.out.len
      have hmd : (N : Int) % 64 = ((N % 64 : Nat) : Int) := by omega
      have hm : N % 64 < 64 := Nat.mod_lt _ (by decide)
      generalize hMM : N % 64 = m at *
      have HM := hide hMM
      clear hMM
      have htp : (0 : Int) < (t.size : Int) := by omega
      have hnb : N + t.size < 1099511627776 := by omega
      have HTZ := hide htz
      have HNJ := hide hN
      clear htz hN
      have hm64 : (m : Int) ≤ 64 := by omega
      by_cases hfull : m + t.size < 64
      · have hcp := copy_str HT.out hm t (k := t.size) (by show t.size = min t.size (64 - m); omega)
        have hne : (((m : Int) + (t.size : Int)) == 64) = false := by simp; omega
        have H1 := hide (HT.out.setBytes (bt t) (m := m) (k := t.size) (by omega))
        have hl1 := H1.out.len
        have hf1 := H1.out.free 72
        go_wp2_with fail
        clear hcp hl1 hf1 hlen hne
        refine ⟨⟨s.size, Nat.le_refl _, by rw [extract_none], ?_, ?_⟩, by show 0 < t.size; omega⟩
        · rw [show n + s.size = N + t.size by have := HTZ.out; have := HNJ.out; omega, show (N : Int) + (t.size : Int) = ((N + t.size : Nat) : Int) by omega]
          exact HT.out.part HM.out hfull fun p hp => hbt.out p (by rw [← HTZ.out]; exact hp)
        · exact (below_setCells (Nat.le_refl _) _ _ HB.out).setCell (p := ⟨b, 72, none⟩) (Nat.le_refl b) _
      · obtain ⟨k, hk⟩ : ∃ k, m + k = 64 := ⟨64 - m, by omega⟩
        have hkt : k ≤ t.size := by omega
        have hcp := copy_str HT.out hm t (k := k) (by show k = min t.size (64 - m); omega)
        have he : (((m : Int) + (k : Int)) == 64) = true := by simp; omega
        have H1 := hide (HT.out.setBytes (bt t) (m := m) (k := k) (by omega))
        have HBL := hide (below_setCells (B := b) (c := b) (Nat.le_refl _) (bys (bt t) k) (8 + m) HB.out)
        have hin := hide (sts_in f (N / 64))
        have hR : Hid (∀ p, p < 64 → putB (restF f N) (bt t) m k p = f (64 * (N / 64) + p)) := fun p hp => put_full HM.out.symm hk (fun q hq => hbt.out q (by rw [← HTZ.out]; omega)) hp
        have hRl : Hid (∀ p, putB (restF f N) (bt t) m k p < 256) := fun p => putB_lt (restF_lt HF.out N) (bt_lt t) m k p
        generalize hRR : putB (restF f N) (bt t) m k = R at *
        generalize hVV : Sh.sts f (N / 64) = V at *
        have HVV := hide hVV
        clear hRR hVV
        go_wp2_with fail
        clear hcp
        generalize wr.setCells b (8 + m) (bys (bt t) k) = W1 at *
        have c0 := H1.out.cell (p := 0) (by omega)
        have c1 := H1.out.cell (p := 1) (by omega)
        have c2 := H1.out.cell (p := 2) (by omega)
        have c3 := H1.out.cell (p := 3) (by omega)
        have c4 := H1.out.cell (p := 4) (by omega)
        have c5 := H1.out.cell (p := 5) (by omega)
        have c6 := H1.out.cell (p := 6) (by omega)
        have c7 := H1.out.cell (p := 7) (by omega)
        rw [stV_low V (by omega)] at c0 c1 c2 c3 c4 c5 c6 c7
        simp only [Sh.at8] at c0 c1 c2 c3 c4 c5 c6 c7
        have hu43 := Tryz.underlying114
        have hi43 := b64_len R
        have hr43 : W1.drew.rangeAt b 8 (b64 R).toList := H1.out.rest
        obtain ⟨F, hFF⟩ : ∃ F, Sh.blk V R = F := ⟨_, rfl⟩
        have HFF := hide hFF
        clear hFF
        have HRS : Hid (∀ w', StAt w' b V R N → w'.rangeAt b 8 (b64 R).toList) := fun w' h => h.rest
        have HRF : Hid (∀ (w' : World) (F : Sh.S8), StAt w' b V R N → (((((((((w'.setCell ⟨b, 0, none⟩ (.int .u32 (F.a : Nat))).setCell ⟨b, 1, none⟩ (.int .u32 (F.b : Nat))).setCell ⟨b, 2, none⟩ (.int .u32 (F.c : Nat))).setCell ⟨b, 3, none⟩ (.int .u32 (F.d : Nat))).setCell ⟨b, 4, none⟩ (.int .u32 (F.e : Nat))).setCell ⟨b, 5, none⟩ (.int .u32 (F.f : Nat))).setCell ⟨b, 6, none⟩ (.int .u32 (F.g : Nat))).setCell ⟨b, 7, none⟩ (.int .u32 (F.h : Nat)))).rangeAt b 8 (b64 R).toList) := fun w' F h => (h.setWords F).rest
        generalize hLR : (b64 R).toList = LR at *
        have HLR := hide hLR
        clear hLR
        refine wp_region_noPanic ?_
        refine wp_region_held_drew (S := fun w' => w'.rangeAt b 8 LR) (by kernel_rfl) hr43 (fun hHeld => ?_)
        refine wpAnyH_take (i := 0) (v := ?v1) rfl (by kernel_rfl) (by kernel_rfl) (by kernel_rfl) (fun _ _ _ h => h) (Or.inl ⟨by rfl, ?hy1⟩) hHeld ?rest1
        case hy1 => (intro w' hSw; go_simp; try with_reducible rfl)
        try simp [Act.put]
        refine wpAnyH_take (i := 1) (v := ?v2) rfl (by kernel_rfl) (by kernel_rfl) (by kernel_rfl) (fun _ _ _ h => h) (Or.inl ⟨by rfl, ?hy2⟩) hHeld ?rest2
        case hy2 => (intro w' hSw; go_simp; try with_reducible rfl)
        try simp [Act.put]
        refine wpAnyH_take (i := 2) (v := ?v3) rfl (by kernel_rfl) (by kernel_rfl) (by kernel_rfl) (fun _ _ _ h => h) (Or.inl ⟨by rfl, ?hy3⟩) hHeld ?rest3
        case hy3 => (intro w' hSw; go_simp; try with_reducible rfl)
        try simp [Act.put]
        refine wpAnyH_take (i := 3) (v := ?v4) rfl (by kernel_rfl) (by kernel_rfl) (by kernel_rfl) (fun _ _ _ h => h) (Or.inl ⟨by rfl, ?hy4⟩) hHeld ?rest4
        case hy4 => (intro w' hSw; go_simp; try with_reducible rfl)
        try simp [Act.put]
        refine wpAnyH_take (i := 5) (v := ?v5) rfl (by kernel_rfl) (by kernel_rfl) (by kernel_rfl) (fun _ _ _ h => h) (Or.inl ⟨by rfl, ?hy5⟩) hHeld ?rest5
        case hy5 => (intro w' hSw; go_simp; try with_reducible rfl)
        try simp [Act.put]
        refine wpAnyH_take (i := 6) (v := ?v6) rfl (by kernel_rfl) (by kernel_rfl) (by kernel_rfl) (fun _ _ _ h => h) (Or.inl ⟨by rfl, ?hy6⟩) hHeld ?rest6
        case hy6 => (intro w' hSw; go_simp; try with_reducible rfl)
        try simp [Act.put]
        refine wpAnyH_take (i := 7) (v := ?v7) rfl (by kernel_rfl) (by kernel_rfl) (by kernel_rfl) (fun _ _ _ h => h) (Or.inl ⟨by rfl, ?hy7⟩) hHeld ?rest7
        case hy7 => (intro w' hSw; go_simp; try with_reducible rfl)
        try simp [Act.put]
        refine wpAnyH_take (i := 8) (v := .agg LR.toArray) rfl (by kernel_rfl) (by kernel_rfl) (by kernel_rfl) (fun _ _ _ h => h) (yieldsIf_load_mid ?hw8 114 (.tmp 35) rfl b 8 rfl LR _ (fun w' hw => hw) hu43 rfl hi43) hHeld ?rest8
        case hw8 => rfl
        try simp [Act.put]
        refine wpAnyH_ready (rs := [4]) (by kernel_rfl) (by simp) ?_
        refine AllReadyH.cons rfl (fun K hK => ?_) AllReadyH.nil
        go_simp
        refine hK.out _ _ ?_ (fun hHeld => ?_)
        · exact hr43
        clear hK K
        try simp [Act.put]
        refine wpAnyH_ready (rs := [9]) (by kernel_rfl) (by simp) ?_
        refine AllReadyH.cons rfl (fun K hK => ?_) AllReadyH.nil
        go_simp
        refine (mixed_lit V R F _ _ HLR.out.symm HFF.out (HK.out.at HBL.out.drew hb0) hin.out hRl.out).mono ?_
        rintro e w2 ⟨rfl, hb2⟩
        have H2 := hide (StAt.below' H1.out hb2)
        have HB2 := hide (HBL.out.drew.trans (hb2.mono H1.out.lt_le))
        clear hb2
        go_simp
        refine hK.out _ _ ?_ (fun hHeld => ?_)
        · exact HRS.out _ H2.out
        clear hK K
        try simp [Act.put]
        have d0 := H2.out.cell (p := 0) (by omega)
        have d1 := H2.out.cell (p := 1) (by omega)
        have d2 := H2.out.cell (p := 2) (by omega)
        have d3 := H2.out.cell (p := 3) (by omega)
        have d4 := H2.out.cell (p := 4) (by omega)
        have d5 := H2.out.cell (p := 5) (by omega)
        have d6 := H2.out.cell (p := 6) (by omega)
        have d7 := H2.out.cell (p := 7) (by omega)
        have df := H2.out.free
        clear c0 c1 c2 c3 c4 c5 c6 c7
        refine wpAnyH_take (i := 10) (v := ?v9) rfl (by kernel_rfl) (by kernel_rfl) (by kernel_rfl) (fun _ _ _ h => h) (Or.inl ⟨by rfl, ?hy9⟩) hHeld ?rest9
        case hy9 => (intro w' hSw; go_simp; try with_reducible rfl)
        try simp [Act.put]
        refine wpAnyH_take (i := 11) (v := ?v10) rfl (by kernel_rfl) (by kernel_rfl) (by kernel_rfl) (fun _ _ _ h => h) (Or.inl ⟨by rfl, ?hy10⟩) hHeld ?rest10
        case hy10 => (intro w' hSw; go_simp; try with_reducible rfl)
        try simp [Act.put]
        refine wpAnyH_ready (rs := [12]) (by kernel_rfl) (by simp) ?_
        refine AllReadyH.cons rfl (fun K hK => ?_) AllReadyH.nil
        go_simp
        refine hK.out _ _ ?_ (fun hHeld => ?_)
        · exact HRF.out _ _ H2.out
        clear hK K
        try simp [Act.put]
        refine wpAnyH_done (by kernel_rfl) (NoPanic.normal ?_) _
        have HN1 : Hid (StAt ((((((((w2.setCell ⟨b, 0, none⟩ (.int .u32 (F.a : Nat))).setCell ⟨b, 1, none⟩ (.int .u32 (F.b : Nat))).setCell ⟨b, 2, none⟩ (.int .u32 (F.c : Nat))).setCell ⟨b, 3, none⟩ (.int .u32 (F.d : Nat))).setCell ⟨b, 4, none⟩ (.int .u32 (F.e : Nat))).setCell ⟨b, 5, none⟩ (.int .u32 (F.f : Nat))).setCell ⟨b, 6, none⟩ (.int .u32 (F.g : Nat))).setCell ⟨b, 7, none⟩ (.int .u32 (F.h : Nat))) b F R N) := H2.out.setWords F
        have HN2 : Hid (Below b w ((((((((w2.setCell ⟨b, 0, none⟩ (.int .u32 (F.a : Nat))).setCell ⟨b, 1, none⟩ (.int .u32 (F.b : Nat))).setCell ⟨b, 2, none⟩ (.int .u32 (F.c : Nat))).setCell ⟨b, 3, none⟩ (.int .u32 (F.d : Nat))).setCell ⟨b, 4, none⟩ (.int .u32 (F.e : Nat))).setCell ⟨b, 5, none⟩ (.int .u32 (F.f : Nat))).setCell ⟨b, 6, none⟩ (.int .u32 (F.g : Nat))).setCell ⟨b, 7, none⟩ (.int .u32 (F.h : Nat)))) := below_setCells (B := b) (c := b) (Nat.le_refl _) (a8 F).toList 0 HB2.out
        clear d0 d1 d2 d3 d4 d5 d6 d7 df hHeld hr43 HRS HRF HLR hi43 hu43 H2 HB2 H1 HBL
        generalize ((((((((w2.setCell ⟨b, 0, none⟩ (.int .u32 (F.a : Nat))).setCell ⟨b, 1, none⟩ (.int .u32 (F.b : Nat))).setCell ⟨b, 2, none⟩ (.int .u32 (F.c : Nat))).setCell ⟨b, 3, none⟩ (.int .u32 (F.d : Nat))).setCell ⟨b, 4, none⟩ (.int .u32 (F.e : Nat))).setCell ⟨b, 5, none⟩ (.int .u32 (F.f : Nat))).setCell ⟨b, 6, none⟩ (.int .u32 (F.g : Nat))).setCell ⟨b, 7, none⟩ (.int .u32 (F.h : Nat))) = W3 at *
        obtain ⟨zf, hzf⟩ : ∃ zf : Nat → Nat, zf = fun _ => 0 := ⟨_, rfl⟩
        have hzb := zero_blk
        rw [← hzf] at hzb
        have HZ := hide hzf
        clear hzf
        have hl3 := (HN1.out.setRest zf).len
        have hf3 := (HN1.out.setRest zf).free 72
        have HN4 := hide (HN1.out.setRest zf)
        have HN5 := hide (below_setCells (B := b) (c := b) (Nat.le_refl _) (b64 zf).toList 8 HN2.out)
        have htk : (k : Int) ≤ (t.size : Int) := by omega
        go_wp2_with (refine wpList_store_mid rfl 114 (.tmp 43) (.tmp 41) rfl b 8 (b64 zf) rfl rfl ?_ (b64_info' zf) (b64_one zf) ?_; (exact StAt.there_rest HN1.out zf); generalize W3.setCells b 8 (b64 zf).toList = W4 at *)
        have hkp : 0 < k := by omega
        refine ⟨⟨j + k, by have := HTZ.out; omega, by rw [hex.out k (by rw [← HTZ.out]; exact hkt)], ?_, HN5.out.setCell (p := ⟨b, 72, none⟩) (Nat.le_refl b) _⟩, ?_⟩
        · rw [show n + (j + k) = N + k by have := HNJ.out; omega, show (N : Int) + (k : Int) = ((N + k : Nat) : Int) by omega]
          have h5 := (HN4.out.setLen (N + k)).congr (r' := restF f (N + k)) fun p _ => by rw [HZ.out]; exact rest_none HM.out.symm hk p
          have e : F = Sh.sts f ((N + k) / 64) := by rw [← HFF.out, ← HVV.out]; exact sts_full HM.out.symm hk hR.out
          rw [e] at h5
          exact h5
        · show (t.extract k t.size).size < t.size
          rw [ByteArray.size_extract]
          omega
    · obtain rfl : j = s.size := by omega
      have hz0 : (s.extract s.size s.size).size = 0 := by rw [ByteArray.size_extract]; omega
      have hlen := HT.out.len
      clear htz
      go_wp2_with fail
      go_ret
      exact ⟨rfl, HT.out, HB.out⟩
end Go.Proofs.YtlpibpkbgmcclaaGreatDoor
namespace Go.Proofs.YtlpibpkbgmcclaaGreatDoor
open Go.RowKit
theorem sts_congr {f g : Nat → Nat} : ∀ {k : Nat}, (∀ p, p < 64 * k → f p = g p) → Sh.sts f k = Sh.sts g k := by
  intro k
  induction k with
  | zero => intro _; rfl
  | succ k ih =>
    intro h
    rw [Sh.sts, Sh.sts, ih fun p hp => h p (by omega)]
    exact blk_congr fun p hp => h _ (by omega)
theorem fb_low {f : Nat → Nat} {n p : Nat} (h : p < n) : Sh.fb f n p = f p := by unfold Sh.fb; rw [if_pos h]
theorem end_fin (f : Nat → Nat) (n : Nat) : endS (Sh.sts f (n / 64)) (restF f n) n = Sh.fin f n := by
  have hbase : Sh.sts (Sh.fb f n) (n / 64) = Sh.sts f (n / 64) := sts_congr fun p hp => fb_low (by omega)
  unfold endS Sh.fin
  by_cases h : n % 64 < 56
  · have hfl : Sh.fl n = 64 * (n / 64) + 64 := by unfold Sh.fl; omega
    rw [if_pos h, show Sh.fl n / 64 = n / 64 + 1 by omega, Sh.sts, hbase]
    refine blk_congr fun p hp => ?_
    unfold lenB markB restF Sh.fb
    rw [hfl]
    by_cases c1 : 56 ≤ p
    · rw [if_pos (by omega), if_neg (by omega), if_neg (by omega), if_neg (by omega)]
      congr 3
      omega
    · rw [if_neg (by omega)]
      by_cases c2 : p = n % 64
      · rw [if_pos c2, if_neg (by omega), if_pos (by omega)]
      · rw [if_neg c2]
        by_cases c3 : p < n % 64
        · rw [if_pos c3, if_pos (by omega)]
        · rw [if_neg c3, if_neg (by omega), if_neg (by omega), if_pos (by omega)]
  · have hfl : Sh.fl n = 64 * (n / 64) + 128 := by unfold Sh.fl; omega
    rw [if_neg h, show Sh.fl n / 64 = n / 64 + 1 + 1 by omega, Sh.sts, Sh.sts, hbase]
    rw [blk_congr (v := Sh.sts f (n / 64)) (b := markB (restF f n) (n % 64)) (b' := fun p => Sh.fb f n (64 * (n / 64) + p)) fun p hp => ?_]
    · refine blk_congr fun p hp => ?_
      unfold lenB Sh.fb
      rw [hfl]
      by_cases c1 : 56 ≤ p
      · rw [if_pos (by omega), if_neg (by omega), if_neg (by omega), if_neg (by omega)]
        congr 3
        omega
      · rw [if_neg (by omega), if_neg (by omega), if_neg (by omega), if_pos (by omega)]
    · unfold markB restF Sh.fb
      rw [hfl]
      by_cases c2 : p = n % 64
      · rw [if_pos c2, if_neg (by omega), if_pos (by omega)]
      · rw [if_neg c2]
        by_cases c3 : p < n % 64
        · rw [if_pos c3, if_pos (by omega)]
        · rw [if_neg c3, if_neg (by omega), if_neg (by omega), if_pos (by omega)]
/-- the digest of a text, as a string -/
def dig (f : Nat → Nat) (n : Nat) : ByteArray := mkS 32 (by8 (Sh.fin f n))
theorem dig_size (f : Nat → Nat) (n : Nat) : (dig f n).size = 32 := mkS_size _ _
theorem dig_congr {f g : Nat → Nat} {n : Nat} (h : ∀ p, p < n → f p = g p) : dig f n = dig g n := by
  unfold dig Sh.fin
  rw [sts_congr (g := Sh.fb g n) fun p hp => ?_]
  unfold Sh.fb
  by_cases c : p < n
  · rw [if_pos c, if_pos c, h p c]
  · rw [if_neg c, if_neg c]
theorem txSum_any (b : Nat) (f : Nat → Nat) (n : Nat) (w : World) (hK : KAt w) (hS : TxSt w b f n) (hf : ∀ p, f p < 256) (hn : n < 1099511627776) :
    Calls Tryz.prog 59 #[.pointer (some ⟨b, 0, none⟩)] w fun e w' => e = .returned (.string (dig f n)) ∧ Below w.heap.size w w' := by
  have h := stSum_any b (Sh.sts f (n / 64)) (restF f n) n w hK hS (sts_in f _) (restF_lt hf n) hn
  rw [end_fin] at h
  exact h
theorem newT_any (f : Nat → Nat) (w : World) : Calls Tryz.prog 57 #[] w fun e w' => ∃ b, e = .returned (.pointer (some ⟨b, 0, none⟩)) ∧ w.heap.size ≤ b ∧ TxSt w' b f 0 ∧ Below w.heap.size w w' := by
  refine (new_any w).mono ?_
  rintro e w' ⟨b, he, hb, hS, hB⟩
  exact ⟨b, he, hb, StAt.congr hS fun p _ => by unfold restF; rw [if_neg (by omega)], hB⟩
set_option maxRecDepth 100000 in
set_option maxHeartbeats 1000000 in
theorem dsum_any (s : ByteArray) (w : World) (hK : KAt w) (hs : s.size ≤ 1000000) :
    Calls Tryz.prog 45 #[.string s] w fun e w' => e = .returned (.string (dig (bt s) s.size)) ∧ Below w.heap.size w w' := by
  have HK := hide hK
  clear hK
  go_enter Tryz.func45, Tryz.ntmps45
  go_wp2_with fail
  refine (newT_any (bt s) w).mono ?_
  rintro e w1 ⟨b, rfl, hb, hT, hB⟩
  have HT := hide hT
  have HB := hide hB
  have hb0 : 0 < b := Nat.lt_of_lt_of_le HK.out.1 hb
  clear hT hB
  go_wp2_with fail
  refine (add_any b (bt s) 0 s w1 (HK.out.below HB.out) hb0 HT.out (bt_lt s) (fun p _ => by rw [Nat.zero_add]) (by omega)).mono ?_
  rintro e w2 ⟨rfl, hT2, hB2⟩
  rw [Nat.zero_add] at hT2
  have HT2 := hide hT2
  have HB2 := hide (HB.out.trans (hB2.mono hb))
  clear hT2 hB2 HT HB
  go_wp2_with fail
  refine (txSum_any b (bt s) s.size w2 (HK.out.below HB2.out) HT2.out (bt_lt s) (by omega)).mono ?_
  rintro e w3 ⟨rfl, hB3⟩
  have HB3 := hide (HB2.out.trans (hB3.mono HB2.out.size))
  clear hB3 HB2
  go_wp2_with fail
  go_ret
  exact ⟨rfl, HB3.out⟩
def sAbc : ByteArray := ⟨#[97, 98, 99]⟩
theorem dig_abc : dig (bt sAbc) 3 = mkS 32 (by8 Sh.abc) := by
  rw [dig_congr (g := fun p => 97 + p) fun p hp => ?_]
  · unfold dig; rw [Sh.fin_abc]
  · rcases (show p = 0 ∨ p = 1 ∨ p = 2 by omega) with rfl | rfl | rfl <;> rfl
theorem dig_nul : dig (bt ByteArray.empty) 0 = mkS 32 (by8 Sh.nul) := by
  rw [dig_congr (g := fun _ => 0) fun p hp => by omega]
  unfold dig; rw [Sh.fin_nul]
end Go.Proofs.YtlpibpkbgmcclaaGreatDoor
namespace Go.Proofs.YtlpibpkbgmcclaaGreatDoor
open Go.RowKit
/-- the filled text, while zeros are put -/
def FlRel (w wr : World) (f : Nat → Nat) (v : Value) (k : Nat) : Prop := wr.ownsRow w.heap.size 5 1 v k (bys f k) ∧ Below w.heap.size w wr
theorem flRel_step {w wr w1 : World} {f : Nat → Nat} {v v' : Value} {k x : Nat} {o : Obj} (h : FlRel w wr f v k) (hx : x = f k) (hown : w1.ownsRow w.heap.size 5 1 v' (k + 1) (bys f k ++ [.int .u8 (x : Int)])) (hgr : (wr.alloc o).grownBy w1 v.ownBlock) : FlRel w w1 f v' (k + 1) := by
  refine ⟨by rw [bys_succ, ← hx]; exact hown, ?_⟩
  refine Below.grown (h.2.alloc h.2.size o) hgr ?_ fun g hg => row_base h.1 hg
  rw [World.size_alloc]
  exact Nat.le_succ_of_le h.2.size
theorem fb_mark (f : Nat → Nat) (n : Nat) : Sh.fb f n n = 128 := by unfold Sh.fb; rw [if_neg (by omega), if_pos rfl]
theorem fb_zero {f : Nat → Nat} {n p : Nat} (h : n < p) (h2 : p < Sh.fl n - 8) : Sh.fb f n p = 0 := by unfold Sh.fb; rw [if_neg (by omega), if_neg (by omega), if_pos h2]
theorem fb_len {f : Nat → Nat} {n p : Nat} (h : n < p) (h2 : Sh.fl n - 8 ≤ p) : Sh.fb f n p = (8 * n) >>> (8 * (Sh.fl n - 1 - p)) % 256 := by unfold Sh.fb; rw [if_neg (by omega), if_neg (by omega), if_neg (by omega)]
theorem fl_mod (n : Nat) : Sh.fl n % 64 = 0 ∧ n + 9 ≤ Sh.fl n ∧ Sh.fl n < n + 73 := by unfold Sh.fl; omega
end Go.Proofs.YtlpibpkbgmcclaaGreatDoor
