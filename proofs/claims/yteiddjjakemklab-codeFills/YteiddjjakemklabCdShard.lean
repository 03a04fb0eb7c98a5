/- What sluicegateref02.shard, Encode and Is answer. -/
import Derived.Test.YteiddjjakemklabCdOpen
namespace Go.Proofs.Yteiddjjakemklab
open Go.RowKit
/-- the first k bytes, as cells -/
def bys (f : Nat → Nat) (k : Nat) : List Value := (List.range k).map fun p => .int .u8 ((f p : Nat) : Int)
theorem bys_succ (f : Nat → Nat) (k : Nat) : bys f (k + 1) = bys f k ++ [.int .u8 ((f k : Nat) : Int)] := by unfold bys; rw [List.range_succ, List.map_append]; rfl
theorem conv_nil (w : World) (f : Nat → Nat) : (convert 64 9 (.slice none 0 0)).run Try.prog w = .ok (.string (mkS 0 f)) w := by
  have : mkS 0 f = ByteArray.empty := rfl
  rw [this]
  simp [convert, Conv.bytesToString, run_underlying Try.underlying64, run_underlying Try.underlying9]
theorem own_string {w : World} {base : Nat} {v : Value} {L : Nat} {f : Nat → Nat} (h : w.ownsRow base 5 1 v L (bys f L)) : (convert 64 9 v).run Try.prog w = .ok (.string (mkS L f)) w := by
  obtain ⟨hl, ⟨rfl, rfl⟩ | ⟨g, cap, cur, rfl, hb, hg, hc, hm, hs, ht⟩⟩ := h
  · exact conv_nil w f
  · refine run_convert_bytes_arg w 64 5 Try.underlying64 Try.underlying5 g 0 L cap _ (by simp) (fun i hi => ?_) 9 Try.underlying9
    rw [Nat.zero_add, cell_of_block hg]
    have h1 : (cur.toList.take (L * 1))[i]? = (bys f L)[i]? := by rw [ht]
    rw [List.getElem?_take, if_pos (by omega)] at h1
    simp [bys, hi] at h1
    rw [h1]
    simp [hi]
theorem own_draws {w : World} {base : Nat} {e : TypeId} {v : Value} {n : Nat} {xs : List Value} (h : w.ownsRow base e 1 v n xs) (m : Nat) : (w.drewN m).ownsRow base e 1 v n xs := h
def ShRel (w wr : World) (f : Nat → Nat) (v : Value) (k : Nat) : Prop := wr.ownsRow w.heap.size 5 1 v k (bys f k) ∧ Below w.heap.size w wr
theorem shRel_step {w wr w1 : World} {f : Nat → Nat} {v v' : Value} {k m : Nat} {o : Obj} (h : ShRel w wr f v k) (hown : w1.ownsRow w.heap.size 5 1 v' (k + 1) (bys f k ++ [.int .u8 ((f k : Nat) : Int)])) (hgr : ((wr.drewN m).alloc o).grownBy w1 v.ownBlock) : ShRel w w1 f v' (k + 1) := by
  refine ⟨by rw [bys_succ]; exact hown, ?_⟩
  refine Below.grown ((below_draws h.2 m).alloc h.2.size o) hgr ?_ fun g hg => (row_base h.1 hg).1
  have := h.2.size
  rw [World.size_alloc]
  exact Nat.le_succ_of_le this
theorem sh_part (l : List ByteArray) (L i : Nat) : mkS L (partS (Cd.fac i) l 6) = sh l L i := rfl
theorem part_step {r : Nat → Nat} {l : List ByteArray} {j k : Nat} {s : ByteArray} (hs : l[j]? = some s) : bits .xor .u8 (partS r l j k : Nat) (Gf.mul (r j) (bt s k) : Nat) = ((partS r l (j + 1) k : Nat) : Int) := by
  rw [u8_xor_nat _ _ (partS_lt _ _ _ _) (Gf.mul_lt _ _)]
  unfold partS; rw [Cd.xs, hs]; rfl
set_option maxRecDepth 100000 in
set_option maxHeartbeats 4000000 in
theorem shard_any (a : Option Addr) (cap L i : Nat) (l : List ByteArray) (w : World) (hi : i < 9) (hl : l.length = 6) (hS : StrsAt w a l) (hL : ∀ s ∈ l, s.size = L) (hLb : L ≤ 1000) :
    Calls Try.prog 27 #[.slice a 6 cap, .int .i64 (i : Int)] w fun e w' => e = .returned (.string (sh l L i)) ∧ Below w.heap.size w w' := by
  rcases hS with hS | ⟨bs, o, rfl, hbs, hc⟩
  · rw [hS] at hl; simp at hl
  obtain ⟨i0, hi0, hz0, hz1, hz2⟩ := info_parts u8_info
  have HI := hide hi0
  have HI0 := hide hz0
  have HI1 := hide hz1
  have HI2 := hide hz2
  obtain ⟨s0, hs0⟩ : ∃ s, l[0]? = some s := ⟨l[0], List.getElem?_eq_getElem (by omega)⟩
  have hc0 : w.cell? ⟨bs, o, none⟩ = some (.string s0) := hc 0 s0 hs0
  have hzs : s0.size = L := hL s0 (List.mem_of_getElem? hs0)
  have HL := hide hL
  have HC := hide hc
  have HN := hide hl
  have HC0 := hide hc0
  clear hi0 hz0 hz1 hz2 hL hc hl hs0 hc0
  go_enter Try.func27, Try.ntmps27
  go_wp2_with fail
  go_loopw [5, 6] (fun v y wr => ∃ k : Nat, k ≤ L ∧ y = .int .i64 k ∧ ShRel w wr (partS (Cd.fac i) l 6) v k) (fun _ y _ => L - (intOf y).toNat)
  case atStart => exact ⟨0, by omega, rfl, World.ownsRow_nil _ _ _ _, Below.refl _ _⟩
  case round =>
    obtain ⟨k, hk, rfl, hrel⟩ := hrel
    have hc0 : wr.cell? ⟨bs, o, none⟩ = some (.string s0) := (hrel.2.cell (p := ⟨bs, o, none⟩) hbs).trans HC0.out
    have hsz := hrel.2.size
    have H := hide hrel
    clear hrel
    by_cases hlt : k < L
    · have hdj : decide ((k : Int) < (s0.size : Int)) = true := by simp; omega
      go_wp2_with fail
      go_loopw [7, 8] (fun s y wr2 => ∃ j : Nat, j ≤ 6 ∧ y = .int .i64 j ∧ s = .int .u8 (partS (Cd.fac i) l j k : Nat) ∧ ∃ m, wr2 = wr.drewN m) (fun _ y _ => 6 - (intOf y).toNat)
      case atStart => exact ⟨0, by omega, rfl, rfl, 0, rfl⟩
      case round =>
        obtain ⟨j, hj, rfl, rfl, m, hm⟩ := hrel
        have HM := hide hm
        clear hm
        by_cases hlj : j < 6
        · obtain ⟨s, hs⟩ : ∃ s, l[j]? = some s := ⟨_, List.getElem?_eq_getElem (by have := HN.out; omega)⟩
          have hz : s.size = L := HL.out s (List.mem_of_getElem? hs)
          have hcj : wr.cell? ⟨bs, o + j, none⟩ = some (.string s) := by rw [HM.out]; exact (H.out.2.cell (p := ⟨bs, o + j, none⟩) hbs).trans (HC.out j s hs)
          have hks : k < s.size := by omega
          have HB := hide (bt_eq hks)
          have hbt := bt_lt s k
          have hk0 : (0 : Int) ≤ (k : Int) := Int.natCast_nonneg _
          have hks' : (k : Int) < (s.size : Int) := by omega
          have hj0 : (0 : Int) ≤ (j : Int) := Int.natCast_nonneg _
          have hj6 : (j : Int) < 6 := by omega
          have HS := hide hs
          clear hs hz
          go_wp2_with fail
          go_quiet (first | (go_at_call 10; exact Calls.quiet_of_same ((refFactor_any i j _ hi hlj).mono fun _ _ h => ⟨h.1, h.2.symm⟩)) | (go_at_call 32; rw [HB.out]; exact Calls.quiet_of_same ((refTimes_any (Cd.fac i j) (bt s k) _ (Cd.fac_lt i j) hbt).mono fun _ _ h => ⟨h.1, h.2.symm⟩)))
          go_wp2_with fail
          go_roundw
          case rel => exact ⟨j + 1, by omega, by go_num, by rw [← part_step HS.out], by rw [HM.out]; exact drew2 _ _ _⟩
          case measure => simp [intOf]; omega
        · obtain rfl : j = 6 := by omega
          have hm := HM.out
          clear HM
          subst hm
          go_wp2_with (first | (at_builtin; refine wpList_append_own _ rfl (.tmp 33) (.tmp 35) 64 rfl w.heap.size 5 i0 (.int .u8 0) 1 1 Try.underlying64 HI.out HI0.out HI1.out HI2.out rfl (by decide) _ k (bys (partS (Cd.fac i) l 6) k) rfl ((own_draws H.out.1 m).alloc _) ⟨wr.heap.size, 0, none⟩ 1 1 [.int .u8 ((partS (Cd.fac i) l 6 k : Nat) : Int)] rfl rfl (cell_one_new _ _ _) (by simp [Value.oneCell']) (by unfold maxLen; omega) (by omega) (by simp; omega) ?_; intro v' w3 hown hgr hnil; clear hnil; have HN3 := hide (shRel_step H.out hown hgr); clear hown hgr))
          exact ⟨⟨k + 1, by omega, by go_num, HN3.out⟩, by simp [intOf]; omega⟩
    · obtain rfl : k = L := by omega
      have hcv := own_string H.out.1
      go_wp2_with fail
      go_ret
      exact ⟨rfl, H.out.2⟩
/-- nine strings, the first k laid -/
def strV (l : List ByteArray) (L k : Nat) : List Value := (List.range k).map fun i => .string (sh l L i)
theorem strV_succ (l : List ByteArray) (L k : Nat) : strV l L (k + 1) = strV l L k ++ [.string (sh l L k)] := by unfold strV; rw [List.range_succ, List.map_append]; rfl
def EcRel (w wr : World) (l : List ByteArray) (L : Nat) (v : Value) (k : Nat) : Prop := wr.ownsRow w.heap.size 9 1 v k (strV l L k) ∧ Below w.heap.size w wr
theorem row_below {w w' : World} {base : Nat} {e : TypeId} {v : Value} {n : Nat} {xs : List Value} (h : w.ownsRow base e 1 v n xs) (hb : Below w.heap.size w w') : w'.ownsRow base e 1 v n xs :=
  row_same h fun _ hg => hb.block _ (by obtain ⟨_, cur, h2⟩ := row_base h hg; exact lt_of_block h2)
theorem ecRel_step {w wr w1 w2 : World} {l : List ByteArray} {L : Nat} {v v' : Value} {k : Nat} {o : Obj} (h : EcRel w wr l L v k) (hb : Below wr.heap.size wr w2) (hown : w1.ownsRow w.heap.size 9 1 v' (k + 1) (strV l L k ++ [.string (sh l L k)])) (hgr : (w2.alloc o).grownBy w1 v.ownBlock) : EcRel w w1 l L v' (k + 1) := by
  refine ⟨by rw [strV_succ]; exact hown, ?_⟩
  have h2 : Below w.heap.size w w2 := h.2.trans (hb.mono h.2.size)
  refine Below.grown (h2.alloc h2.size o) hgr ?_ fun g hg => (row_base h.1 hg).1
  rw [World.size_alloc]
  exact Nat.le_succ_of_le h2.size
def REncLeft (w : World) (l : List ByteArray) (L : Nat) (e : Ending) (w' : World) : Prop :=
  ∃ g cap, e = .returned (.tuple #[.slice (some ⟨g, 0, none⟩) 9 cap, .int .i64 0]) ∧ StrsAt w' (some ⟨g, 0, none⟩) (nine l L) ∧ Below w.heap.size w w'
theorem nine_row {w : World} {base : Nat} {v : Value} {l : List ByteArray} {L : Nat} (h : w.ownsRow base 9 1 v 9 (strV l L 9)) : ∃ g cap, v = .slice (some ⟨g, 0, none⟩) 9 cap ∧ StrsAt w (some ⟨g, 0, none⟩) (nine l L) := by
  obtain ⟨g, cap, e, _, _, _, hst⟩ := StAt.of_row h (by decide)
  refine ⟨g, cap, e, .inr ⟨g, 0, rfl, hst.lt, fun i s hs => ?_⟩⟩
  have hi : i < 9 := by have := (List.getElem?_eq_some_iff.1 hs).1; rwa [nine_len] at this
  rw [nine_at _ _ hi] at hs
  cases hs
  rw [Nat.zero_add, hst.cell hi]
  simp [strV, hi]
set_option maxRecDepth 100000 in
set_option maxHeartbeats 4000000 in
theorem refEncode_any (a : Option Addr) (cap L : Nat) (l : List ByteArray) (w : World) (hl : l.length = 6) (hS : StrsAt w a l) (hL : ∀ s ∈ l, s.size = L) (hLb : L ≤ 1000) :
    Calls Try.prog 13 #[.slice a 6 cap] w (REncLeft w l L) := by
  have HAL := hide (al_of hl hL)
  obtain ⟨i0, hi0, hz0, hz1, hz2⟩ := info_parts str_info
  have HI := hide hi0
  have HI0 := hide hz0
  have HI1 := hide hz1
  have HI2 := hide hz2
  have HL := hide hl
  have HZ := hide hL
  have HS := hide hS
  clear hi0 hz0 hz1 hz2 hl hL hS
  go_enter Try.func13, Try.ntmps13
  go_wp2_with fail
  refine (one_any a 6 cap l _ HL.out (by omega) HS.out).mono ?_
  rintro e w1 ⟨he, q, hq⟩
  rw [HAL.out] at he; subst he
  have hB1 : Below w.heap.size w w1 := by rw [hq]; exact below_draws (Below.refl _ _) q
  have HB1 := hide hB1
  clear hq hB1
  go_wp2_with fail
  go_loopw [4, 5] (fun v y wr => ∃ k : Nat, k ≤ 9 ∧ y = .int .i64 k ∧ EcRel w wr l L v k) (fun _ y _ => 9 - (intOf y).toNat)
  case atStart => exact ⟨0, by omega, rfl, World.ownsRow_nil _ _ _ _, HB1.out⟩
  case round =>
    obtain ⟨k, hk, rfl, hrel⟩ := hrel
    have H := hide hrel
    have hsz := hrel.2.size
    clear hrel
    by_cases hlt : k < 9
    · have hdj : decide ((k : Int) < 9) = true := by simp; omega
      go_wp2_with fail
      refine (shard_any a cap L k l _ hlt HL.out (HS.out.below H.out.2) HZ.out hLb).mono ?_
      rintro e w2 ⟨rfl, hb2⟩
      have hsz2 := hb2.size
      have HB2 := hide hb2
      clear hb2
      go_wp2_with (first | (at_builtin; refine wpList_append_own _ rfl (.tmp 18) (.tmp 22) 30 rfl w.heap.size 9 i0 (.string ByteArray.empty) 1 16 Try.underlying30 HI.out HI0.out HI1.out HI2.out rfl (by decide) _ k (strV l L k) rfl ((row_below H.out.1 HB2.out).alloc _) ⟨w2.heap.size, 0, none⟩ 1 1 [.string (sh l L k)] rfl rfl (cell_one_new _ _ _) (by simp [Value.oneCell']) (by unfold maxLen; omega) (by omega) (by simp; omega) ?_; intro v' w3 hown hgr hnil; clear hnil; have HN3 := hide (ecRel_step H.out HB2.out hown hgr); clear hown hgr))
      first | exact ⟨⟨k + 1, by omega, by go_num, HN3.out⟩, by simp [intOf]; omega⟩ | (go_roundw; case rel => exact ⟨k + 1, by omega, by go_num, HN3.out⟩; case measure => simp [intOf]; omega)
    · obtain rfl : k = 9 := by omega
      obtain ⟨g, c9, hv, hst⟩ := nine_row H.out.1
      subst hv
      have HST := hide hst
      clear hst
      go_wp2_with fail
      go_ret2
      exact ⟨g, c9, rfl, HST.out, H.out.2⟩
set_option maxRecDepth 100000 in
set_option maxHeartbeats 2000000 in
theorem refEncode_many (a : Option Addr) (n cap : Nat) (w : World) (h : n ≠ 6) :
    Calls Try.prog 13 #[.slice a n cap] w fun e w' => e = .returned noStrs ∧ w = w' := by
  have hb : ((n : Int) != 6) = true := by simp; omega
  clear h
  go_enter Try.func13, Try.ntmps13
  go_wp2_with fail
  go_ret2
  exact ⟨rfl, rfl⟩
set_option maxRecDepth 100000 in
set_option maxHeartbeats 2000000 in
theorem refEncode_unlike (a : Option Addr) (cap : Nat) (l : List ByteArray) (w : World) (hl : l.length = 6) (hS : StrsAt w a l) (hA : al l = false) :
    Calls Try.prog 13 #[.slice a 6 cap] w fun e w' => e = .returned noStrs ∧ ∃ m, w' = w.drewN m := by
  have HL := hide hl
  have HS := hide hS
  have HA := hide hA
  clear hl hS hA
  go_enter Try.func13, Try.ntmps13
  go_wp2_with fail
  refine (one_any a 6 cap l _ HL.out (by omega) HS.out).mono ?_
  rintro e w1 ⟨he, q, rfl⟩
  rw [HA.out] at he; subst he
  go_wp2_with fail
  go_ret2
  exact ⟨rfl, q, rfl⟩
set_option maxRecDepth 100000 in
set_option maxHeartbeats 1000000 in
theorem refIs_many (a : Option Addr) (n cap : Nat) (w : World) (h : n ≠ 9) :
    Calls Try.prog 16 #[.slice a n cap] w fun e w' => e = .returned (.bool false) ∧ w = w' := by
  have hb : ((n : Int) != 9) = true := by simp; omega
  clear h
  go_enter Try.func16, Try.ntmps16
  go_wp2_with fail
  go_ret
  exact ⟨rfl, rfl⟩
theorem nine_shs {l : List ByteArray} : nine l (l[0]?.getD ByteArray.empty).size = shs l := rfl
set_option maxRecDepth 100000 in
set_option maxHeartbeats 1000000 in
theorem refIs_nine (a : Option Addr) (cap : Nat) (l : List ByteArray) (w : World) (hl : l.length = 9) (hS : StrsAt w a l) (hcap : 9 ≤ cap) (hLb : ((l.take 6)[0]?.getD ByteArray.empty).size ≤ 1000) :
    Calls Try.prog 16 #[.slice a 9 cap] w fun e w' => e = .returned (.bool (isB l)) ∧ Below w.heap.size w w' := by
  have hc : (6 : Int) ≤ (cap : Int) := by omega
  have h6 : (l.take 6).length = 6 := by simp; omega
  have HL := hide hl
  have HS := hide hS
  have H6 := hide h6
  have HLb := hide hLb
  clear hl hS h6 hLb
  by_cases hal : al (l.take 6) = true
  · have HAL := hide hal
    clear hal
    go_enter Try.func16, Try.ntmps16
    go_wp2_with fail
    refine (refEncode_any a cap _ (l.take 6) w H6.out (HS.out.take 6) (al_size HAL.out) HLb.out).mono ?_
    rintro e w1 ⟨g, c9, rfl, hst, hb⟩
    rw [nine_shs] at hst
    have HSE := hide hst
    have HSL := hide (HS.out.below hb)
    have HB := hide hb
    clear hst hb
    go_wp2_with fail
    refine (same_any _ _ 9 9 c9 cap (shs (l.take 6)) l w1 (shs_len _) HL.out (by omega) (by omega) HSE.out HSL.out).mono ?_
    rintro e w2 ⟨rfl, q, rfl⟩
    go_wp2_with fail
    go_ret
    refine ⟨ret_bool ?_, below_draws HB.out q⟩
    have h9 : decide (l.length = 9) = true := by simp [HL.out]
    show _ = ((decide (l.length = 9) && al (l.take 6)) && decide (shs (l.take 6) = l))
    rw [HAL.out, h9]
    rfl
  · have hal' : al (l.take 6) = false := by simpa using hal
    have HAL := hide hal'
    clear hal hal'
    go_enter Try.func16, Try.ntmps16
    go_wp2_with fail
    refine (refEncode_unlike a cap (l.take 6) w H6.out (HS.out.take 6) HAL.out).mono ?_
    rintro e w1 ⟨rfl, q, rfl⟩
    simp only [noStrs]
    go_wp2_with fail
    go_ret
    refine ⟨ret_bool ?_, below_draws (Below.refl _ _) q⟩
    unfold isB
    rw [HAL.out]; simp
end Go.Proofs.Yteiddjjakemklab
