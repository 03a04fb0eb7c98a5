/- What record.Check answers. -/
import Derived.Test.YtonhmihmnkicdaaGreatRcAlone
import Derived.Test.YtonhmihmnkicdaaGreatRcVol
import Derived.Test.YtonhmihmnkicdaaGreatRcWrRec
namespace Go.Proofs.YtonhmihmnkicdaaGreat
open Go.RowKit
set_option linter.unusedVariables false
theorem yields_row {ops : Array Oper} {S : World → Prop} {op : Oper} {a : Act} (hw : Region.wanted op (yielded ops a.tmps) = true) (ty : TypeId) (x : Operand) (ho : op.op = .load ty x)
    (g : Nat) (hx : a.eval x = .pointer (some ⟨g, 0, none⟩)) (cs : Array Value) (hS : ∀ w, S w → (loadVar ty ⟨g, 0, none⟩).run Tryz.prog w = .ok (.agg cs) w) : YieldsIf Tryz.prog ops S op (.agg cs) a :=
  .inl ⟨hw, fun w hw' => by
    unfold execOp
    simp only [ho, hx, Instr.loadAt, Instr.sureAddr, Sem.run_bind, Sem.run_pure, Result.andThen_ok, hS w hw']⟩
theorem parts_info : (Tryz.prog.info? 95).map (·.size) = some 4 := by kernel_rfl
theorem kOk_iff {k : ByteArray} : kOk k = true ↔ keyOk k := by
  by_cases h : keyOk k
  · rw [kOk_t h]; simp [h]
  · rw [kOk_f h]; simp [h]
set_option maxRecDepth 100000 in
set_option maxHeartbeats 8000000 in
theorem ck_sq (x1 x2 x3 x4 x5 : Int) (xl : List (Int × Int)) (x6 : ByteArray) (x7 x8 x9 : Int) (x10 x11 : ByteArray) (x12 x13 : Int) (a : Option Addr) (c : Nat) (w : World) (hS : LocsAt w a xl) (hl : xl.length ≤ 100000) (h6 : x6.size ≤ 150000000000000) (h10 : x10.size ≤ 150000000000000) (h11 : x11.size ≤ 150000000000000) (h8 : -9223372036854775808 ≤ x8 ∧ x8 ≤ 9223372036854775807) (hq : ¬ ((0 ≤ x1 ∧ x1 ≤ 63) ∧ (0 ≤ x2 ∧ x2 ≤ 3))) :
    Calls Tryz.prog 25 #[.agg (rcs ⟨x1, x2, x3, x4, x5, xl, x6, x7, x8, x9, x10, x11, x12, x13⟩ a c)] w fun e w' => e = .returned (.int .i64 (1)) ∧ Below w.heap.size w w' := by
  obtain ⟨b1, b2, b3, b4, hbb⟩ : ∃ b1 b2 b3 b4, prt x2 = #[.bool b1, .bool b2, .bool b3, .bool b4] := ⟨_, _, _, _, rfl⟩
  have HS := hide hS
  have HL := hide hl
  have HB1 : Hid (Below w.heap.size w (w.alloc (.cells (rcs ⟨x1, x2, x3, x4, x5, xl, x6, x7, x8, x9, x10, x11, x12, x13⟩ a c) 43))) := (Below.refl _ _).alloc (Nat.le_refl _) _
  have HR1 := hide (rbx_new 43 ⟨x1, x2, x3, x4, x5, xl, x6, x7, x8, x9, x10, x11, x12, x13⟩ a c w)
  have HP : Hid (∀ w, Calls Tryz.prog 55 #[.int .i64 x2] w fun r w' => r = .returned (.agg #[.bool b1, .bool b2, .bool b3, .bool b4]) ∧ Below w.heap.size w w') := fun w => by
    have := partsOf_any x2 w
    rw [hbb] at this
    exact this
  clear hS hl hbb
  simp only [rcs] at HB1 ⊢
  go_enter Tryz.func25, Tryz.ntmps25
  go_upto_region 1 with fail
  change Code.wp _ _ _ _ (w.alloc (.cells #[.int .i64 x1, .int .i64 x2, .int .i64 x3, .int .i64 x4, .int .i64 x5, .slice a xl.length c, .string x6, .int .i64 x7, .int .i64 x8, .int .i64 x9, .string x10, .string x11, .int .i64 x12, .int .i64 x13] 43))
  have HR1' : Hid (RBx w.heap.size 43 ⟨x1, x2, x3, x4, x5, xl, x6, x7, x8, x9, x10, x11, x12, x13⟩ a c (w.alloc (.cells #[.int .i64 x1, .int .i64 x2, .int .i64 x3, .int .i64 x4, .int .i64 x5, .slice a xl.length c, .string x6, .int .i64 x7, .int .i64 x8, .int .i64 x9, .string x10, .string x11, .int .i64 x12, .int .i64 x13] 43))) := HR1.out
  clear HR1
  generalize w.alloc (.cells #[.int .i64 x1, .int .i64 x2, .int .i64 x3, .int .i64 x4, .int .i64 x5, .slice a xl.length c, .string x6, .int .i64 x7, .int .i64 x8, .int .i64 x9, .string x10, .string x11, .int .i64 x12, .int .i64 x13] 43) = W1 at *
  have HBX : Hid (∃ q : Nat, w.heap.size = q) := ⟨_, rfl⟩
  obtain ⟨bx, hbx⟩ := HBX.out
  rw [hbx] at HR1' ⊢
  have c1 := HR1'.out.c1
  simp only at c1
  go_wp2_with fail
  refine (HP.out W1).mono ?_
  rintro e w2 ⟨rfl, hb2⟩
  have HB2 := hide ((HB1.out.trans (hb2.mono HB1.out.size)).alloc (Nat.le_trans HB1.out.size hb2.size) (.cells #[.bool b1, .bool b2, .bool b3, .bool b4] 95))
  have HR2 := hide ((HR1'.out.below hb2 HR1'.out.lt).below ((Below.refl _ _).alloc (Nat.le_refl _) (.cells #[.bool b1, .bool b2, .bool b3, .bool b4] 95)) (Nat.lt_of_lt_of_le HR1'.out.lt hb2.size))
  have HH2 : Hid (HBx w2.heap.size b1 b2 b3 b4 (w2.alloc (.cells #[.bool b1, .bool b2, .bool b3, .bool b4] 95))) := heap_alloc_new _ _
  clear hb2 HB1 HR1' HP c1 HBX hbx
  go_upto_region 2 with fail
  generalize w2.alloc (.cells #[.bool b1, .bool b2, .bool b3, .bool b4] 95) = W2 at *
  generalize w2.heap.size = hx at *
  obtain ⟨d0, d1, d2, d3⟩ := HH2.out.cells
  obtain ⟨c0, c1, c2, c3, c4, c5, c6, c7, c8, c9, c10, c11, c12, c13⟩ := HR2.out.cells
  simp only at c0 c1 c2 c3 c4 c5 c6 c7 c8 c9 c10 c11 c12 c13
  have K1 := hide (upTo_any x1 63 W2)
  have K2 := hide (upTo_any x2 3 W2)
  by_cases r1 : 0 ≤ x1 ∧ x1 ≤ 63
  · have r2 : ¬ (0 ≤ x2 ∧ x2 ≤ 3) := fun q => hq ⟨r1, q⟩
    rw [decide_eq_true r1] at K1
    rw [decide_eq_false r2] at K2
    clear r1 r2 hq d0 d1 d2 d3
    go_wp2_with fail
    refine K1.out.mono ?_
    rintro e _ ⟨rfl, rfl⟩
    go_wp2_with fail
    refine K2.out.mono ?_
    rintro e _ ⟨rfl, rfl⟩
    go_wp2_with fail
    try go_ret
    exact ⟨rfl, HB2.out⟩
  · rw [decide_eq_false r1] at K1
    clear r1 hq d0 d1 d2 d3
    go_wp2_with fail
    refine K1.out.mono ?_
    rintro e _ ⟨rfl, rfl⟩
    go_wp2_with fail
    try go_ret
    exact ⟨rfl, HB2.out⟩
set_option maxRecDepth 100000 in
set_option maxHeartbeats 8000000 in
theorem ck_0 (x1 x3 x4 x5 : Int) (xl : List (Int × Int)) (x6 : ByteArray) (x7 x8 x9 : Int) (x10 x11 : ByteArray) (x12 x13 : Int) (a : Option Addr) (c : Nat) (w : World) (hS : LocsAt w a xl) (hl : xl.length ≤ 100000) (h6 : x6.size ≤ 150000000000000) (h10 : x10.size ≤ 150000000000000) (h11 : x11.size ≤ 150000000000000) (h8 : -9223372036854775808 ≤ x8 ∧ x8 ≤ 9223372036854775807) (hq : 0 ≤ x1 ∧ x1 ≤ 63) :
    Calls Tryz.prog 25 #[.agg (rcs ⟨x1, 0, x3, x4, x5, xl, x6, x7, x8, x9, x10, x11, x12, x13⟩ a c)] w fun e w' => e = .returned (.int .i64 (ckR ⟨x1, 0, x3, x4, x5, xl, x6, x7, x8, x9, x10, x11, x12, x13⟩)) ∧ Below w.heap.size w w' := by
  skip
  have HS := hide hS
  have HL := hide hl
  have HB1 : Hid (Below w.heap.size w (w.alloc (.cells (rcs ⟨x1, 0, x3, x4, x5, xl, x6, x7, x8, x9, x10, x11, x12, x13⟩ a c) 43))) := (Below.refl _ _).alloc (Nat.le_refl _) _
  have HR1 := hide (rbx_new 43 ⟨x1, 0, x3, x4, x5, xl, x6, x7, x8, x9, x10, x11, x12, x13⟩ a c w)
  have HP : Hid (∀ w, Calls Tryz.prog 55 #[.int .i64 0] w fun r w' => r = .returned (.agg #[.bool true, .bool true, .bool false, .bool false]) ∧ Below w.heap.size w w') := fun w => by
    have := partsOf_any 0 w
    simp [prt] at this
    exact this
  clear hS hl
  simp only [rcs] at HB1 ⊢
  go_enter Tryz.func25, Tryz.ntmps25
  go_upto_region 1 with fail
  change Code.wp _ _ _ _ (w.alloc (.cells #[.int .i64 x1, .int .i64 0, .int .i64 x3, .int .i64 x4, .int .i64 x5, .slice a xl.length c, .string x6, .int .i64 x7, .int .i64 x8, .int .i64 x9, .string x10, .string x11, .int .i64 x12, .int .i64 x13] 43))
  have HR1' : Hid (RBx w.heap.size 43 ⟨x1, 0, x3, x4, x5, xl, x6, x7, x8, x9, x10, x11, x12, x13⟩ a c (w.alloc (.cells #[.int .i64 x1, .int .i64 0, .int .i64 x3, .int .i64 x4, .int .i64 x5, .slice a xl.length c, .string x6, .int .i64 x7, .int .i64 x8, .int .i64 x9, .string x10, .string x11, .int .i64 x12, .int .i64 x13] 43))) := HR1.out
  clear HR1
  generalize w.alloc (.cells #[.int .i64 x1, .int .i64 0, .int .i64 x3, .int .i64 x4, .int .i64 x5, .slice a xl.length c, .string x6, .int .i64 x7, .int .i64 x8, .int .i64 x9, .string x10, .string x11, .int .i64 x12, .int .i64 x13] 43) = W1 at *
  have HBX : Hid (∃ q : Nat, w.heap.size = q) := ⟨_, rfl⟩
  obtain ⟨bx, hbx⟩ := HBX.out
  rw [hbx] at HR1' ⊢
  have c1 := HR1'.out.c1
  simp only at c1
  go_wp2_with fail
  refine (HP.out W1).mono ?_
  rintro e w2 ⟨rfl, hb2⟩
  have HB2 := hide ((HB1.out.trans (hb2.mono HB1.out.size)).alloc (Nat.le_trans HB1.out.size hb2.size) (.cells #[.bool true, .bool true, .bool false, .bool false] 95))
  have HR2 := hide ((HR1'.out.below hb2 HR1'.out.lt).below ((Below.refl _ _).alloc (Nat.le_refl _) (.cells #[.bool true, .bool true, .bool false, .bool false] 95)) (Nat.lt_of_lt_of_le HR1'.out.lt hb2.size))
  have HH2 : Hid (HBx w2.heap.size true true false false (w2.alloc (.cells #[.bool true, .bool true, .bool false, .bool false] 95))) := heap_alloc_new _ _
  clear hb2 HB1 HR1' HP c1 HBX hbx
  go_upto_region 2 with fail
  generalize w2.alloc (.cells #[.bool true, .bool true, .bool false, .bool false] 95) = W2 at *
  generalize w2.heap.size = hx at *
  obtain ⟨d0, d1, d2, d3⟩ := HH2.out.cells
  obtain ⟨c0, c1, c2, c3, c4, c5, c6, c7, c8, c9, c10, c11, c12, c13⟩ := HR2.out.cells
  simp only at c0 c1 c2 c3 c4 c5 c6 c7 c8 c9 c10 c11 c12 c13
  have HSQ : Hid (Rc.sqOk ⟨x1, 0, x3, x4, x5, xl, x6, x7, x8, x9, x10, x11, x12, x13⟩) := ⟨hq, show (0 : Int) ≤ 0 ∧ (0 : Int) ≤ 3 by decide⟩
  have K1 := hide (upTo_any x1 63 W2)
  have K2 := hide (upTo_any 0 3 W2)
  rw [decide_eq_true hq] at K1
  rw [decide_eq_true (by decide)] at K2
  clear hq
  go_wp2_with fail
  refine K1.out.mono ?_
  rintro e _ ⟨rfl, rfl⟩
  go_wp2_with fail
  refine K2.out.mono ?_
  rintro e _ ⟨rfl, rfl⟩
  clear K1 K2
  have KV := hide (vol_any x3 x4 x5 a xl.length c xl W2 rfl (by have := HL.out; omega) (HS.out.below HB2.out))
  go_wp2_with fail
  refine KV.out.mono ?_
  rintro e w3 ⟨rfl, hb⟩
  have HB3 := hide (HB2.out.trans (hb.mono HB2.out.size))
  have HR3 := hide (HR2.out.below hb HR2.out.lt)
  have HH3 := hide (HH2.out.below hb)
  clear hb KV HB2 HR2 HH2 c0 c1 c2 c3 c4 c5 c6 c7 c8 c9 c10 c11 c12 c13 d0 d1 d2 d3
  obtain ⟨d0, d1, d2, d3⟩ := HH3.out.cells
  obtain ⟨c0, c1, c2, c3, c4, c5, c6, c7, c8, c9, c10, c11, c12, c13⟩ := HR3.out.cells
  simp only at c0 c1 c2 c3 c4 c5 c6 c7 c8 c9 c10 c11 c12 c13
  by_cases hvol : Rc.volOk ⟨x1, 0, x3, x4, x5, xl, x6, x7, x8, x9, x10, x11, x12, x13⟩
  case neg =>
    have HE : Hid (ckK ⟨x1, 0, x3, x4, x5, xl, x6, x7, x8, x9, x10, x11, x12, x13⟩ = 1) := by show ckK _ = _; unfold ckK; rw [if_pos rfl, if_neg hvol]
    have HE2 : Hid (1 = ckR ⟨x1, 0, x3, x4, x5, xl, x6, x7, x8, x9, x10, x11, x12, x13⟩) := by show _ = _; rw [ckR_k HSQ.out (by rw [HE.out]; decide), HE.out]
    rw [decide_eq_false (show ¬ volR x3 x4 x5 xl from hvol)]
    go_wp2_with fail
    try go_ret
    exact ⟨ret_int HE2.out, HB3.out⟩
  rw [decide_eq_true (show volR x3 x4 x5 xl from hvol)]
  have KV := hide (rkey_any x6 w3 (by omega))
  go_wp2_with fail
  refine KV.out.mono ?_
  rintro e w4 ⟨rfl, hb⟩
  have HB4 := hide (HB3.out.trans (hb.mono HB3.out.size))
  have HR4 := hide (HR3.out.below hb HR3.out.lt)
  have HH4 := hide (HH3.out.below hb)
  clear hb KV HB3 HR3 HH3 c0 c1 c2 c3 c4 c5 c6 c7 c8 c9 c10 c11 c12 c13 d0 d1 d2 d3
  obtain ⟨d0, d1, d2, d3⟩ := HH4.out.cells
  obtain ⟨c0, c1, c2, c3, c4, c5, c6, c7, c8, c9, c10, c11, c12, c13⟩ := HR4.out.cells
  simp only at c0 c1 c2 c3 c4 c5 c6 c7 c8 c9 c10 c11 c12 c13
  by_cases hkey : keyOk x6
  case neg =>
    have HE : Hid (ckK ⟨x1, 0, x3, x4, x5, xl, x6, x7, x8, x9, x10, x11, x12, x13⟩ = 11) := by show ckK _ = _; unfold ckK; rw [if_pos rfl, if_pos hvol, if_neg hkey]
    have HE2 : Hid (11 = ckR ⟨x1, 0, x3, x4, x5, xl, x6, x7, x8, x9, x10, x11, x12, x13⟩) := by show _ = _; rw [ckR_k HSQ.out (by rw [HE.out]; decide), HE.out]
    rw [kOk_f hkey]
    go_wp2_with fail
    try go_ret
    exact ⟨ret_int HE2.out, HB4.out⟩
  rw [kOk_t hkey]
  have KV := hide (isWithin_any x3 x4 x5 a xl.length c x6 x7 x8 x9 x10 w4 hvol.2.2.1 h8 (by omega))
  go_wp2_with fail
  refine KV.out.mono ?_
  rintro e w5 ⟨rfl, hb⟩
  have HB5 := hide (HB4.out.trans (hb.mono HB4.out.size))
  have HR5 := hide (HR4.out.below hb HR4.out.lt)
  have HH5 := hide (HH4.out.below hb)
  clear hb KV HB4 HR4 HH4 c0 c1 c2 c3 c4 c5 c6 c7 c8 c9 c10 c11 c12 c13 d0 d1 d2 d3
  obtain ⟨d0, d1, d2, d3⟩ := HH5.out.cells
  obtain ⟨c0, c1, c2, c3, c4, c5, c6, c7, c8, c9, c10, c11, c12, c13⟩ := HR5.out.cells
  simp only at c0 c1 c2 c3 c4 c5 c6 c7 c8 c9 c10 c11 c12 c13
  by_cases hin : Rc.inOk ⟨x1, 0, x3, x4, x5, xl, x6, x7, x8, x9, x10, x11, x12, x13⟩
  case neg =>
    have HE : Hid (ckK ⟨x1, 0, x3, x4, x5, xl, x6, x7, x8, x9, x10, x11, x12, x13⟩ = 1) := by show ckK _ = _; unfold ckK; rw [if_pos rfl, if_pos hvol, if_pos hkey, if_neg hin]
    have HE2 : Hid (1 = ckR ⟨x1, 0, x3, x4, x5, xl, x6, x7, x8, x9, x10, x11, x12, x13⟩) := by show _ = _; rw [ckR_k HSQ.out (by rw [HE.out]; decide), HE.out]
    rw [decide_eq_false (show ¬ inEn x3 x7 x8 x9 x5 x10.size from hin)]
    go_wp2_with fail
    try go_ret
    exact ⟨ret_int HE2.out, HB5.out⟩
  rw [decide_eq_true (show inEn x3 x7 x8 x9 x5 x10.size from hin)]
  have HKK : Hid (ckK ⟨x1, 0, x3, x4, x5, xl, x6, x7, x8, x9, x10, x11, x12, x13⟩ = 0) := (ckK_0 rfl).2 ⟨hvol, hkey, hin⟩
  have HAL : Hid (∀ w, Calls Tryz.prog 62 #[.agg #[.bool true, .bool true, .bool false, .bool false], .agg (rcs ⟨x1, 0, x3, x4, x5, xl, x6, x7, x8, x9, x10, x11, x12, x13⟩ a c)] w fun e w' => e = .returned (.agg (rcs ⟨x1, 0, x3, x4, x5, xl, x6, x7, x8, x9, x10, ByteArray.empty, 0, 0⟩ a c)) ∧ Below w.heap.size w w') := fun w => by
    have q := alone_any ⟨x1, 0, x3, x4, x5, xl, x6, x7, x8, x9, x10, x11, x12, x13⟩ a c w HSQ.out
    simp [prt] at q
    exact q
  have HLA := hide (alone_locs (r := ⟨x1, 0, x3, x4, x5, xl, x6, x7, x8, x9, x10, x11, x12, x13⟩) (HS.out.below HB5.out))
  have hne1 : ((3 : Nat) = 3) := rfl
  go_wp2_with fail
  clear c0 c1 c2 c3 c4 c5 c6 c7 c8 c9 c10 c11 c12 c13 d0 d1 d2 d3
  refine wp_region_noPanic ?_
  refine wp_region_held_drew (S := fun w => RBx bx 43 ⟨x1, 0, x3, x4, x5, xl, x6, x7, x8, x9, x10, x11, x12, x13⟩ a c w ∧ HBx hx true true false false w) (by kernel_rfl) ⟨HR5.out, HH5.out⟩ (fun hHeld => ?_)
  refine wpAnyH_take (i := 0) (v := .agg (rcs ⟨x1, 0, x3, x4, x5, xl, x6, x7, x8, x9, x10, x11, x12, x13⟩ a c)) rfl (by kernel_rfl) (by kernel_rfl) (by kernel_rfl) (fun _ _ _ h => h) (yields_row (by rfl) 43 (.tmp 1) rfl bx rfl (rcs ⟨x1, 0, x3, x4, x5, xl, x6, x7, x8, x9, x10, x11, x12, x13⟩ a c) (fun w h => run_loadVar_row w bx 43 43 (rcs ⟨x1, 0, x3, x4, x5, xl, x6, x7, x8, x9, x10, x11, x12, x13⟩ a c) (0, 0) _ h.1 Tryz.underlying43 rfl rec_info)) hHeld ?_
  try simp [Act.put]
  refine wpAnyH_take (i := 1) (v := .agg (#[.bool true, .bool true, .bool false, .bool false])) rfl (by kernel_rfl) (by kernel_rfl) (by kernel_rfl) (fun _ _ _ h => h) (yields_row (by rfl) 95 (.tmp 3) rfl hx rfl (#[.bool true, .bool true, .bool false, .bool false]) (fun w h => run_loadVar_row w hx 95 95 (#[.bool true, .bool true, .bool false, .bool false]) (0, 0) _ h.2 Tryz.underlying95 rfl parts_info)) hHeld ?_
  try simp [Act.put]
  refine wpAnyH_take (i := 2) (v := .agg (rcs ⟨x1, 0, x3, x4, x5, xl, x6, x7, x8, x9, x10, x11, x12, x13⟩ a c)) rfl (by kernel_rfl) (by kernel_rfl) (by kernel_rfl) (fun _ _ _ h => h) (yields_row (by rfl) 43 (.tmp 1) rfl bx rfl (rcs ⟨x1, 0, x3, x4, x5, xl, x6, x7, x8, x9, x10, x11, x12, x13⟩ a c) (fun w h => run_loadVar_row w bx 43 43 (rcs ⟨x1, 0, x3, x4, x5, xl, x6, x7, x8, x9, x10, x11, x12, x13⟩ a c) (0, 0) _ h.1 Tryz.underlying43 rfl rec_info)) hHeld ?_
  try simp [Act.put]
  refine wpAnyH_ready (rs := [3]) (by kernel_rfl) (by simp) ?_
  refine AllReadyH.cons rfl (fun K hK => ?_) AllReadyH.nil
  go_simp
  refine (HAL.out _).mono ?_
  rintro e w9 ⟨rfl, hb9⟩
  have hbd : Below w5.heap.size w5 w9 := (drew_below w5).trans hb9
  have HB9 := hide (HB5.out.trans (hbd.mono HB5.out.size))
  have HR9 := hide (HR5.out.below hbd HR5.out.lt)
  have HH9 := hide (HH5.out.below hbd)
  have HLA9 : Hid (LocsAt w9 a (Rc.ls ⟨x1, 0, x3, x4, x5, xl, x6, x7, x8, x9, x10, ByteArray.empty, 0, 0⟩)) := HLA.out.1.below hbd
  refine hK.out _ _ ⟨HR9.out, HH9.out⟩ (fun hHeld => ?_)
  clear hK K hb9 hbd
  try simp [Act.put]
  refine wpAnyH_ready (rs := [4]) (by kernel_rfl) (by simp) ?_
  refine AllReadyH.cons rfl (fun K hK => ?_) AllReadyH.nil
  go_simp
  refine (same_any ⟨x1, 0, x3, x4, x5, xl, x6, x7, x8, x9, x10, x11, x12, x13⟩ ⟨x1, 0, x3, x4, x5, xl, x6, x7, x8, x9, x10, ByteArray.empty, 0, 0⟩ a a c c w9 (by have := HL.out; simp only; omega) (by have := HL.out; simp only; omega) (HS.out.below HB9.out) HLA9.out).mono ?_
  rintro e w10 ⟨rfl, hb10⟩
  have HB10 := hide (HB9.out.trans (hb10.mono HB9.out.size))
  have HR10 := hide (HR9.out.below hb10 HR9.out.lt)
  have HH10 := hide (HH9.out.below hb10)
  refine hK.out _ _ ⟨HR10.out, HH10.out⟩ (fun hHeld => ?_)
  clear hK K hb10
  try simp [Act.put]
  by_cases hsm : (⟨x1, 0, x3, x4, x5, xl, x6, x7, x8, x9, x10, x11, x12, x13⟩ : Rc) = ⟨x1, 0, x3, x4, x5, xl, x6, x7, x8, x9, x10, ByteArray.empty, 0, 0⟩
  · rw [samR_iff.2 hsm]
    have HF : Hid (0 = ckR ⟨x1, 0, x3, x4, x5, xl, x6, x7, x8, x9, x10, x11, x12, x13⟩) := (ckR_ok HSQ.out HKK.out hsm).symm
    clear hsm
    refine wpAnyH_take (i := 5) (v := ?v1) rfl (by kernel_rfl) (by kernel_rfl) (by kernel_rfl) (fun _ _ _ h => h) (Or.inl ⟨by rfl, ?hy1⟩) hHeld ?rest1
    case hy1 => (intro w' hSw; go_simp; try with_reducible rfl)
    try simp [Act.put]
    refine wpAnyH_take (i := 6) (v := ?v2) rfl (by kernel_rfl) (by kernel_rfl) (by kernel_rfl) (fun _ _ _ h => h) (Or.inl ⟨by rfl, ?hy2⟩) hHeld ?rest2
    case hy2 => (intro w' hSw; go_simp; try with_reducible rfl)
    try simp [Act.put]
    refine wpAnyH_done (by kernel_rfl) (NoPanic.normal ?_) _
    go_wp2_with fail
    try go_ret
    exact ⟨ret_int HF.out, HB10.out⟩
  · rw [samR_no hsm]
    have HF : Hid (1 = ckR ⟨x1, 0, x3, x4, x5, xl, x6, x7, x8, x9, x10, x11, x12, x13⟩) := (ckR_more HSQ.out HKK.out hsm).symm
    clear hsm
    refine wpAnyH_take (i := 5) (v := ?v3) rfl (by kernel_rfl) (by kernel_rfl) (by kernel_rfl) (fun _ _ _ h => h) (Or.inl ⟨by rfl, ?hy3⟩) hHeld ?rest3
    case hy3 => (intro w' hSw; go_simp; try with_reducible rfl)
    try simp [Act.put]
    refine wpAnyH_take (i := 6) (v := ?v4) rfl (by kernel_rfl) (by kernel_rfl) (by kernel_rfl) (fun _ _ _ h => h) (Or.inl ⟨by rfl, ?hy4⟩) hHeld ?rest4
    case hy4 => (intro w' hSw; go_simp; try with_reducible rfl)
    try simp [Act.put]
    refine wpAnyH_done (by kernel_rfl) (NoPanic.normal ?_) _
    go_wp2_with fail
    try go_ret
    exact ⟨ret_int HF.out, HB10.out⟩
set_option maxRecDepth 100000 in
set_option maxHeartbeats 8000000 in
theorem ck_1 (x1 x3 x4 x5 : Int) (xl : List (Int × Int)) (x6 : ByteArray) (x7 x8 x9 : Int) (x10 x11 : ByteArray) (x12 x13 : Int) (a : Option Addr) (c : Nat) (w : World) (hS : LocsAt w a xl) (hl : xl.length ≤ 100000) (h6 : x6.size ≤ 150000000000000) (h10 : x10.size ≤ 150000000000000) (h11 : x11.size ≤ 150000000000000) (h8 : -9223372036854775808 ≤ x8 ∧ x8 ≤ 9223372036854775807) (hq : 0 ≤ x1 ∧ x1 ≤ 63) :
    Calls Tryz.prog 25 #[.agg (rcs ⟨x1, 1, x3, x4, x5, xl, x6, x7, x8, x9, x10, x11, x12, x13⟩ a c)] w fun e w' => e = .returned (.int .i64 (ckR ⟨x1, 1, x3, x4, x5, xl, x6, x7, x8, x9, x10, x11, x12, x13⟩)) ∧ Below w.heap.size w w' := by
  skip
  have HS := hide hS
  have HL := hide hl
  have HB1 : Hid (Below w.heap.size w (w.alloc (.cells (rcs ⟨x1, 1, x3, x4, x5, xl, x6, x7, x8, x9, x10, x11, x12, x13⟩ a c) 43))) := (Below.refl _ _).alloc (Nat.le_refl _) _
  have HR1 := hide (rbx_new 43 ⟨x1, 1, x3, x4, x5, xl, x6, x7, x8, x9, x10, x11, x12, x13⟩ a c w)
  have HP : Hid (∀ w, Calls Tryz.prog 55 #[.int .i64 1] w fun r w' => r = .returned (.agg #[.bool false, .bool false, .bool true, .bool false]) ∧ Below w.heap.size w w') := fun w => by
    have := partsOf_any 1 w
    simp [prt] at this
    exact this
  clear hS hl
  simp only [rcs] at HB1 ⊢
  go_enter Tryz.func25, Tryz.ntmps25
  go_upto_region 1 with fail
  change Code.wp _ _ _ _ (w.alloc (.cells #[.int .i64 x1, .int .i64 1, .int .i64 x3, .int .i64 x4, .int .i64 x5, .slice a xl.length c, .string x6, .int .i64 x7, .int .i64 x8, .int .i64 x9, .string x10, .string x11, .int .i64 x12, .int .i64 x13] 43))
  have HR1' : Hid (RBx w.heap.size 43 ⟨x1, 1, x3, x4, x5, xl, x6, x7, x8, x9, x10, x11, x12, x13⟩ a c (w.alloc (.cells #[.int .i64 x1, .int .i64 1, .int .i64 x3, .int .i64 x4, .int .i64 x5, .slice a xl.length c, .string x6, .int .i64 x7, .int .i64 x8, .int .i64 x9, .string x10, .string x11, .int .i64 x12, .int .i64 x13] 43))) := HR1.out
  clear HR1
  generalize w.alloc (.cells #[.int .i64 x1, .int .i64 1, .int .i64 x3, .int .i64 x4, .int .i64 x5, .slice a xl.length c, .string x6, .int .i64 x7, .int .i64 x8, .int .i64 x9, .string x10, .string x11, .int .i64 x12, .int .i64 x13] 43) = W1 at *
  have HBX : Hid (∃ q : Nat, w.heap.size = q) := ⟨_, rfl⟩
  obtain ⟨bx, hbx⟩ := HBX.out
  rw [hbx] at HR1' ⊢
  have c1 := HR1'.out.c1
  simp only at c1
  go_wp2_with fail
  refine (HP.out W1).mono ?_
  rintro e w2 ⟨rfl, hb2⟩
  have HB2 := hide ((HB1.out.trans (hb2.mono HB1.out.size)).alloc (Nat.le_trans HB1.out.size hb2.size) (.cells #[.bool false, .bool false, .bool true, .bool false] 95))
  have HR2 := hide ((HR1'.out.below hb2 HR1'.out.lt).below ((Below.refl _ _).alloc (Nat.le_refl _) (.cells #[.bool false, .bool false, .bool true, .bool false] 95)) (Nat.lt_of_lt_of_le HR1'.out.lt hb2.size))
  have HH2 : Hid (HBx w2.heap.size false false true false (w2.alloc (.cells #[.bool false, .bool false, .bool true, .bool false] 95))) := heap_alloc_new _ _
  clear hb2 HB1 HR1' HP c1 HBX hbx
  go_upto_region 2 with fail
  generalize w2.alloc (.cells #[.bool false, .bool false, .bool true, .bool false] 95) = W2 at *
  generalize w2.heap.size = hx at *
  obtain ⟨d0, d1, d2, d3⟩ := HH2.out.cells
  obtain ⟨c0, c1, c2, c3, c4, c5, c6, c7, c8, c9, c10, c11, c12, c13⟩ := HR2.out.cells
  simp only at c0 c1 c2 c3 c4 c5 c6 c7 c8 c9 c10 c11 c12 c13
  have HSQ : Hid (Rc.sqOk ⟨x1, 1, x3, x4, x5, xl, x6, x7, x8, x9, x10, x11, x12, x13⟩) := ⟨hq, show (0 : Int) ≤ 1 ∧ (1 : Int) ≤ 3 by decide⟩
  have K1 := hide (upTo_any x1 63 W2)
  have K2 := hide (upTo_any 1 3 W2)
  rw [decide_eq_true hq] at K1
  rw [decide_eq_true (by decide)] at K2
  clear hq
  go_wp2_with fail
  refine K1.out.mono ?_
  rintro e _ ⟨rfl, rfl⟩
  go_wp2_with fail
  refine K2.out.mono ?_
  rintro e _ ⟨rfl, rfl⟩
  clear K1 K2
  have KV := hide (rkey_any x11 W2 (by omega))
  go_wp2_with fail
  refine KV.out.mono ?_
  rintro e w3 ⟨rfl, hb⟩
  have HB3 := hide (HB2.out.trans (hb.mono HB2.out.size))
  have HR3 := hide (HR2.out.below hb HR2.out.lt)
  have HH3 := hide (HH2.out.below hb)
  clear hb KV HB2 HR2 HH2 c0 c1 c2 c3 c4 c5 c6 c7 c8 c9 c10 c11 c12 c13 d0 d1 d2 d3
  obtain ⟨d0, d1, d2, d3⟩ := HH3.out.cells
  obtain ⟨c0, c1, c2, c3, c4, c5, c6, c7, c8, c9, c10, c11, c12, c13⟩ := HR3.out.cells
  simp only at c0 c1 c2 c3 c4 c5 c6 c7 c8 c9 c10 c11 c12 c13
  by_cases hkey : keyOk x11
  case neg =>
    have HE : Hid (ckK ⟨x1, 1, x3, x4, x5, xl, x6, x7, x8, x9, x10, x11, x12, x13⟩ = 11) := by show ckK _ = _; unfold ckK; rw [if_neg (by simp), if_pos rfl, if_neg hkey]
    have HE2 : Hid (11 = ckR ⟨x1, 1, x3, x4, x5, xl, x6, x7, x8, x9, x10, x11, x12, x13⟩) := by show _ = _; rw [ckR_k HSQ.out (by rw [HE.out]; decide), HE.out]
    rw [kOk_f hkey]
    go_wp2_with fail
    try go_ret
    exact ⟨ret_int HE2.out, HB3.out⟩
  rw [kOk_t hkey]
  have HKK : Hid (ckK ⟨x1, 1, x3, x4, x5, xl, x6, x7, x8, x9, x10, x11, x12, x13⟩ = 0) := (ckK_1 rfl).2 hkey
  have HAL : Hid (∀ w, Calls Tryz.prog 62 #[.agg #[.bool false, .bool false, .bool true, .bool false], .agg (rcs ⟨x1, 1, x3, x4, x5, xl, x6, x7, x8, x9, x10, x11, x12, x13⟩ a c)] w fun e w' => e = .returned (.agg (rcs ⟨x1, 1, 0, 0, 0, [], ByteArray.empty, 0, 0, 0, ByteArray.empty, x11, 0, 0⟩ none 0)) ∧ Below w.heap.size w w') := fun w => by
    have q := alone_any ⟨x1, 1, x3, x4, x5, xl, x6, x7, x8, x9, x10, x11, x12, x13⟩ a c w HSQ.out
    simp [prt] at q
    exact q
  have HLA := hide (alone_locs (r := ⟨x1, 1, x3, x4, x5, xl, x6, x7, x8, x9, x10, x11, x12, x13⟩) (HS.out.below HB3.out))
  have hne1 : ((1 : Nat) = 1) := rfl
  go_wp2_with fail
  clear c0 c1 c2 c3 c4 c5 c6 c7 c8 c9 c10 c11 c12 c13 d0 d1 d2 d3
  refine wp_region_noPanic ?_
  refine wp_region_held_drew (S := fun w => RBx bx 43 ⟨x1, 1, x3, x4, x5, xl, x6, x7, x8, x9, x10, x11, x12, x13⟩ a c w ∧ HBx hx false false true false w) (by kernel_rfl) ⟨HR3.out, HH3.out⟩ (fun hHeld => ?_)
  refine wpAnyH_take (i := 0) (v := .agg (rcs ⟨x1, 1, x3, x4, x5, xl, x6, x7, x8, x9, x10, x11, x12, x13⟩ a c)) rfl (by kernel_rfl) (by kernel_rfl) (by kernel_rfl) (fun _ _ _ h => h) (yields_row (by rfl) 43 (.tmp 1) rfl bx rfl (rcs ⟨x1, 1, x3, x4, x5, xl, x6, x7, x8, x9, x10, x11, x12, x13⟩ a c) (fun w h => run_loadVar_row w bx 43 43 (rcs ⟨x1, 1, x3, x4, x5, xl, x6, x7, x8, x9, x10, x11, x12, x13⟩ a c) (0, 0) _ h.1 Tryz.underlying43 rfl rec_info)) hHeld ?_
  try simp [Act.put]
  refine wpAnyH_take (i := 1) (v := .agg (#[.bool false, .bool false, .bool true, .bool false])) rfl (by kernel_rfl) (by kernel_rfl) (by kernel_rfl) (fun _ _ _ h => h) (yields_row (by rfl) 95 (.tmp 3) rfl hx rfl (#[.bool false, .bool false, .bool true, .bool false]) (fun w h => run_loadVar_row w hx 95 95 (#[.bool false, .bool false, .bool true, .bool false]) (0, 0) _ h.2 Tryz.underlying95 rfl parts_info)) hHeld ?_
  try simp [Act.put]
  refine wpAnyH_take (i := 2) (v := .agg (rcs ⟨x1, 1, x3, x4, x5, xl, x6, x7, x8, x9, x10, x11, x12, x13⟩ a c)) rfl (by kernel_rfl) (by kernel_rfl) (by kernel_rfl) (fun _ _ _ h => h) (yields_row (by rfl) 43 (.tmp 1) rfl bx rfl (rcs ⟨x1, 1, x3, x4, x5, xl, x6, x7, x8, x9, x10, x11, x12, x13⟩ a c) (fun w h => run_loadVar_row w bx 43 43 (rcs ⟨x1, 1, x3, x4, x5, xl, x6, x7, x8, x9, x10, x11, x12, x13⟩ a c) (0, 0) _ h.1 Tryz.underlying43 rfl rec_info)) hHeld ?_
  try simp [Act.put]
  refine wpAnyH_ready (rs := [3]) (by kernel_rfl) (by simp) ?_
  refine AllReadyH.cons rfl (fun K hK => ?_) AllReadyH.nil
  go_simp
  refine (HAL.out _).mono ?_
  rintro e w9 ⟨rfl, hb9⟩
  have hbd : Below w3.heap.size w3 w9 := (drew_below w3).trans hb9
  have HB9 := hide (HB3.out.trans (hbd.mono HB3.out.size))
  have HR9 := hide (HR3.out.below hbd HR3.out.lt)
  have HH9 := hide (HH3.out.below hbd)
  have HLA9 : Hid (LocsAt w9 none (Rc.ls ⟨x1, 1, 0, 0, 0, [], ByteArray.empty, 0, 0, 0, ByteArray.empty, x11, 0, 0⟩)) := HLA.out.1.below hbd
  refine hK.out _ _ ⟨HR9.out, HH9.out⟩ (fun hHeld => ?_)
  clear hK K hb9 hbd
  try simp [Act.put]
  refine wpAnyH_ready (rs := [4]) (by kernel_rfl) (by simp) ?_
  refine AllReadyH.cons rfl (fun K hK => ?_) AllReadyH.nil
  go_simp
  refine (same_any ⟨x1, 1, x3, x4, x5, xl, x6, x7, x8, x9, x10, x11, x12, x13⟩ ⟨x1, 1, 0, 0, 0, [], ByteArray.empty, 0, 0, 0, ByteArray.empty, x11, 0, 0⟩ a none c 0 w9 (by have := HL.out; simp only; omega) (by have := HL.out; simp only [List.length_nil]; omega) (HS.out.below HB9.out) HLA9.out).mono ?_
  rintro e w10 ⟨rfl, hb10⟩
  have HB10 := hide (HB9.out.trans (hb10.mono HB9.out.size))
  have HR10 := hide (HR9.out.below hb10 HR9.out.lt)
  have HH10 := hide (HH9.out.below hb10)
  refine hK.out _ _ ⟨HR10.out, HH10.out⟩ (fun hHeld => ?_)
  clear hK K hb10
  try simp [Act.put]
  by_cases hsm : (⟨x1, 1, x3, x4, x5, xl, x6, x7, x8, x9, x10, x11, x12, x13⟩ : Rc) = ⟨x1, 1, 0, 0, 0, [], ByteArray.empty, 0, 0, 0, ByteArray.empty, x11, 0, 0⟩
  · rw [samR_iff.2 hsm]
    have HF : Hid (0 = ckR ⟨x1, 1, x3, x4, x5, xl, x6, x7, x8, x9, x10, x11, x12, x13⟩) := (ckR_ok HSQ.out HKK.out hsm).symm
    clear hsm
    refine wpAnyH_take (i := 5) (v := ?v5) rfl (by kernel_rfl) (by kernel_rfl) (by kernel_rfl) (fun _ _ _ h => h) (Or.inl ⟨by rfl, ?hy5⟩) hHeld ?rest5
    case hy5 => (intro w' hSw; go_simp; try with_reducible rfl)
    try simp [Act.put]
    refine wpAnyH_take (i := 6) (v := ?v6) rfl (by kernel_rfl) (by kernel_rfl) (by kernel_rfl) (fun _ _ _ h => h) (Or.inl ⟨by rfl, ?hy6⟩) hHeld ?rest6
    case hy6 => (intro w' hSw; go_simp; try with_reducible rfl)
    try simp [Act.put]
    refine wpAnyH_done (by kernel_rfl) (NoPanic.normal ?_) _
    go_wp2_with fail
    try go_ret
    exact ⟨ret_int HF.out, HB10.out⟩
  · rw [samR_no hsm]
    have HF : Hid (1 = ckR ⟨x1, 1, x3, x4, x5, xl, x6, x7, x8, x9, x10, x11, x12, x13⟩) := (ckR_more HSQ.out HKK.out hsm).symm
    clear hsm
    refine wpAnyH_take (i := 5) (v := ?v7) rfl (by kernel_rfl) (by kernel_rfl) (by kernel_rfl) (fun _ _ _ h => h) (Or.inl ⟨by rfl, ?hy7⟩) hHeld ?rest7
    case hy7 => (intro w' hSw; go_simp; try with_reducible rfl)
    try simp [Act.put]
    refine wpAnyH_take (i := 6) (v := ?v8) rfl (by kernel_rfl) (by kernel_rfl) (by kernel_rfl) (fun _ _ _ h => h) (Or.inl ⟨by rfl, ?hy8⟩) hHeld ?rest8
    case hy8 => (intro w' hSw; go_simp; try with_reducible rfl)
    try simp [Act.put]
    refine wpAnyH_done (by kernel_rfl) (NoPanic.normal ?_) _
    go_wp2_with fail
    try go_ret
    exact ⟨ret_int HF.out, HB10.out⟩
set_option maxRecDepth 100000 in
set_option maxHeartbeats 8000000 in
theorem ck_2 (x1 x3 x4 x5 : Int) (xl : List (Int × Int)) (x6 : ByteArray) (x7 x8 x9 : Int) (x10 x11 : ByteArray) (x12 x13 : Int) (a : Option Addr) (c : Nat) (w : World) (hS : LocsAt w a xl) (hl : xl.length ≤ 100000) (h6 : x6.size ≤ 150000000000000) (h10 : x10.size ≤ 150000000000000) (h11 : x11.size ≤ 150000000000000) (h8 : -9223372036854775808 ≤ x8 ∧ x8 ≤ 9223372036854775807) (hq : 0 ≤ x1 ∧ x1 ≤ 63) :
    Calls Tryz.prog 25 #[.agg (rcs ⟨x1, 2, x3, x4, x5, xl, x6, x7, x8, x9, x10, x11, x12, x13⟩ a c)] w fun e w' => e = .returned (.int .i64 (ckR ⟨x1, 2, x3, x4, x5, xl, x6, x7, x8, x9, x10, x11, x12, x13⟩)) ∧ Below w.heap.size w w' := by
  skip
  have HS := hide hS
  have HL := hide hl
  have HB1 : Hid (Below w.heap.size w (w.alloc (.cells (rcs ⟨x1, 2, x3, x4, x5, xl, x6, x7, x8, x9, x10, x11, x12, x13⟩ a c) 43))) := (Below.refl _ _).alloc (Nat.le_refl _) _
  have HR1 := hide (rbx_new 43 ⟨x1, 2, x3, x4, x5, xl, x6, x7, x8, x9, x10, x11, x12, x13⟩ a c w)
  have HP : Hid (∀ w, Calls Tryz.prog 55 #[.int .i64 2] w fun r w' => r = .returned (.agg #[.bool true, .bool false, .bool false, .bool false]) ∧ Below w.heap.size w w') := fun w => by
    have := partsOf_any 2 w
    simp [prt] at this
    exact this
  clear hS hl
  simp only [rcs] at HB1 ⊢
  go_enter Tryz.func25, Tryz.ntmps25
  go_upto_region 1 with fail
  change Code.wp _ _ _ _ (w.alloc (.cells #[.int .i64 x1, .int .i64 2, .int .i64 x3, .int .i64 x4, .int .i64 x5, .slice a xl.length c, .string x6, .int .i64 x7, .int .i64 x8, .int .i64 x9, .string x10, .string x11, .int .i64 x12, .int .i64 x13] 43))
  have HR1' : Hid (RBx w.heap.size 43 ⟨x1, 2, x3, x4, x5, xl, x6, x7, x8, x9, x10, x11, x12, x13⟩ a c (w.alloc (.cells #[.int .i64 x1, .int .i64 2, .int .i64 x3, .int .i64 x4, .int .i64 x5, .slice a xl.length c, .string x6, .int .i64 x7, .int .i64 x8, .int .i64 x9, .string x10, .string x11, .int .i64 x12, .int .i64 x13] 43))) := HR1.out
  clear HR1
  generalize w.alloc (.cells #[.int .i64 x1, .int .i64 2, .int .i64 x3, .int .i64 x4, .int .i64 x5, .slice a xl.length c, .string x6, .int .i64 x7, .int .i64 x8, .int .i64 x9, .string x10, .string x11, .int .i64 x12, .int .i64 x13] 43) = W1 at *
  have HBX : Hid (∃ q : Nat, w.heap.size = q) := ⟨_, rfl⟩
  obtain ⟨bx, hbx⟩ := HBX.out
  rw [hbx] at HR1' ⊢
  have c1 := HR1'.out.c1
  simp only at c1
  go_wp2_with fail
  refine (HP.out W1).mono ?_
  rintro e w2 ⟨rfl, hb2⟩
  have HB2 := hide ((HB1.out.trans (hb2.mono HB1.out.size)).alloc (Nat.le_trans HB1.out.size hb2.size) (.cells #[.bool true, .bool false, .bool false, .bool false] 95))
  have HR2 := hide ((HR1'.out.below hb2 HR1'.out.lt).below ((Below.refl _ _).alloc (Nat.le_refl _) (.cells #[.bool true, .bool false, .bool false, .bool false] 95)) (Nat.lt_of_lt_of_le HR1'.out.lt hb2.size))
  have HH2 : Hid (HBx w2.heap.size true false false false (w2.alloc (.cells #[.bool true, .bool false, .bool false, .bool false] 95))) := heap_alloc_new _ _
  clear hb2 HB1 HR1' HP c1 HBX hbx
  go_upto_region 2 with fail
  generalize w2.alloc (.cells #[.bool true, .bool false, .bool false, .bool false] 95) = W2 at *
  generalize w2.heap.size = hx at *
  obtain ⟨d0, d1, d2, d3⟩ := HH2.out.cells
  obtain ⟨c0, c1, c2, c3, c4, c5, c6, c7, c8, c9, c10, c11, c12, c13⟩ := HR2.out.cells
  simp only at c0 c1 c2 c3 c4 c5 c6 c7 c8 c9 c10 c11 c12 c13
  have HSQ : Hid (Rc.sqOk ⟨x1, 2, x3, x4, x5, xl, x6, x7, x8, x9, x10, x11, x12, x13⟩) := ⟨hq, show (0 : Int) ≤ 2 ∧ (2 : Int) ≤ 3 by decide⟩
  have K1 := hide (upTo_any x1 63 W2)
  have K2 := hide (upTo_any 2 3 W2)
  rw [decide_eq_true hq] at K1
  rw [decide_eq_true (by decide)] at K2
  clear hq
  go_wp2_with fail
  refine K1.out.mono ?_
  rintro e _ ⟨rfl, rfl⟩
  go_wp2_with fail
  refine K2.out.mono ?_
  rintro e _ ⟨rfl, rfl⟩
  clear K1 K2
  have KV := hide (vol_any x3 x4 x5 a xl.length c xl W2 rfl (by have := HL.out; omega) (HS.out.below HB2.out))
  go_wp2_with fail
  refine KV.out.mono ?_
  rintro e w3 ⟨rfl, hb⟩
  have HB3 := hide (HB2.out.trans (hb.mono HB2.out.size))
  have HR3 := hide (HR2.out.below hb HR2.out.lt)
  have HH3 := hide (HH2.out.below hb)
  clear hb KV HB2 HR2 HH2 c0 c1 c2 c3 c4 c5 c6 c7 c8 c9 c10 c11 c12 c13 d0 d1 d2 d3
  obtain ⟨d0, d1, d2, d3⟩ := HH3.out.cells
  obtain ⟨c0, c1, c2, c3, c4, c5, c6, c7, c8, c9, c10, c11, c12, c13⟩ := HR3.out.cells
  simp only at c0 c1 c2 c3 c4 c5 c6 c7 c8 c9 c10 c11 c12 c13
  by_cases hvol : Rc.volOk ⟨x1, 2, x3, x4, x5, xl, x6, x7, x8, x9, x10, x11, x12, x13⟩
  case neg =>
    have HE : Hid (ckK ⟨x1, 2, x3, x4, x5, xl, x6, x7, x8, x9, x10, x11, x12, x13⟩ = 1) := by show ckK _ = _; unfold ckK; rw [if_neg (by simp), if_neg (by simp), if_pos rfl, if_neg hvol]
    have HE2 : Hid (1 = ckR ⟨x1, 2, x3, x4, x5, xl, x6, x7, x8, x9, x10, x11, x12, x13⟩) := by show _ = _; rw [ckR_k HSQ.out (by rw [HE.out]; decide), HE.out]
    rw [decide_eq_false (show ¬ volR x3 x4 x5 xl from hvol)]
    go_wp2_with fail
    try go_ret
    exact ⟨ret_int HE2.out, HB3.out⟩
  rw [decide_eq_true (show volR x3 x4 x5 xl from hvol)]
  have HKK : Hid (ckK ⟨x1, 2, x3, x4, x5, xl, x6, x7, x8, x9, x10, x11, x12, x13⟩ = 0) := (ckK_2 rfl).2 hvol
  have HAL : Hid (∀ w, Calls Tryz.prog 62 #[.agg #[.bool true, .bool false, .bool false, .bool false], .agg (rcs ⟨x1, 2, x3, x4, x5, xl, x6, x7, x8, x9, x10, x11, x12, x13⟩ a c)] w fun e w' => e = .returned (.agg (rcs ⟨x1, 2, x3, x4, x5, xl, ByteArray.empty, 0, 0, 0, ByteArray.empty, ByteArray.empty, 0, 0⟩ a c)) ∧ Below w.heap.size w w') := fun w => by
    have q := alone_any ⟨x1, 2, x3, x4, x5, xl, x6, x7, x8, x9, x10, x11, x12, x13⟩ a c w HSQ.out
    simp [prt] at q
    exact q
  have HLA := hide (alone_locs (r := ⟨x1, 2, x3, x4, x5, xl, x6, x7, x8, x9, x10, x11, x12, x13⟩) (HS.out.below HB3.out))
  have hne1 : ((1 : Nat) = 1) := rfl
  go_wp2_with fail
  clear c0 c1 c2 c3 c4 c5 c6 c7 c8 c9 c10 c11 c12 c13 d0 d1 d2 d3
  refine wp_region_noPanic ?_
  refine wp_region_held_drew (S := fun w => RBx bx 43 ⟨x1, 2, x3, x4, x5, xl, x6, x7, x8, x9, x10, x11, x12, x13⟩ a c w ∧ HBx hx true false false false w) (by kernel_rfl) ⟨HR3.out, HH3.out⟩ (fun hHeld => ?_)
  refine wpAnyH_take (i := 0) (v := .agg (rcs ⟨x1, 2, x3, x4, x5, xl, x6, x7, x8, x9, x10, x11, x12, x13⟩ a c)) rfl (by kernel_rfl) (by kernel_rfl) (by kernel_rfl) (fun _ _ _ h => h) (yields_row (by rfl) 43 (.tmp 1) rfl bx rfl (rcs ⟨x1, 2, x3, x4, x5, xl, x6, x7, x8, x9, x10, x11, x12, x13⟩ a c) (fun w h => run_loadVar_row w bx 43 43 (rcs ⟨x1, 2, x3, x4, x5, xl, x6, x7, x8, x9, x10, x11, x12, x13⟩ a c) (0, 0) _ h.1 Tryz.underlying43 rfl rec_info)) hHeld ?_
  try simp [Act.put]
  refine wpAnyH_take (i := 1) (v := .agg (#[.bool true, .bool false, .bool false, .bool false])) rfl (by kernel_rfl) (by kernel_rfl) (by kernel_rfl) (fun _ _ _ h => h) (yields_row (by rfl) 95 (.tmp 3) rfl hx rfl (#[.bool true, .bool false, .bool false, .bool false]) (fun w h => run_loadVar_row w hx 95 95 (#[.bool true, .bool false, .bool false, .bool false]) (0, 0) _ h.2 Tryz.underlying95 rfl parts_info)) hHeld ?_
  try simp [Act.put]
  refine wpAnyH_take (i := 2) (v := .agg (rcs ⟨x1, 2, x3, x4, x5, xl, x6, x7, x8, x9, x10, x11, x12, x13⟩ a c)) rfl (by kernel_rfl) (by kernel_rfl) (by kernel_rfl) (fun _ _ _ h => h) (yields_row (by rfl) 43 (.tmp 1) rfl bx rfl (rcs ⟨x1, 2, x3, x4, x5, xl, x6, x7, x8, x9, x10, x11, x12, x13⟩ a c) (fun w h => run_loadVar_row w bx 43 43 (rcs ⟨x1, 2, x3, x4, x5, xl, x6, x7, x8, x9, x10, x11, x12, x13⟩ a c) (0, 0) _ h.1 Tryz.underlying43 rfl rec_info)) hHeld ?_
  try simp [Act.put]
  refine wpAnyH_ready (rs := [3]) (by kernel_rfl) (by simp) ?_
  refine AllReadyH.cons rfl (fun K hK => ?_) AllReadyH.nil
  go_simp
  refine (HAL.out _).mono ?_
  rintro e w9 ⟨rfl, hb9⟩
  have hbd : Below w3.heap.size w3 w9 := (drew_below w3).trans hb9
  have HB9 := hide (HB3.out.trans (hbd.mono HB3.out.size))
  have HR9 := hide (HR3.out.below hbd HR3.out.lt)
  have HH9 := hide (HH3.out.below hbd)
  have HLA9 : Hid (LocsAt w9 a (Rc.ls ⟨x1, 2, x3, x4, x5, xl, ByteArray.empty, 0, 0, 0, ByteArray.empty, ByteArray.empty, 0, 0⟩)) := HLA.out.1.below hbd
  refine hK.out _ _ ⟨HR9.out, HH9.out⟩ (fun hHeld => ?_)
  clear hK K hb9 hbd
  try simp [Act.put]
  refine wpAnyH_ready (rs := [4]) (by kernel_rfl) (by simp) ?_
  refine AllReadyH.cons rfl (fun K hK => ?_) AllReadyH.nil
  go_simp
  refine (same_any ⟨x1, 2, x3, x4, x5, xl, x6, x7, x8, x9, x10, x11, x12, x13⟩ ⟨x1, 2, x3, x4, x5, xl, ByteArray.empty, 0, 0, 0, ByteArray.empty, ByteArray.empty, 0, 0⟩ a a c c w9 (by have := HL.out; simp only; omega) (by have := HL.out; simp only; omega) (HS.out.below HB9.out) HLA9.out).mono ?_
  rintro e w10 ⟨rfl, hb10⟩
  have HB10 := hide (HB9.out.trans (hb10.mono HB9.out.size))
  have HR10 := hide (HR9.out.below hb10 HR9.out.lt)
  have HH10 := hide (HH9.out.below hb10)
  refine hK.out _ _ ⟨HR10.out, HH10.out⟩ (fun hHeld => ?_)
  clear hK K hb10
  try simp [Act.put]
  by_cases hsm : (⟨x1, 2, x3, x4, x5, xl, x6, x7, x8, x9, x10, x11, x12, x13⟩ : Rc) = ⟨x1, 2, x3, x4, x5, xl, ByteArray.empty, 0, 0, 0, ByteArray.empty, ByteArray.empty, 0, 0⟩
  · rw [samR_iff.2 hsm]
    have HF : Hid (0 = ckR ⟨x1, 2, x3, x4, x5, xl, x6, x7, x8, x9, x10, x11, x12, x13⟩) := (ckR_ok HSQ.out HKK.out hsm).symm
    clear hsm
    refine wpAnyH_take (i := 5) (v := ?v9) rfl (by kernel_rfl) (by kernel_rfl) (by kernel_rfl) (fun _ _ _ h => h) (Or.inl ⟨by rfl, ?hy9⟩) hHeld ?rest9
    case hy9 => (intro w' hSw; go_simp; try with_reducible rfl)
    try simp [Act.put]
    refine wpAnyH_take (i := 6) (v := ?v10) rfl (by kernel_rfl) (by kernel_rfl) (by kernel_rfl) (fun _ _ _ h => h) (Or.inl ⟨by rfl, ?hy10⟩) hHeld ?rest10
    case hy10 => (intro w' hSw; go_simp; try with_reducible rfl)
    try simp [Act.put]
    refine wpAnyH_done (by kernel_rfl) (NoPanic.normal ?_) _
    go_wp2_with fail
    try go_ret
    exact ⟨ret_int HF.out, HB10.out⟩
  · rw [samR_no hsm]
    have HF : Hid (1 = ckR ⟨x1, 2, x3, x4, x5, xl, x6, x7, x8, x9, x10, x11, x12, x13⟩) := (ckR_more HSQ.out HKK.out hsm).symm
    clear hsm
    refine wpAnyH_take (i := 5) (v := ?v11) rfl (by kernel_rfl) (by kernel_rfl) (by kernel_rfl) (fun _ _ _ h => h) (Or.inl ⟨by rfl, ?hy11⟩) hHeld ?rest11
    case hy11 => (intro w' hSw; go_simp; try with_reducible rfl)
    try simp [Act.put]
    refine wpAnyH_take (i := 6) (v := ?v12) rfl (by kernel_rfl) (by kernel_rfl) (by kernel_rfl) (fun _ _ _ h => h) (Or.inl ⟨by rfl, ?hy12⟩) hHeld ?rest12
    case hy12 => (intro w' hSw; go_simp; try with_reducible rfl)
    try simp [Act.put]
    refine wpAnyH_done (by kernel_rfl) (NoPanic.normal ?_) _
    go_wp2_with fail
    try go_ret
    exact ⟨ret_int HF.out, HB10.out⟩
set_option maxRecDepth 100000 in
set_option maxHeartbeats 8000000 in
theorem ck_3 (x1 x3 x4 x5 : Int) (xl : List (Int × Int)) (x6 : ByteArray) (x7 x8 x9 : Int) (x10 x11 : ByteArray) (x12 x13 : Int) (a : Option Addr) (c : Nat) (w : World) (hS : LocsAt w a xl) (hl : xl.length ≤ 100000) (h6 : x6.size ≤ 150000000000000) (h10 : x10.size ≤ 150000000000000) (h11 : x11.size ≤ 150000000000000) (h8 : -9223372036854775808 ≤ x8 ∧ x8 ≤ 9223372036854775807) (hq : 0 ≤ x1 ∧ x1 ≤ 63) :
    Calls Tryz.prog 25 #[.agg (rcs ⟨x1, 3, x3, x4, x5, xl, x6, x7, x8, x9, x10, x11, x12, x13⟩ a c)] w fun e w' => e = .returned (.int .i64 (ckR ⟨x1, 3, x3, x4, x5, xl, x6, x7, x8, x9, x10, x11, x12, x13⟩)) ∧ Below w.heap.size w w' := by
  skip
  have HS := hide hS
  have HL := hide hl
  have HB1 : Hid (Below w.heap.size w (w.alloc (.cells (rcs ⟨x1, 3, x3, x4, x5, xl, x6, x7, x8, x9, x10, x11, x12, x13⟩ a c) 43))) := (Below.refl _ _).alloc (Nat.le_refl _) _
  have HR1 := hide (rbx_new 43 ⟨x1, 3, x3, x4, x5, xl, x6, x7, x8, x9, x10, x11, x12, x13⟩ a c w)
  have HP : Hid (∀ w, Calls Tryz.prog 55 #[.int .i64 3] w fun r w' => r = .returned (.agg #[.bool true, .bool false, .bool false, .bool true]) ∧ Below w.heap.size w w') := fun w => by
    have := partsOf_any 3 w
    simp [prt] at this
    exact this
  clear hS hl
  simp only [rcs] at HB1 ⊢
  go_enter Tryz.func25, Tryz.ntmps25
  go_upto_region 1 with fail
  change Code.wp _ _ _ _ (w.alloc (.cells #[.int .i64 x1, .int .i64 3, .int .i64 x3, .int .i64 x4, .int .i64 x5, .slice a xl.length c, .string x6, .int .i64 x7, .int .i64 x8, .int .i64 x9, .string x10, .string x11, .int .i64 x12, .int .i64 x13] 43))
  have HR1' : Hid (RBx w.heap.size 43 ⟨x1, 3, x3, x4, x5, xl, x6, x7, x8, x9, x10, x11, x12, x13⟩ a c (w.alloc (.cells #[.int .i64 x1, .int .i64 3, .int .i64 x3, .int .i64 x4, .int .i64 x5, .slice a xl.length c, .string x6, .int .i64 x7, .int .i64 x8, .int .i64 x9, .string x10, .string x11, .int .i64 x12, .int .i64 x13] 43))) := HR1.out
  clear HR1
  generalize w.alloc (.cells #[.int .i64 x1, .int .i64 3, .int .i64 x3, .int .i64 x4, .int .i64 x5, .slice a xl.length c, .string x6, .int .i64 x7, .int .i64 x8, .int .i64 x9, .string x10, .string x11, .int .i64 x12, .int .i64 x13] 43) = W1 at *
  have HBX : Hid (∃ q : Nat, w.heap.size = q) := ⟨_, rfl⟩
  obtain ⟨bx, hbx⟩ := HBX.out
  rw [hbx] at HR1' ⊢
  have c1 := HR1'.out.c1
  simp only at c1
  go_wp2_with fail
  refine (HP.out W1).mono ?_
  rintro e w2 ⟨rfl, hb2⟩
  have HB2 := hide ((HB1.out.trans (hb2.mono HB1.out.size)).alloc (Nat.le_trans HB1.out.size hb2.size) (.cells #[.bool true, .bool false, .bool false, .bool true] 95))
  have HR2 := hide ((HR1'.out.below hb2 HR1'.out.lt).below ((Below.refl _ _).alloc (Nat.le_refl _) (.cells #[.bool true, .bool false, .bool false, .bool true] 95)) (Nat.lt_of_lt_of_le HR1'.out.lt hb2.size))
  have HH2 : Hid (HBx w2.heap.size true false false true (w2.alloc (.cells #[.bool true, .bool false, .bool false, .bool true] 95))) := heap_alloc_new _ _
  clear hb2 HB1 HR1' HP c1 HBX hbx
  go_upto_region 2 with fail
  generalize w2.alloc (.cells #[.bool true, .bool false, .bool false, .bool true] 95) = W2 at *
  generalize w2.heap.size = hx at *
  obtain ⟨d0, d1, d2, d3⟩ := HH2.out.cells
  obtain ⟨c0, c1, c2, c3, c4, c5, c6, c7, c8, c9, c10, c11, c12, c13⟩ := HR2.out.cells
  simp only at c0 c1 c2 c3 c4 c5 c6 c7 c8 c9 c10 c11 c12 c13
  have HSQ : Hid (Rc.sqOk ⟨x1, 3, x3, x4, x5, xl, x6, x7, x8, x9, x10, x11, x12, x13⟩) := ⟨hq, show (0 : Int) ≤ 3 ∧ (3 : Int) ≤ 3 by decide⟩
  have K1 := hide (upTo_any x1 63 W2)
  have K2 := hide (upTo_any 3 3 W2)
  rw [decide_eq_true hq] at K1
  rw [decide_eq_true (by decide)] at K2
  clear hq
  go_wp2_with fail
  refine K1.out.mono ?_
  rintro e _ ⟨rfl, rfl⟩
  go_wp2_with fail
  refine K2.out.mono ?_
  rintro e _ ⟨rfl, rfl⟩
  clear K1 K2
  have KV := hide (vol_any x3 x4 x5 a xl.length c xl W2 rfl (by have := HL.out; omega) (HS.out.below HB2.out))
  go_wp2_with fail
  refine KV.out.mono ?_
  rintro e w3 ⟨rfl, hb⟩
  have HB3 := hide (HB2.out.trans (hb.mono HB2.out.size))
  have HR3 := hide (HR2.out.below hb HR2.out.lt)
  have HH3 := hide (HH2.out.below hb)
  clear hb KV HB2 HR2 HH2 c0 c1 c2 c3 c4 c5 c6 c7 c8 c9 c10 c11 c12 c13 d0 d1 d2 d3
  obtain ⟨d0, d1, d2, d3⟩ := HH3.out.cells
  obtain ⟨c0, c1, c2, c3, c4, c5, c6, c7, c8, c9, c10, c11, c12, c13⟩ := HR3.out.cells
  simp only at c0 c1 c2 c3 c4 c5 c6 c7 c8 c9 c10 c11 c12 c13
  by_cases hvol : Rc.volOk ⟨x1, 3, x3, x4, x5, xl, x6, x7, x8, x9, x10, x11, x12, x13⟩
  case neg =>
    have HE : Hid (ckK ⟨x1, 3, x3, x4, x5, xl, x6, x7, x8, x9, x10, x11, x12, x13⟩ = 1) := by show ckK _ = _; unfold ckK; rw [if_neg (by simp), if_neg (by simp), if_neg (by simp), if_neg hvol]
    have HE2 : Hid (1 = ckR ⟨x1, 3, x3, x4, x5, xl, x6, x7, x8, x9, x10, x11, x12, x13⟩) := by show _ = _; rw [ckR_k HSQ.out (by rw [HE.out]; decide), HE.out]
    rw [decide_eq_false (show ¬ volR x3 x4 x5 xl from hvol)]
    go_wp2_with fail
    try go_ret
    exact ⟨ret_int HE2.out, HB3.out⟩
  rw [decide_eq_true (show volR x3 x4 x5 xl from hvol)]
  have KV := hide (areEnds_any x12 x13 w3)
  go_wp2_with fail
  refine KV.out.mono ?_
  rintro e w4 ⟨rfl, hb0⟩
  have hb : Below w3.heap.size w3 w4 := hb0 ▸ Below.refl _ _
  clear hb0
  have HB4 := hide (HB3.out.trans (hb.mono HB3.out.size))
  have HR4 := hide (HR3.out.below hb HR3.out.lt)
  have HH4 := hide (HH3.out.below hb)
  clear hb KV HB3 HR3 HH3 c0 c1 c2 c3 c4 c5 c6 c7 c8 c9 c10 c11 c12 c13 d0 d1 d2 d3
  obtain ⟨d0, d1, d2, d3⟩ := HH4.out.cells
  obtain ⟨c0, c1, c2, c3, c4, c5, c6, c7, c8, c9, c10, c11, c12, c13⟩ := HR4.out.cells
  simp only at c0 c1 c2 c3 c4 c5 c6 c7 c8 c9 c10 c11 c12 c13
  by_cases hend : Rc.endOk ⟨x1, 3, x3, x4, x5, xl, x6, x7, x8, x9, x10, x11, x12, x13⟩
  case neg =>
    have HE : Hid (ckK ⟨x1, 3, x3, x4, x5, xl, x6, x7, x8, x9, x10, x11, x12, x13⟩ = 1) := by show ckK _ = _; unfold ckK; rw [if_neg (by simp), if_neg (by simp), if_neg (by simp), if_pos hvol, if_neg hend]
    have HE2 : Hid (1 = ckR ⟨x1, 3, x3, x4, x5, xl, x6, x7, x8, x9, x10, x11, x12, x13⟩) := by show _ = _; rw [ckR_k HSQ.out (by rw [HE.out]; decide), HE.out]
    rw [decide_eq_false (show ¬ endR x12 x13 from hend)]
    go_wp2_with fail
    try go_ret
    exact ⟨ret_int HE2.out, HB4.out⟩
  rw [decide_eq_true (show endR x12 x13 from hend)]
  have HKK : Hid (ckK ⟨x1, 3, x3, x4, x5, xl, x6, x7, x8, x9, x10, x11, x12, x13⟩ = 0) := (ckK_3 rfl).2 ⟨hvol, hend⟩
  have HAL : Hid (∀ w, Calls Tryz.prog 62 #[.agg #[.bool true, .bool false, .bool false, .bool true], .agg (rcs ⟨x1, 3, x3, x4, x5, xl, x6, x7, x8, x9, x10, x11, x12, x13⟩ a c)] w fun e w' => e = .returned (.agg (rcs ⟨x1, 3, x3, x4, x5, xl, ByteArray.empty, 0, 0, 0, ByteArray.empty, ByteArray.empty, x12, x13⟩ a c)) ∧ Below w.heap.size w w') := fun w => by
    have q := alone_any ⟨x1, 3, x3, x4, x5, xl, x6, x7, x8, x9, x10, x11, x12, x13⟩ a c w HSQ.out
    simp [prt] at q
    exact q
  have HLA := hide (alone_locs (r := ⟨x1, 3, x3, x4, x5, xl, x6, x7, x8, x9, x10, x11, x12, x13⟩) (HS.out.below HB4.out))
  have hne1 : ((2 : Nat) = 2) := rfl
  go_wp2_with fail
  clear c0 c1 c2 c3 c4 c5 c6 c7 c8 c9 c10 c11 c12 c13 d0 d1 d2 d3
  refine wp_region_noPanic ?_
  refine wp_region_held_drew (S := fun w => RBx bx 43 ⟨x1, 3, x3, x4, x5, xl, x6, x7, x8, x9, x10, x11, x12, x13⟩ a c w ∧ HBx hx true false false true w) (by kernel_rfl) ⟨HR4.out, HH4.out⟩ (fun hHeld => ?_)
  refine wpAnyH_take (i := 0) (v := .agg (rcs ⟨x1, 3, x3, x4, x5, xl, x6, x7, x8, x9, x10, x11, x12, x13⟩ a c)) rfl (by kernel_rfl) (by kernel_rfl) (by kernel_rfl) (fun _ _ _ h => h) (yields_row (by rfl) 43 (.tmp 1) rfl bx rfl (rcs ⟨x1, 3, x3, x4, x5, xl, x6, x7, x8, x9, x10, x11, x12, x13⟩ a c) (fun w h => run_loadVar_row w bx 43 43 (rcs ⟨x1, 3, x3, x4, x5, xl, x6, x7, x8, x9, x10, x11, x12, x13⟩ a c) (0, 0) _ h.1 Tryz.underlying43 rfl rec_info)) hHeld ?_
  try simp [Act.put]
  refine wpAnyH_take (i := 1) (v := .agg (#[.bool true, .bool false, .bool false, .bool true])) rfl (by kernel_rfl) (by kernel_rfl) (by kernel_rfl) (fun _ _ _ h => h) (yields_row (by rfl) 95 (.tmp 3) rfl hx rfl (#[.bool true, .bool false, .bool false, .bool true]) (fun w h => run_loadVar_row w hx 95 95 (#[.bool true, .bool false, .bool false, .bool true]) (0, 0) _ h.2 Tryz.underlying95 rfl parts_info)) hHeld ?_
  try simp [Act.put]
  refine wpAnyH_take (i := 2) (v := .agg (rcs ⟨x1, 3, x3, x4, x5, xl, x6, x7, x8, x9, x10, x11, x12, x13⟩ a c)) rfl (by kernel_rfl) (by kernel_rfl) (by kernel_rfl) (fun _ _ _ h => h) (yields_row (by rfl) 43 (.tmp 1) rfl bx rfl (rcs ⟨x1, 3, x3, x4, x5, xl, x6, x7, x8, x9, x10, x11, x12, x13⟩ a c) (fun w h => run_loadVar_row w bx 43 43 (rcs ⟨x1, 3, x3, x4, x5, xl, x6, x7, x8, x9, x10, x11, x12, x13⟩ a c) (0, 0) _ h.1 Tryz.underlying43 rfl rec_info)) hHeld ?_
  try simp [Act.put]
  refine wpAnyH_ready (rs := [3]) (by kernel_rfl) (by simp) ?_
  refine AllReadyH.cons rfl (fun K hK => ?_) AllReadyH.nil
  go_simp
  refine (HAL.out _).mono ?_
  rintro e w9 ⟨rfl, hb9⟩
  have hbd : Below w4.heap.size w4 w9 := (drew_below w4).trans hb9
  have HB9 := hide (HB4.out.trans (hbd.mono HB4.out.size))
  have HR9 := hide (HR4.out.below hbd HR4.out.lt)
  have HH9 := hide (HH4.out.below hbd)
  have HLA9 : Hid (LocsAt w9 a (Rc.ls ⟨x1, 3, x3, x4, x5, xl, ByteArray.empty, 0, 0, 0, ByteArray.empty, ByteArray.empty, x12, x13⟩)) := HLA.out.1.below hbd
  refine hK.out _ _ ⟨HR9.out, HH9.out⟩ (fun hHeld => ?_)
  clear hK K hb9 hbd
  try simp [Act.put]
  refine wpAnyH_ready (rs := [4]) (by kernel_rfl) (by simp) ?_
  refine AllReadyH.cons rfl (fun K hK => ?_) AllReadyH.nil
  go_simp
  refine (same_any ⟨x1, 3, x3, x4, x5, xl, x6, x7, x8, x9, x10, x11, x12, x13⟩ ⟨x1, 3, x3, x4, x5, xl, ByteArray.empty, 0, 0, 0, ByteArray.empty, ByteArray.empty, x12, x13⟩ a a c c w9 (by have := HL.out; simp only; omega) (by have := HL.out; simp only; omega) (HS.out.below HB9.out) HLA9.out).mono ?_
  rintro e w10 ⟨rfl, hb10⟩
  have HB10 := hide (HB9.out.trans (hb10.mono HB9.out.size))
  have HR10 := hide (HR9.out.below hb10 HR9.out.lt)
  have HH10 := hide (HH9.out.below hb10)
  refine hK.out _ _ ⟨HR10.out, HH10.out⟩ (fun hHeld => ?_)
  clear hK K hb10
  try simp [Act.put]
  by_cases hsm : (⟨x1, 3, x3, x4, x5, xl, x6, x7, x8, x9, x10, x11, x12, x13⟩ : Rc) = ⟨x1, 3, x3, x4, x5, xl, ByteArray.empty, 0, 0, 0, ByteArray.empty, ByteArray.empty, x12, x13⟩
  · rw [samR_iff.2 hsm]
    have HF : Hid (0 = ckR ⟨x1, 3, x3, x4, x5, xl, x6, x7, x8, x9, x10, x11, x12, x13⟩) := (ckR_ok HSQ.out HKK.out hsm).symm
    clear hsm
    refine wpAnyH_take (i := 5) (v := ?v13) rfl (by kernel_rfl) (by kernel_rfl) (by kernel_rfl) (fun _ _ _ h => h) (Or.inl ⟨by rfl, ?hy13⟩) hHeld ?rest13
    case hy13 => (intro w' hSw; go_simp; try with_reducible rfl)
    try simp [Act.put]
    refine wpAnyH_take (i := 6) (v := ?v14) rfl (by kernel_rfl) (by kernel_rfl) (by kernel_rfl) (fun _ _ _ h => h) (Or.inl ⟨by rfl, ?hy14⟩) hHeld ?rest14
    case hy14 => (intro w' hSw; go_simp; try with_reducible rfl)
    try simp [Act.put]
    refine wpAnyH_done (by kernel_rfl) (NoPanic.normal ?_) _
    go_wp2_with fail
    try go_ret
    exact ⟨ret_int HF.out, HB10.out⟩
  · rw [samR_no hsm]
    have HF : Hid (1 = ckR ⟨x1, 3, x3, x4, x5, xl, x6, x7, x8, x9, x10, x11, x12, x13⟩) := (ckR_more HSQ.out HKK.out hsm).symm
    clear hsm
    refine wpAnyH_take (i := 5) (v := ?v15) rfl (by kernel_rfl) (by kernel_rfl) (by kernel_rfl) (fun _ _ _ h => h) (Or.inl ⟨by rfl, ?hy15⟩) hHeld ?rest15
    case hy15 => (intro w' hSw; go_simp; try with_reducible rfl)
    try simp [Act.put]
    refine wpAnyH_take (i := 6) (v := ?v16) rfl (by kernel_rfl) (by kernel_rfl) (by kernel_rfl) (fun _ _ _ h => h) (Or.inl ⟨by rfl, ?hy16⟩) hHeld ?rest16
    case hy16 => (intro w' hSw; go_simp; try with_reducible rfl)
    try simp [Act.put]
    refine wpAnyH_done (by kernel_rfl) (NoPanic.normal ?_) _
    go_wp2_with fail
    try go_ret
    exact ⟨ret_int HF.out, HB10.out⟩
/-- what a record has lies within the machine's reach -/
def Rc.fit (r : Rc) : Prop := r.ls.length ≤ 100000 ∧ r.ek.size ≤ 150000000000000 ∧ r.ed.size ≤ 150000000000000 ∧ r.k.size ≤ 150000000000000 ∧ (-9223372036854775808 ≤ r.eo ∧ r.eo ≤ 9223372036854775807)
theorem ck_any (r : Rc) (a : Option Addr) (c : Nat) (w : World) (hS : LocsAt w a r.ls) (hf : r.fit) : Calls Tryz.prog 25 #[.agg (rcs r a c)] w fun e w' => e = .returned (.int .i64 (ckR r)) ∧ Below w.heap.size w w' := by
  obtain ⟨f1, f2, f3, f4, f5⟩ := hf
  by_cases hs : r.sqOk
  · obtain ⟨x1, x2, x3, x4, x5, xl, x6, x7, x8, x9, x10, x11, x12, x13⟩ := r
    have hs1 := hs.1
    simp only at hS f1 f2 f3 f4 f5 hs1
    rcases kind_four hs with h | h | h | h <;> simp only at h <;> subst h
    · exact ck_0 x1 x3 x4 x5 xl x6 x7 x8 x9 x10 x11 x12 x13 a c w hS f1 f2 f3 f4 f5 hs1
    · exact ck_1 x1 x3 x4 x5 xl x6 x7 x8 x9 x10 x11 x12 x13 a c w hS f1 f2 f3 f4 f5 hs1
    · exact ck_2 x1 x3 x4 x5 xl x6 x7 x8 x9 x10 x11 x12 x13 a c w hS f1 f2 f3 f4 f5 hs1
    · exact ck_3 x1 x3 x4 x5 xl x6 x7 x8 x9 x10 x11 x12 x13 a c w hS f1 f2 f3 f4 f5 hs1
  · rw [ckR_sq hs]
    obtain ⟨x1, x2, x3, x4, x5, xl, x6, x7, x8, x9, x10, x11, x12, x13⟩ := r
    exact ck_sq x1 x2 x3 x4 x5 xl x6 x7 x8 x9 x10 x11 x12 x13 a c w hS f1 f2 f3 f4 f5 hs
end Go.Proofs.YtonhmihmnkicdaaGreat
