/- What the document's Check answers. -/
import Derived.Test.YtonhmihmnkicdaaGreatRcCheck
import Derived.Test.YtonhmihmnkicdaaGreatRcRefVol
namespace Go.Proofs.YtonhmihmnkicdaaGreat
open Go.RowKit
set_option linter.unusedVariables false
set_option maxRecDepth 100000 in
set_option maxHeartbeats 8000000 in
theorem rk_sq (x1 x2 x3 x4 x5 : Int) (xl : List (Int × Int)) (x6 : ByteArray) (x7 x8 x9 : Int) (x10 x11 : ByteArray) (x12 x13 : Int) (a : Option Addr) (c : Nat) (w : World) (hS : LocsAt w a xl) (hl : xl.length ≤ 100000) (h6 : x6.size ≤ 150000000000000) (h10 : x10.size ≤ 150000000000000) (h11 : x11.size ≤ 150000000000000) (h8 : -9223372036854775808 ≤ x8 ∧ x8 ≤ 9223372036854775807) (hq : ¬ ((0 ≤ x1 ∧ x1 ≤ 63) ∧ (0 ≤ x2 ∧ x2 ≤ 3))) :
    Calls Tryz.prog 30 #[.agg (rcs ⟨x1, x2, x3, x4, x5, xl, x6, x7, x8, x9, x10, x11, x12, x13⟩ a c)] w fun e w' => e = .returned (.int .i64 (1)) ∧ Below w.heap.size w w' := by
  have HS := hide hS
  have HL := hide hl
  have HB1 : Hid (Below w.heap.size w (w.alloc (.cells (rcs ⟨x1, x2, x3, x4, x5, xl, x6, x7, x8, x9, x10, x11, x12, x13⟩ a c) 40))) := (Below.refl _ _).alloc (Nat.le_refl _) _
  have HR1 := hide (rbx_new 40 ⟨x1, x2, x3, x4, x5, xl, x6, x7, x8, x9, x10, x11, x12, x13⟩ a c w)
  clear hS hl
  simp only [rcs] at HB1 ⊢
  go_enter Tryz.func30, Tryz.ntmps30
  go_upto_region 1 with fail
  change Code.wp _ _ _ _ (w.alloc (.cells #[.int .i64 x1, .int .i64 x2, .int .i64 x3, .int .i64 x4, .int .i64 x5, .slice a xl.length c, .string x6, .int .i64 x7, .int .i64 x8, .int .i64 x9, .string x10, .string x11, .int .i64 x12, .int .i64 x13] 40))
  have HR1' : Hid (RBx w.heap.size 40 ⟨x1, x2, x3, x4, x5, xl, x6, x7, x8, x9, x10, x11, x12, x13⟩ a c (w.alloc (.cells #[.int .i64 x1, .int .i64 x2, .int .i64 x3, .int .i64 x4, .int .i64 x5, .slice a xl.length c, .string x6, .int .i64 x7, .int .i64 x8, .int .i64 x9, .string x10, .string x11, .int .i64 x12, .int .i64 x13] 40))) := HR1.out
  clear HR1
  generalize w.alloc (.cells #[.int .i64 x1, .int .i64 x2, .int .i64 x3, .int .i64 x4, .int .i64 x5, .slice a xl.length c, .string x6, .int .i64 x7, .int .i64 x8, .int .i64 x9, .string x10, .string x11, .int .i64 x12, .int .i64 x13] 40) = W1 at *
  have HBX : Hid (∃ q : Nat, w.heap.size = q) := ⟨_, rfl⟩
  obtain ⟨bx, hbx⟩ := HBX.out
  rw [hbx] at HR1' ⊢
  clear HBX hbx
  obtain ⟨c0, c1, c2, c3, c4, c5, c6, c7, c8, c9, c10, c11, c12, c13⟩ := HR1'.out.cells
  simp only at c0 c1 c2 c3 c4 c5 c6 c7 c8 c9 c10 c11 c12 c13
  by_cases r1 : x1 < 0
  · have q1 : decide (x1 < 0) = true := by simpa using r1
    clear hq
    go_wp2_with fail
    try go_ret
    exact ⟨rfl, HB1.out⟩
  have q1 : decide (x1 < 0) = false := by simpa using r1
  by_cases r2 : 63 < x1
  · have q2 : decide (63 < x1) = true := by simpa using r2
    clear hq
    go_wp2_with fail
    try go_ret
    exact ⟨rfl, HB1.out⟩
  have q2 : decide (63 < x1) = false := by simpa using r2
  by_cases r3 : x2 < 0
  · have q3 : decide (x2 < 0) = true := by simpa using r3
    clear hq
    go_wp2_with fail
    try go_ret
    exact ⟨rfl, HB1.out⟩
  have q3 : decide (x2 < 0) = false := by simpa using r3
  have r4 : 3 < x2 := by omega
  have q4 : decide (3 < x2) = true := by simpa using r4
  clear hq
  go_wp2_with fail
  try go_ret
  exact ⟨rfl, HB1.out⟩
set_option maxRecDepth 100000 in
set_option maxHeartbeats 8000000 in
theorem rk_0 (x1 x3 x4 x5 : Int) (xl : List (Int × Int)) (x6 : ByteArray) (x7 x8 x9 : Int) (x10 x11 : ByteArray) (x12 x13 : Int) (a : Option Addr) (c : Nat) (w : World) (hS : LocsAt w a xl) (hl : xl.length ≤ 100000) (h6 : x6.size ≤ 150000000000000) (h10 : x10.size ≤ 150000000000000) (h11 : x11.size ≤ 150000000000000) (h8 : -9223372036854775808 ≤ x8 ∧ x8 ≤ 9223372036854775807) (hq : 0 ≤ x1 ∧ x1 ≤ 63) :
    Calls Tryz.prog 30 #[.agg (rcs ⟨x1, 0, x3, x4, x5, xl, x6, x7, x8, x9, x10, x11, x12, x13⟩ a c)] w fun e w' => e = .returned (.int .i64 (ckR ⟨x1, 0, x3, x4, x5, xl, x6, x7, x8, x9, x10, x11, x12, x13⟩)) ∧ Below w.heap.size w w' := by
  have HS := hide hS
  have HL := hide hl
  have HB1 : Hid (Below w.heap.size w (w.alloc (.cells (rcs ⟨x1, 0, x3, x4, x5, xl, x6, x7, x8, x9, x10, x11, x12, x13⟩ a c) 40))) := (Below.refl _ _).alloc (Nat.le_refl _) _
  have HR1 := hide (rbx_new 40 ⟨x1, 0, x3, x4, x5, xl, x6, x7, x8, x9, x10, x11, x12, x13⟩ a c w)
  clear hS hl
  simp only [rcs] at HB1 ⊢
  go_enter Tryz.func30, Tryz.ntmps30
  go_upto_region 1 with fail
  change Code.wp _ _ _ _ (w.alloc (.cells #[.int .i64 x1, .int .i64 0, .int .i64 x3, .int .i64 x4, .int .i64 x5, .slice a xl.length c, .string x6, .int .i64 x7, .int .i64 x8, .int .i64 x9, .string x10, .string x11, .int .i64 x12, .int .i64 x13] 40))
  have HR1' : Hid (RBx w.heap.size 40 ⟨x1, 0, x3, x4, x5, xl, x6, x7, x8, x9, x10, x11, x12, x13⟩ a c (w.alloc (.cells #[.int .i64 x1, .int .i64 0, .int .i64 x3, .int .i64 x4, .int .i64 x5, .slice a xl.length c, .string x6, .int .i64 x7, .int .i64 x8, .int .i64 x9, .string x10, .string x11, .int .i64 x12, .int .i64 x13] 40))) := HR1.out
  clear HR1
  generalize w.alloc (.cells #[.int .i64 x1, .int .i64 0, .int .i64 x3, .int .i64 x4, .int .i64 x5, .slice a xl.length c, .string x6, .int .i64 x7, .int .i64 x8, .int .i64 x9, .string x10, .string x11, .int .i64 x12, .int .i64 x13] 40) = W1 at *
  have HBX : Hid (∃ q : Nat, w.heap.size = q) := ⟨_, rfl⟩
  obtain ⟨bx, hbx⟩ := HBX.out
  rw [hbx] at HR1' ⊢
  clear HBX hbx
  obtain ⟨c0, c1, c2, c3, c4, c5, c6, c7, c8, c9, c10, c11, c12, c13⟩ := HR1'.out.cells
  simp only at c0 c1 c2 c3 c4 c5 c6 c7 c8 c9 c10 c11 c12 c13
  have HSQ : Hid (Rc.sqOk ⟨x1, 0, x3, x4, x5, xl, x6, x7, x8, x9, x10, x11, x12, x13⟩) := ⟨hq, show (0 : Int) ≤ 0 ∧ (0 : Int) ≤ 3 by decide⟩
  have q1 : decide (x1 < 0) = false := by simp; omega
  have q2 : decide (63 < x1) = false := by simp; omega
  clear hq
  have KV := hide (rfvol_any x3 x4 x5 a xl.length c xl W1 rfl (by have := HL.out; omega) (HS.out.below HB1.out))
  go_wp2_with fail
  refine KV.out.mono ?_
  rintro e w2 ⟨rfl, hb⟩
  have HB2 := hide (HB1.out.trans (hb.mono HB1.out.size))
  have HR2 := hide (HR1'.out.below hb HR1'.out.lt)
  clear hb KV HB1 HR1' c0 c1 c2 c3 c4 c5 c6 c7 c8 c9 c10 c11 c12 c13
  obtain ⟨c0, c1, c2, c3, c4, c5, c6, c7, c8, c9, c10, c11, c12, c13⟩ := HR2.out.cells
  simp only at c0 c1 c2 c3 c4 c5 c6 c7 c8 c9 c10 c11 c12 c13
  by_cases hvol : Rc.volOk ⟨x1, 0, x3, x4, x5, xl, x6, x7, x8, x9, x10, x11, x12, x13⟩
  case neg =>
    have HE : Hid (ckK ⟨x1, 0, x3, x4, x5, xl, x6, x7, x8, x9, x10, x11, x12, x13⟩ = 1) := by show ckK _ = _; unfold ckK; rw [if_pos rfl, if_neg hvol]
    have HE2 : Hid (1 = ckR ⟨x1, 0, x3, x4, x5, xl, x6, x7, x8, x9, x10, x11, x12, x13⟩) := by show _ = _; rw [ckR_k HSQ.out (by rw [HE.out]; decide), HE.out]
    rw [decide_eq_false (show ¬ volR x3 x4 x5 xl from hvol)]
    go_wp2_with fail
    try go_ret
    exact ⟨ret_int HE2.out, HB2.out⟩
  rw [decide_eq_true (show volR x3 x4 x5 xl from hvol)]
  have KK := hide (refKey_any x6 w2 (by omega))
  go_wp2_with fail
  refine KK.out.mono ?_
  rintro e _ ⟨rfl, rfl⟩
  clear KK
  by_cases hkey : keyOk x6
  case neg =>
    have HE : Hid (ckK ⟨x1, 0, x3, x4, x5, xl, x6, x7, x8, x9, x10, x11, x12, x13⟩ = 11) := by show ckK _ = _; unfold ckK; rw [if_pos rfl, if_pos hvol, if_neg hkey]
    have HE2 : Hid (11 = ckR ⟨x1, 0, x3, x4, x5, xl, x6, x7, x8, x9, x10, x11, x12, x13⟩) := by show _ = _; rw [ckR_k HSQ.out (by rw [HE.out]; decide), HE.out]
    rw [kOk_f hkey]
    go_wp2_with fail
    try go_ret
    exact ⟨ret_int HE2.out, HB2.out⟩
  rw [kOk_t hkey]
  have hvl : 0 ≤ x5 ∧ x5 ≤ 384 := hvol.2.2.1
  have HNO : Hid (¬ inEn x3 x7 x8 x9 x5 x10.size → 1 = ckR ⟨x1, 0, x3, x4, x5, xl, x6, x7, x8, x9, x10, x11, x12, x13⟩) := fun hin => by
    have HE : ckK ⟨x1, 0, x3, x4, x5, xl, x6, x7, x8, x9, x10, x11, x12, x13⟩ = 1 := by unfold ckK; rw [if_pos rfl, if_pos hvol, if_pos hkey, if_neg (show ¬ Rc.inOk ⟨x1, 0, x3, x4, x5, xl, x6, x7, x8, x9, x10, x11, x12, x13⟩ from hin)]
    rw [ckR_k HSQ.out (by rw [HE]; decide), HE]
  by_cases r1 : x7 = x3
  case neg =>
    have HF := hide (HNO.out (fun q => r1 q.1))
    have qq : ((x7 : Int) != x3) = true := by simpa using r1
    clear r1
    go_wp2_with fail
    try go_ret
    exact ⟨ret_int HF.out, HB2.out⟩
  have p1 : ((x7 : Int) != x3) = false := by simp [r1]
  by_cases r2 : ¬ x8 < 0
  case neg =>
    have HF := hide (HNO.out (fun q => by have := q.2.1; omega))
    have qq : decide (x8 < 0) = true := by simp; omega
    skip
    go_wp2_with fail
    try go_ret
    exact ⟨ret_int HF.out, HB2.out⟩
  have p2 : decide (x8 < 0) = false := by simp; omega
  by_cases r3 : ¬ x9 < 0
  case neg =>
    have HF := hide (HNO.out (fun q => by have := q.2.2.1; omega))
    have qq : decide (x9 < 0) = true := by simp; omega
    skip
    go_wp2_with fail
    try go_ret
    exact ⟨ret_int HF.out, HB2.out⟩
  have p3 : decide (x9 < 0) = false := by simp; omega
  by_cases r4 : ¬ 384 < x8
  case neg =>
    have HF := hide (HNO.out (fun q => by have h1 := q.2.2.1; have h2 := q.2.2.2.1; omega))
    have qq : decide (384 < x8) = true := by simp; omega
    skip
    go_wp2_with fail
    try go_ret
    exact ⟨ret_int HF.out, HB2.out⟩
  have p4 : decide (384 < x8) = false := by simp; omega
  by_cases r5 : ¬ 384 < x9
  case neg =>
    have HF := hide (HNO.out (fun q => by have h1 := q.2.1; have h2 := q.2.2.2.1; omega))
    have qq : decide (384 < x9) = true := by simp; omega
    skip
    go_wp2_with fail
    try go_ret
    exact ⟨ret_int HF.out, HB2.out⟩
  have p5 : decide (384 < x9) = false := by simp; omega
  have hwr : IntKind.i64.wrap (x8 + x9) = x8 + x9 := by rw [IntKind.wrap_i64]; omega
  by_cases r6 : ¬ x5 < x8 + x9
  case neg =>
    have HF := hide (HNO.out (fun q => by have h2 := q.2.2.2.1; omega))
    have qq : decide (x5 < x8 + x9) = true := by simp; omega
    skip
    go_wp2_with fail
    try go_ret
    exact ⟨ret_int HF.out, HB2.out⟩
  have p6 : decide (x5 < x8 + x9) = false := by simp; omega
  have HIN0 : Hid (x10.size = 32 → Rc.inOk ⟨x1, 0, x3, x4, x5, xl, x6, x7, x8, x9, x10, x11, x12, x13⟩) := fun h => (show inEn x3 x7 x8 x9 x5 x10.size from ⟨r1, by omega, by omega, by omega, h⟩)
  by_cases r7 : x10.size = 32
  case neg =>
    have HF := hide (HNO.out (fun q => r7 q.2.2.2.2))
    have qq : ((x10.size : Int) != 32) = true := by simp; omega
    skip
    go_wp2_with fail
    try go_ret
    exact ⟨ret_int HF.out, HB2.out⟩
  have p7 : ((x10.size : Int) != 32) = false := by simp; omega
  have hin := HIN0.out r7
  clear HNO HIN0 r7 r1
  have HKK : Hid (ckK ⟨x1, 0, x3, x4, x5, xl, x6, x7, x8, x9, x10, x11, x12, x13⟩ = 0) := (ckK_0 rfl).2 ⟨hvol, hkey, hin⟩
  have HAL : Hid (∀ w, Calls Tryz.prog 68 #[.agg (rcs ⟨x1, 0, x3, x4, x5, xl, x6, x7, x8, x9, x10, x11, x12, x13⟩ a c)] w fun e w' => e = .returned (.agg (rcs ⟨x1, 0, x3, x4, x5, xl, x6, x7, x8, x9, x10, ByteArray.empty, 0, 0⟩ a c)) ∧ Below w.heap.size w w') := fun w => only_any ⟨x1, 0, x3, x4, x5, xl, x6, x7, x8, x9, x10, x11, x12, x13⟩ a c w HSQ.out
  have HLA := hide (alone_locs (r := ⟨x1, 0, x3, x4, x5, xl, x6, x7, x8, x9, x10, x11, x12, x13⟩) (HS.out.below HB2.out))
  clear hin
  go_wp2_with fail
  clear c0 c1 c2 c3 c4 c5 c6 c7 c8 c9 c10 c11 c12 c13
  refine wp_region_noPanic ?_
  refine wp_region_held_drew (S := RBx bx 40 ⟨x1, 0, x3, x4, x5, xl, x6, x7, x8, x9, x10, x11, x12, x13⟩ a c) (by kernel_rfl) HR2.out (fun hHeld => ?_)
  refine wpAnyH_take (i := 0) (v := .agg (rcs ⟨x1, 0, x3, x4, x5, xl, x6, x7, x8, x9, x10, x11, x12, x13⟩ a c)) rfl (by kernel_rfl) (by kernel_rfl) (by kernel_rfl) (fun _ _ _ h => h) (yields_row (by rfl) 40 (.tmp 1) rfl bx rfl (rcs ⟨x1, 0, x3, x4, x5, xl, x6, x7, x8, x9, x10, x11, x12, x13⟩ a c) (fun w h => run_loadVar_row w bx 40 40 (rcs ⟨x1, 0, x3, x4, x5, xl, x6, x7, x8, x9, x10, x11, x12, x13⟩ a c) (0, 0) _ h Tryz.underlying40 rfl ref_info)) hHeld ?_
  try simp [Act.put]
  refine wpAnyH_take (i := 2) (v := .agg (rcs ⟨x1, 0, x3, x4, x5, xl, x6, x7, x8, x9, x10, x11, x12, x13⟩ a c)) rfl (by kernel_rfl) (by kernel_rfl) (by kernel_rfl) (fun _ _ _ h => h) (yields_row (by rfl) 40 (.tmp 1) rfl bx rfl (rcs ⟨x1, 0, x3, x4, x5, xl, x6, x7, x8, x9, x10, x11, x12, x13⟩ a c) (fun w h => run_loadVar_row w bx 40 40 (rcs ⟨x1, 0, x3, x4, x5, xl, x6, x7, x8, x9, x10, x11, x12, x13⟩ a c) (0, 0) _ h Tryz.underlying40 rfl ref_info)) hHeld ?_
  try simp [Act.put]
  refine wpAnyH_ready (rs := [1]) (by kernel_rfl) (by simp) ?_
  refine AllReadyH.cons rfl (fun K hK => ?_) AllReadyH.nil
  go_simp
  refine (HAL.out _).mono ?_
  rintro e w9 ⟨rfl, hb9⟩
  have hbd : Below w2.heap.size w2 w9 := (drew_below w2).trans hb9
  have HB9 := hide (HB2.out.trans (hbd.mono HB2.out.size))
  have HR9 := hide (HR2.out.below hbd HR2.out.lt)
  have HLA9 : Hid (LocsAt w9 a (Rc.ls ⟨x1, 0, x3, x4, x5, xl, x6, x7, x8, x9, x10, ByteArray.empty, 0, 0⟩)) := HLA.out.1.below hbd
  refine hK.out _ _ HR9.out (fun hHeld => ?_)
  clear hK K hb9 hbd
  try simp [Act.put]
  refine wpAnyH_ready (rs := [3]) (by kernel_rfl) (by simp) ?_
  refine AllReadyH.cons rfl (fun K hK => ?_) AllReadyH.nil
  go_simp
  refine (rsame_any ⟨x1, 0, x3, x4, x5, xl, x6, x7, x8, x9, x10, ByteArray.empty, 0, 0⟩ ⟨x1, 0, x3, x4, x5, xl, x6, x7, x8, x9, x10, x11, x12, x13⟩ a a c c w9 (by have := HL.out; simp only; omega) (by have := HL.out; simp only; omega) HLA9.out (HS.out.below HB9.out)).mono ?_
  rintro e w10 ⟨rfl, hb10⟩
  have HB10 := hide (HB9.out.trans (hb10.mono HB9.out.size))
  have HR10 := hide (HR9.out.below hb10 HR9.out.lt)
  refine hK.out _ _ HR10.out (fun hHeld => ?_)
  clear hK K hb10
  try simp [Act.put]
  by_cases hsm : (⟨x1, 0, x3, x4, x5, xl, x6, x7, x8, x9, x10, x11, x12, x13⟩ : Rc) = ⟨x1, 0, x3, x4, x5, xl, x6, x7, x8, x9, x10, ByteArray.empty, 0, 0⟩
  · rw [samR_iff.2 hsm.symm]
    have HF : Hid (0 = ckR ⟨x1, 0, x3, x4, x5, xl, x6, x7, x8, x9, x10, x11, x12, x13⟩) := (ckR_ok HSQ.out HKK.out hsm).symm
    clear hsm
    refine wpAnyH_take (i := 4) (v := ?v17) rfl (by kernel_rfl) (by kernel_rfl) (by kernel_rfl) (fun _ _ _ h => h) (Or.inl ⟨by rfl, ?hy17⟩) hHeld ?rest17
    case hy17 => (intro w' hSw; go_simp; try with_reducible rfl)
    try simp [Act.put]
    refine wpAnyH_done (by kernel_rfl) (NoPanic.normal ?_) _
    go_wp2_with fail
    try go_ret
    exact ⟨ret_int HF.out, HB10.out⟩
  · rw [samR_no fun q => hsm q.symm]
    have HF : Hid (1 = ckR ⟨x1, 0, x3, x4, x5, xl, x6, x7, x8, x9, x10, x11, x12, x13⟩) := (ckR_more HSQ.out HKK.out hsm).symm
    clear hsm
    refine wpAnyH_take (i := 4) (v := ?v18) rfl (by kernel_rfl) (by kernel_rfl) (by kernel_rfl) (fun _ _ _ h => h) (Or.inl ⟨by rfl, ?hy18⟩) hHeld ?rest18
    case hy18 => (intro w' hSw; go_simp; try with_reducible rfl)
    try simp [Act.put]
    refine wpAnyH_done (by kernel_rfl) (NoPanic.normal ?_) _
    go_wp2_with fail
    try go_ret
    exact ⟨ret_int HF.out, HB10.out⟩
set_option maxRecDepth 100000 in
set_option maxHeartbeats 8000000 in
theorem rk_1 (x1 x3 x4 x5 : Int) (xl : List (Int × Int)) (x6 : ByteArray) (x7 x8 x9 : Int) (x10 x11 : ByteArray) (x12 x13 : Int) (a : Option Addr) (c : Nat) (w : World) (hS : LocsAt w a xl) (hl : xl.length ≤ 100000) (h6 : x6.size ≤ 150000000000000) (h10 : x10.size ≤ 150000000000000) (h11 : x11.size ≤ 150000000000000) (h8 : -9223372036854775808 ≤ x8 ∧ x8 ≤ 9223372036854775807) (hq : 0 ≤ x1 ∧ x1 ≤ 63) :
    Calls Tryz.prog 30 #[.agg (rcs ⟨x1, 1, x3, x4, x5, xl, x6, x7, x8, x9, x10, x11, x12, x13⟩ a c)] w fun e w' => e = .returned (.int .i64 (ckR ⟨x1, 1, x3, x4, x5, xl, x6, x7, x8, x9, x10, x11, x12, x13⟩)) ∧ Below w.heap.size w w' := by
  have HS := hide hS
  have HL := hide hl
  have HB1 : Hid (Below w.heap.size w (w.alloc (.cells (rcs ⟨x1, 1, x3, x4, x5, xl, x6, x7, x8, x9, x10, x11, x12, x13⟩ a c) 40))) := (Below.refl _ _).alloc (Nat.le_refl _) _
  have HR1 := hide (rbx_new 40 ⟨x1, 1, x3, x4, x5, xl, x6, x7, x8, x9, x10, x11, x12, x13⟩ a c w)
  clear hS hl
  simp only [rcs] at HB1 ⊢
  go_enter Tryz.func30, Tryz.ntmps30
  go_upto_region 1 with fail
  change Code.wp _ _ _ _ (w.alloc (.cells #[.int .i64 x1, .int .i64 1, .int .i64 x3, .int .i64 x4, .int .i64 x5, .slice a xl.length c, .string x6, .int .i64 x7, .int .i64 x8, .int .i64 x9, .string x10, .string x11, .int .i64 x12, .int .i64 x13] 40))
  have HR1' : Hid (RBx w.heap.size 40 ⟨x1, 1, x3, x4, x5, xl, x6, x7, x8, x9, x10, x11, x12, x13⟩ a c (w.alloc (.cells #[.int .i64 x1, .int .i64 1, .int .i64 x3, .int .i64 x4, .int .i64 x5, .slice a xl.length c, .string x6, .int .i64 x7, .int .i64 x8, .int .i64 x9, .string x10, .string x11, .int .i64 x12, .int .i64 x13] 40))) := HR1.out
  clear HR1
  generalize w.alloc (.cells #[.int .i64 x1, .int .i64 1, .int .i64 x3, .int .i64 x4, .int .i64 x5, .slice a xl.length c, .string x6, .int .i64 x7, .int .i64 x8, .int .i64 x9, .string x10, .string x11, .int .i64 x12, .int .i64 x13] 40) = W1 at *
  have HBX : Hid (∃ q : Nat, w.heap.size = q) := ⟨_, rfl⟩
  obtain ⟨bx, hbx⟩ := HBX.out
  rw [hbx] at HR1' ⊢
  clear HBX hbx
  obtain ⟨c0, c1, c2, c3, c4, c5, c6, c7, c8, c9, c10, c11, c12, c13⟩ := HR1'.out.cells
  simp only at c0 c1 c2 c3 c4 c5 c6 c7 c8 c9 c10 c11 c12 c13
  have HSQ : Hid (Rc.sqOk ⟨x1, 1, x3, x4, x5, xl, x6, x7, x8, x9, x10, x11, x12, x13⟩) := ⟨hq, show (0 : Int) ≤ 1 ∧ (1 : Int) ≤ 3 by decide⟩
  have q1 : decide (x1 < 0) = false := by simp; omega
  have q2 : decide (63 < x1) = false := by simp; omega
  clear hq
  have KK := hide (refKey_any x11 W1 (by omega))
  go_wp2_with fail
  refine KK.out.mono ?_
  rintro e _ ⟨rfl, rfl⟩
  clear KK
  by_cases hkey : keyOk x11
  case neg =>
    have HE : Hid (ckK ⟨x1, 1, x3, x4, x5, xl, x6, x7, x8, x9, x10, x11, x12, x13⟩ = 11) := by show ckK _ = _; unfold ckK; rw [if_neg (by simp), if_pos rfl, if_neg hkey]
    have HE2 : Hid (11 = ckR ⟨x1, 1, x3, x4, x5, xl, x6, x7, x8, x9, x10, x11, x12, x13⟩) := by show _ = _; rw [ckR_k HSQ.out (by rw [HE.out]; decide), HE.out]
    rw [kOk_f hkey]
    go_wp2_with fail
    try go_ret
    exact ⟨ret_int HE2.out, HB1.out⟩
  rw [kOk_t hkey]
  have HKK : Hid (ckK ⟨x1, 1, x3, x4, x5, xl, x6, x7, x8, x9, x10, x11, x12, x13⟩ = 0) := (ckK_1 rfl).2 hkey
  have HAL : Hid (∀ w, Calls Tryz.prog 68 #[.agg (rcs ⟨x1, 1, x3, x4, x5, xl, x6, x7, x8, x9, x10, x11, x12, x13⟩ a c)] w fun e w' => e = .returned (.agg (rcs ⟨x1, 1, 0, 0, 0, [], ByteArray.empty, 0, 0, 0, ByteArray.empty, x11, 0, 0⟩ none 0)) ∧ Below w.heap.size w w') := fun w => only_any ⟨x1, 1, x3, x4, x5, xl, x6, x7, x8, x9, x10, x11, x12, x13⟩ a c w HSQ.out
  have HLA := hide (alone_locs (r := ⟨x1, 1, x3, x4, x5, xl, x6, x7, x8, x9, x10, x11, x12, x13⟩) (HS.out.below HB1.out))
  skip
  go_wp2_with fail
  clear c0 c1 c2 c3 c4 c5 c6 c7 c8 c9 c10 c11 c12 c13
  refine wp_region_noPanic ?_
  refine wp_region_held_drew (S := RBx bx 40 ⟨x1, 1, x3, x4, x5, xl, x6, x7, x8, x9, x10, x11, x12, x13⟩ a c) (by kernel_rfl) HR1'.out (fun hHeld => ?_)
  refine wpAnyH_take (i := 0) (v := .agg (rcs ⟨x1, 1, x3, x4, x5, xl, x6, x7, x8, x9, x10, x11, x12, x13⟩ a c)) rfl (by kernel_rfl) (by kernel_rfl) (by kernel_rfl) (fun _ _ _ h => h) (yields_row (by rfl) 40 (.tmp 1) rfl bx rfl (rcs ⟨x1, 1, x3, x4, x5, xl, x6, x7, x8, x9, x10, x11, x12, x13⟩ a c) (fun w h => run_loadVar_row w bx 40 40 (rcs ⟨x1, 1, x3, x4, x5, xl, x6, x7, x8, x9, x10, x11, x12, x13⟩ a c) (0, 0) _ h Tryz.underlying40 rfl ref_info)) hHeld ?_
  try simp [Act.put]
  refine wpAnyH_take (i := 2) (v := .agg (rcs ⟨x1, 1, x3, x4, x5, xl, x6, x7, x8, x9, x10, x11, x12, x13⟩ a c)) rfl (by kernel_rfl) (by kernel_rfl) (by kernel_rfl) (fun _ _ _ h => h) (yields_row (by rfl) 40 (.tmp 1) rfl bx rfl (rcs ⟨x1, 1, x3, x4, x5, xl, x6, x7, x8, x9, x10, x11, x12, x13⟩ a c) (fun w h => run_loadVar_row w bx 40 40 (rcs ⟨x1, 1, x3, x4, x5, xl, x6, x7, x8, x9, x10, x11, x12, x13⟩ a c) (0, 0) _ h Tryz.underlying40 rfl ref_info)) hHeld ?_
  try simp [Act.put]
  refine wpAnyH_ready (rs := [1]) (by kernel_rfl) (by simp) ?_
  refine AllReadyH.cons rfl (fun K hK => ?_) AllReadyH.nil
  go_simp
  refine (HAL.out _).mono ?_
  rintro e w9 ⟨rfl, hb9⟩
  have hbd : Below W1.heap.size W1 w9 := (drew_below W1).trans hb9
  have HB9 := hide (HB1.out.trans (hbd.mono HB1.out.size))
  have HR9 := hide (HR1'.out.below hbd HR1'.out.lt)
  have HLA9 : Hid (LocsAt w9 none (Rc.ls ⟨x1, 1, 0, 0, 0, [], ByteArray.empty, 0, 0, 0, ByteArray.empty, x11, 0, 0⟩)) := HLA.out.1.below hbd
  refine hK.out _ _ HR9.out (fun hHeld => ?_)
  clear hK K hb9 hbd
  try simp [Act.put]
  refine wpAnyH_ready (rs := [3]) (by kernel_rfl) (by simp) ?_
  refine AllReadyH.cons rfl (fun K hK => ?_) AllReadyH.nil
  go_simp
  refine (rsame_any ⟨x1, 1, 0, 0, 0, [], ByteArray.empty, 0, 0, 0, ByteArray.empty, x11, 0, 0⟩ ⟨x1, 1, x3, x4, x5, xl, x6, x7, x8, x9, x10, x11, x12, x13⟩ none a 0 c w9 (by have := HL.out; simp only [List.length_nil]; omega) (by have := HL.out; simp only; omega) HLA9.out (HS.out.below HB9.out)).mono ?_
  rintro e w10 ⟨rfl, hb10⟩
  have HB10 := hide (HB9.out.trans (hb10.mono HB9.out.size))
  have HR10 := hide (HR9.out.below hb10 HR9.out.lt)
  refine hK.out _ _ HR10.out (fun hHeld => ?_)
  clear hK K hb10
  try simp [Act.put]
  by_cases hsm : (⟨x1, 1, x3, x4, x5, xl, x6, x7, x8, x9, x10, x11, x12, x13⟩ : Rc) = ⟨x1, 1, 0, 0, 0, [], ByteArray.empty, 0, 0, 0, ByteArray.empty, x11, 0, 0⟩
  · rw [samR_iff.2 hsm.symm]
    have HF : Hid (0 = ckR ⟨x1, 1, x3, x4, x5, xl, x6, x7, x8, x9, x10, x11, x12, x13⟩) := (ckR_ok HSQ.out HKK.out hsm).symm
    clear hsm
    refine wpAnyH_take (i := 4) (v := ?v19) rfl (by kernel_rfl) (by kernel_rfl) (by kernel_rfl) (fun _ _ _ h => h) (Or.inl ⟨by rfl, ?hy19⟩) hHeld ?rest19
    case hy19 => (intro w' hSw; go_simp; try with_reducible rfl)
    try simp [Act.put]
    refine wpAnyH_done (by kernel_rfl) (NoPanic.normal ?_) _
    go_wp2_with fail
    try go_ret
    exact ⟨ret_int HF.out, HB10.out⟩
  · rw [samR_no fun q => hsm q.symm]
    have HF : Hid (1 = ckR ⟨x1, 1, x3, x4, x5, xl, x6, x7, x8, x9, x10, x11, x12, x13⟩) := (ckR_more HSQ.out HKK.out hsm).symm
    clear hsm
    refine wpAnyH_take (i := 4) (v := ?v20) rfl (by kernel_rfl) (by kernel_rfl) (by kernel_rfl) (fun _ _ _ h => h) (Or.inl ⟨by rfl, ?hy20⟩) hHeld ?rest20
    case hy20 => (intro w' hSw; go_simp; try with_reducible rfl)
    try simp [Act.put]
    refine wpAnyH_done (by kernel_rfl) (NoPanic.normal ?_) _
    go_wp2_with fail
    try go_ret
    exact ⟨ret_int HF.out, HB10.out⟩
set_option maxRecDepth 100000 in
set_option maxHeartbeats 8000000 in
theorem rk_2 (x1 x3 x4 x5 : Int) (xl : List (Int × Int)) (x6 : ByteArray) (x7 x8 x9 : Int) (x10 x11 : ByteArray) (x12 x13 : Int) (a : Option Addr) (c : Nat) (w : World) (hS : LocsAt w a xl) (hl : xl.length ≤ 100000) (h6 : x6.size ≤ 150000000000000) (h10 : x10.size ≤ 150000000000000) (h11 : x11.size ≤ 150000000000000) (h8 : -9223372036854775808 ≤ x8 ∧ x8 ≤ 9223372036854775807) (hq : 0 ≤ x1 ∧ x1 ≤ 63) :
    Calls Tryz.prog 30 #[.agg (rcs ⟨x1, 2, x3, x4, x5, xl, x6, x7, x8, x9, x10, x11, x12, x13⟩ a c)] w fun e w' => e = .returned (.int .i64 (ckR ⟨x1, 2, x3, x4, x5, xl, x6, x7, x8, x9, x10, x11, x12, x13⟩)) ∧ Below w.heap.size w w' := by
  have HS := hide hS
  have HL := hide hl
  have HB1 : Hid (Below w.heap.size w (w.alloc (.cells (rcs ⟨x1, 2, x3, x4, x5, xl, x6, x7, x8, x9, x10, x11, x12, x13⟩ a c) 40))) := (Below.refl _ _).alloc (Nat.le_refl _) _
  have HR1 := hide (rbx_new 40 ⟨x1, 2, x3, x4, x5, xl, x6, x7, x8, x9, x10, x11, x12, x13⟩ a c w)
  clear hS hl
  simp only [rcs] at HB1 ⊢
  go_enter Tryz.func30, Tryz.ntmps30
  go_upto_region 1 with fail
  change Code.wp _ _ _ _ (w.alloc (.cells #[.int .i64 x1, .int .i64 2, .int .i64 x3, .int .i64 x4, .int .i64 x5, .slice a xl.length c, .string x6, .int .i64 x7, .int .i64 x8, .int .i64 x9, .string x10, .string x11, .int .i64 x12, .int .i64 x13] 40))
  have HR1' : Hid (RBx w.heap.size 40 ⟨x1, 2, x3, x4, x5, xl, x6, x7, x8, x9, x10, x11, x12, x13⟩ a c (w.alloc (.cells #[.int .i64 x1, .int .i64 2, .int .i64 x3, .int .i64 x4, .int .i64 x5, .slice a xl.length c, .string x6, .int .i64 x7, .int .i64 x8, .int .i64 x9, .string x10, .string x11, .int .i64 x12, .int .i64 x13] 40))) := HR1.out
  clear HR1
  generalize w.alloc (.cells #[.int .i64 x1, .int .i64 2, .int .i64 x3, .int .i64 x4, .int .i64 x5, .slice a xl.length c, .string x6, .int .i64 x7, .int .i64 x8, .int .i64 x9, .string x10, .string x11, .int .i64 x12, .int .i64 x13] 40) = W1 at *
  have HBX : Hid (∃ q : Nat, w.heap.size = q) := ⟨_, rfl⟩
  obtain ⟨bx, hbx⟩ := HBX.out
  rw [hbx] at HR1' ⊢
  clear HBX hbx
  obtain ⟨c0, c1, c2, c3, c4, c5, c6, c7, c8, c9, c10, c11, c12, c13⟩ := HR1'.out.cells
  simp only at c0 c1 c2 c3 c4 c5 c6 c7 c8 c9 c10 c11 c12 c13
  have HSQ : Hid (Rc.sqOk ⟨x1, 2, x3, x4, x5, xl, x6, x7, x8, x9, x10, x11, x12, x13⟩) := ⟨hq, show (0 : Int) ≤ 2 ∧ (2 : Int) ≤ 3 by decide⟩
  have q1 : decide (x1 < 0) = false := by simp; omega
  have q2 : decide (63 < x1) = false := by simp; omega
  clear hq
  have KV := hide (rfvol_any x3 x4 x5 a xl.length c xl W1 rfl (by have := HL.out; omega) (HS.out.below HB1.out))
  go_wp2_with fail
  refine KV.out.mono ?_
  rintro e w2 ⟨rfl, hb⟩
  have HB2 := hide (HB1.out.trans (hb.mono HB1.out.size))
  have HR2 := hide (HR1'.out.below hb HR1'.out.lt)
  clear hb KV HB1 HR1' c0 c1 c2 c3 c4 c5 c6 c7 c8 c9 c10 c11 c12 c13
  obtain ⟨c0, c1, c2, c3, c4, c5, c6, c7, c8, c9, c10, c11, c12, c13⟩ := HR2.out.cells
  simp only at c0 c1 c2 c3 c4 c5 c6 c7 c8 c9 c10 c11 c12 c13
  by_cases hvol : Rc.volOk ⟨x1, 2, x3, x4, x5, xl, x6, x7, x8, x9, x10, x11, x12, x13⟩
  case neg =>
    have HE : Hid (ckK ⟨x1, 2, x3, x4, x5, xl, x6, x7, x8, x9, x10, x11, x12, x13⟩ = 1) := by show ckK _ = _; unfold ckK; rw [if_neg (by simp), if_neg (by simp), if_pos rfl, if_neg hvol]
    have HE2 : Hid (1 = ckR ⟨x1, 2, x3, x4, x5, xl, x6, x7, x8, x9, x10, x11, x12, x13⟩) := by show _ = _; rw [ckR_k HSQ.out (by rw [HE.out]; decide), HE.out]
    rw [decide_eq_false (show ¬ volR x3 x4 x5 xl from hvol)]
    go_wp2_with fail
    try go_ret
    exact ⟨ret_int HE2.out, HB2.out⟩
  rw [decide_eq_true (show volR x3 x4 x5 xl from hvol)]
  have HKK : Hid (ckK ⟨x1, 2, x3, x4, x5, xl, x6, x7, x8, x9, x10, x11, x12, x13⟩ = 0) := (ckK_2 rfl).2 hvol
  have HAL : Hid (∀ w, Calls Tryz.prog 68 #[.agg (rcs ⟨x1, 2, x3, x4, x5, xl, x6, x7, x8, x9, x10, x11, x12, x13⟩ a c)] w fun e w' => e = .returned (.agg (rcs ⟨x1, 2, x3, x4, x5, xl, ByteArray.empty, 0, 0, 0, ByteArray.empty, ByteArray.empty, 0, 0⟩ a c)) ∧ Below w.heap.size w w') := fun w => only_any ⟨x1, 2, x3, x4, x5, xl, x6, x7, x8, x9, x10, x11, x12, x13⟩ a c w HSQ.out
  have HLA := hide (alone_locs (r := ⟨x1, 2, x3, x4, x5, xl, x6, x7, x8, x9, x10, x11, x12, x13⟩) (HS.out.below HB2.out))
  skip
  go_wp2_with fail
  clear c0 c1 c2 c3 c4 c5 c6 c7 c8 c9 c10 c11 c12 c13
  refine wp_region_noPanic ?_
  refine wp_region_held_drew (S := RBx bx 40 ⟨x1, 2, x3, x4, x5, xl, x6, x7, x8, x9, x10, x11, x12, x13⟩ a c) (by kernel_rfl) HR2.out (fun hHeld => ?_)
  refine wpAnyH_take (i := 0) (v := .agg (rcs ⟨x1, 2, x3, x4, x5, xl, x6, x7, x8, x9, x10, x11, x12, x13⟩ a c)) rfl (by kernel_rfl) (by kernel_rfl) (by kernel_rfl) (fun _ _ _ h => h) (yields_row (by rfl) 40 (.tmp 1) rfl bx rfl (rcs ⟨x1, 2, x3, x4, x5, xl, x6, x7, x8, x9, x10, x11, x12, x13⟩ a c) (fun w h => run_loadVar_row w bx 40 40 (rcs ⟨x1, 2, x3, x4, x5, xl, x6, x7, x8, x9, x10, x11, x12, x13⟩ a c) (0, 0) _ h Tryz.underlying40 rfl ref_info)) hHeld ?_
  try simp [Act.put]
  refine wpAnyH_take (i := 2) (v := .agg (rcs ⟨x1, 2, x3, x4, x5, xl, x6, x7, x8, x9, x10, x11, x12, x13⟩ a c)) rfl (by kernel_rfl) (by kernel_rfl) (by kernel_rfl) (fun _ _ _ h => h) (yields_row (by rfl) 40 (.tmp 1) rfl bx rfl (rcs ⟨x1, 2, x3, x4, x5, xl, x6, x7, x8, x9, x10, x11, x12, x13⟩ a c) (fun w h => run_loadVar_row w bx 40 40 (rcs ⟨x1, 2, x3, x4, x5, xl, x6, x7, x8, x9, x10, x11, x12, x13⟩ a c) (0, 0) _ h Tryz.underlying40 rfl ref_info)) hHeld ?_
  try simp [Act.put]
  refine wpAnyH_ready (rs := [1]) (by kernel_rfl) (by simp) ?_
  refine AllReadyH.cons rfl (fun K hK => ?_) AllReadyH.nil
  go_simp
  refine (HAL.out _).mono ?_
  rintro e w9 ⟨rfl, hb9⟩
  have hbd : Below w2.heap.size w2 w9 := (drew_below w2).trans hb9
  have HB9 := hide (HB2.out.trans (hbd.mono HB2.out.size))
  have HR9 := hide (HR2.out.below hbd HR2.out.lt)
  have HLA9 : Hid (LocsAt w9 a (Rc.ls ⟨x1, 2, x3, x4, x5, xl, ByteArray.empty, 0, 0, 0, ByteArray.empty, ByteArray.empty, 0, 0⟩)) := HLA.out.1.below hbd
  refine hK.out _ _ HR9.out (fun hHeld => ?_)
  clear hK K hb9 hbd
  try simp [Act.put]
  refine wpAnyH_ready (rs := [3]) (by kernel_rfl) (by simp) ?_
  refine AllReadyH.cons rfl (fun K hK => ?_) AllReadyH.nil
  go_simp
  refine (rsame_any ⟨x1, 2, x3, x4, x5, xl, ByteArray.empty, 0, 0, 0, ByteArray.empty, ByteArray.empty, 0, 0⟩ ⟨x1, 2, x3, x4, x5, xl, x6, x7, x8, x9, x10, x11, x12, x13⟩ a a c c w9 (by have := HL.out; simp only; omega) (by have := HL.out; simp only; omega) HLA9.out (HS.out.below HB9.out)).mono ?_
  rintro e w10 ⟨rfl, hb10⟩
  have HB10 := hide (HB9.out.trans (hb10.mono HB9.out.size))
  have HR10 := hide (HR9.out.below hb10 HR9.out.lt)
  refine hK.out _ _ HR10.out (fun hHeld => ?_)
  clear hK K hb10
  try simp [Act.put]
  by_cases hsm : (⟨x1, 2, x3, x4, x5, xl, x6, x7, x8, x9, x10, x11, x12, x13⟩ : Rc) = ⟨x1, 2, x3, x4, x5, xl, ByteArray.empty, 0, 0, 0, ByteArray.empty, ByteArray.empty, 0, 0⟩
  · rw [samR_iff.2 hsm.symm]
    have HF : Hid (0 = ckR ⟨x1, 2, x3, x4, x5, xl, x6, x7, x8, x9, x10, x11, x12, x13⟩) := (ckR_ok HSQ.out HKK.out hsm).symm
    clear hsm
    refine wpAnyH_take (i := 4) (v := ?v21) rfl (by kernel_rfl) (by kernel_rfl) (by kernel_rfl) (fun _ _ _ h => h) (Or.inl ⟨by rfl, ?hy21⟩) hHeld ?rest21
    case hy21 => (intro w' hSw; go_simp; try with_reducible rfl)
    try simp [Act.put]
    refine wpAnyH_done (by kernel_rfl) (NoPanic.normal ?_) _
    go_wp2_with fail
    try go_ret
    exact ⟨ret_int HF.out, HB10.out⟩
  · rw [samR_no fun q => hsm q.symm]
    have HF : Hid (1 = ckR ⟨x1, 2, x3, x4, x5, xl, x6, x7, x8, x9, x10, x11, x12, x13⟩) := (ckR_more HSQ.out HKK.out hsm).symm
    clear hsm
    refine wpAnyH_take (i := 4) (v := ?v22) rfl (by kernel_rfl) (by kernel_rfl) (by kernel_rfl) (fun _ _ _ h => h) (Or.inl ⟨by rfl, ?hy22⟩) hHeld ?rest22
    case hy22 => (intro w' hSw; go_simp; try with_reducible rfl)
    try simp [Act.put]
    refine wpAnyH_done (by kernel_rfl) (NoPanic.normal ?_) _
    go_wp2_with fail
    try go_ret
    exact ⟨ret_int HF.out, HB10.out⟩
set_option maxRecDepth 100000 in
set_option maxHeartbeats 8000000 in
theorem rk_3 (x1 x3 x4 x5 : Int) (xl : List (Int × Int)) (x6 : ByteArray) (x7 x8 x9 : Int) (x10 x11 : ByteArray) (x12 x13 : Int) (a : Option Addr) (c : Nat) (w : World) (hS : LocsAt w a xl) (hl : xl.length ≤ 100000) (h6 : x6.size ≤ 150000000000000) (h10 : x10.size ≤ 150000000000000) (h11 : x11.size ≤ 150000000000000) (h8 : -9223372036854775808 ≤ x8 ∧ x8 ≤ 9223372036854775807) (hq : 0 ≤ x1 ∧ x1 ≤ 63) :
    Calls Tryz.prog 30 #[.agg (rcs ⟨x1, 3, x3, x4, x5, xl, x6, x7, x8, x9, x10, x11, x12, x13⟩ a c)] w fun e w' => e = .returned (.int .i64 (ckR ⟨x1, 3, x3, x4, x5, xl, x6, x7, x8, x9, x10, x11, x12, x13⟩)) ∧ Below w.heap.size w w' := by
  have HS := hide hS
  have HL := hide hl
  have HB1 : Hid (Below w.heap.size w (w.alloc (.cells (rcs ⟨x1, 3, x3, x4, x5, xl, x6, x7, x8, x9, x10, x11, x12, x13⟩ a c) 40))) := (Below.refl _ _).alloc (Nat.le_refl _) _
  have HR1 := hide (rbx_new 40 ⟨x1, 3, x3, x4, x5, xl, x6, x7, x8, x9, x10, x11, x12, x13⟩ a c w)
  clear hS hl
  simp only [rcs] at HB1 ⊢
  go_enter Tryz.func30, Tryz.ntmps30
  go_upto_region 1 with fail
  change Code.wp _ _ _ _ (w.alloc (.cells #[.int .i64 x1, .int .i64 3, .int .i64 x3, .int .i64 x4, .int .i64 x5, .slice a xl.length c, .string x6, .int .i64 x7, .int .i64 x8, .int .i64 x9, .string x10, .string x11, .int .i64 x12, .int .i64 x13] 40))
  have HR1' : Hid (RBx w.heap.size 40 ⟨x1, 3, x3, x4, x5, xl, x6, x7, x8, x9, x10, x11, x12, x13⟩ a c (w.alloc (.cells #[.int .i64 x1, .int .i64 3, .int .i64 x3, .int .i64 x4, .int .i64 x5, .slice a xl.length c, .string x6, .int .i64 x7, .int .i64 x8, .int .i64 x9, .string x10, .string x11, .int .i64 x12, .int .i64 x13] 40))) := HR1.out
  clear HR1
  generalize w.alloc (.cells #[.int .i64 x1, .int .i64 3, .int .i64 x3, .int .i64 x4, .int .i64 x5, .slice a xl.length c, .string x6, .int .i64 x7, .int .i64 x8, .int .i64 x9, .string x10, .string x11, .int .i64 x12, .int .i64 x13] 40) = W1 at *
  have HBX : Hid (∃ q : Nat, w.heap.size = q) := ⟨_, rfl⟩
  obtain ⟨bx, hbx⟩ := HBX.out
  rw [hbx] at HR1' ⊢
  clear HBX hbx
  obtain ⟨c0, c1, c2, c3, c4, c5, c6, c7, c8, c9, c10, c11, c12, c13⟩ := HR1'.out.cells
  simp only at c0 c1 c2 c3 c4 c5 c6 c7 c8 c9 c10 c11 c12 c13
  have HSQ : Hid (Rc.sqOk ⟨x1, 3, x3, x4, x5, xl, x6, x7, x8, x9, x10, x11, x12, x13⟩) := ⟨hq, show (0 : Int) ≤ 3 ∧ (3 : Int) ≤ 3 by decide⟩
  have q1 : decide (x1 < 0) = false := by simp; omega
  have q2 : decide (63 < x1) = false := by simp; omega
  clear hq
  have KV := hide (rfvol_any x3 x4 x5 a xl.length c xl W1 rfl (by have := HL.out; omega) (HS.out.below HB1.out))
  go_wp2_with fail
  refine KV.out.mono ?_
  rintro e w2 ⟨rfl, hb⟩
  have HB2 := hide (HB1.out.trans (hb.mono HB1.out.size))
  have HR2 := hide (HR1'.out.below hb HR1'.out.lt)
  clear hb KV HB1 HR1' c0 c1 c2 c3 c4 c5 c6 c7 c8 c9 c10 c11 c12 c13
  obtain ⟨c0, c1, c2, c3, c4, c5, c6, c7, c8, c9, c10, c11, c12, c13⟩ := HR2.out.cells
  simp only at c0 c1 c2 c3 c4 c5 c6 c7 c8 c9 c10 c11 c12 c13
  by_cases hvol : Rc.volOk ⟨x1, 3, x3, x4, x5, xl, x6, x7, x8, x9, x10, x11, x12, x13⟩
  case neg =>
    have HE : Hid (ckK ⟨x1, 3, x3, x4, x5, xl, x6, x7, x8, x9, x10, x11, x12, x13⟩ = 1) := by show ckK _ = _; unfold ckK; rw [if_neg (by simp), if_neg (by simp), if_neg (by simp), if_neg hvol]
    have HE2 : Hid (1 = ckR ⟨x1, 3, x3, x4, x5, xl, x6, x7, x8, x9, x10, x11, x12, x13⟩) := by show _ = _; rw [ckR_k HSQ.out (by rw [HE.out]; decide), HE.out]
    rw [decide_eq_false (show ¬ volR x3 x4 x5 xl from hvol)]
    go_wp2_with fail
    try go_ret
    exact ⟨ret_int HE2.out, HB2.out⟩
  rw [decide_eq_true (show volR x3 x4 x5 xl from hvol)]
  have KA := hide (rnumber_any x12 w2)
  have KB := hide (rnumber_any x13 w2)
  have HNO : Hid (¬ endR x12 x13 → 1 = ckR ⟨x1, 3, x3, x4, x5, xl, x6, x7, x8, x9, x10, x11, x12, x13⟩) := fun hin => by
    have HE : ckK ⟨x1, 3, x3, x4, x5, xl, x6, x7, x8, x9, x10, x11, x12, x13⟩ = 1 := by unfold ckK; rw [if_neg (by simp), if_neg (by simp), if_neg (by simp), if_pos hvol, if_neg (show ¬ Rc.endOk ⟨x1, 3, x3, x4, x5, xl, x6, x7, x8, x9, x10, x11, x12, x13⟩ from hin)]
    rw [ckR_k HSQ.out (by rw [HE]; decide), HE]
  go_wp2_with fail
  refine KA.out.mono ?_
  rintro e _ ⟨rfl, rfl⟩
  by_cases r1 : numR x12
  case neg =>
    have HF := hide (HNO.out fun q => r1 q.1)
    rw [decide_eq_false r1]
    go_wp2_with fail
    try go_ret
    exact ⟨ret_int HF.out, HB2.out⟩
  rw [decide_eq_true r1]
  go_wp2_with fail
  refine KB.out.mono ?_
  rintro e _ ⟨rfl, rfl⟩
  by_cases r2 : numR x13
  case neg =>
    have HF := hide (HNO.out fun q => r2 q.2.1)
    rw [decide_eq_false r2]
    go_wp2_with fail
    try go_ret
    exact ⟨ret_int HF.out, HB2.out⟩
  rw [decide_eq_true r2]
  by_cases r3 : x12 = x13
  · have HF := hide (HNO.out fun q => q.2.2 r3)
    have qq : ((x12 : Int) == x13) = true := by simpa using r3
    clear r3
    go_wp2_with fail
    try go_ret
    exact ⟨ret_int HF.out, HB2.out⟩
  have qq : ((x12 : Int) == x13) = false := by simpa using r3
  have hend : Rc.endOk ⟨x1, 3, x3, x4, x5, xl, x6, x7, x8, x9, x10, x11, x12, x13⟩ := ⟨r1, r2, r3⟩
  clear r3 HNO
  have HKK : Hid (ckK ⟨x1, 3, x3, x4, x5, xl, x6, x7, x8, x9, x10, x11, x12, x13⟩ = 0) := (ckK_3 rfl).2 ⟨hvol, hend⟩
  have HAL : Hid (∀ w, Calls Tryz.prog 68 #[.agg (rcs ⟨x1, 3, x3, x4, x5, xl, x6, x7, x8, x9, x10, x11, x12, x13⟩ a c)] w fun e w' => e = .returned (.agg (rcs ⟨x1, 3, x3, x4, x5, xl, ByteArray.empty, 0, 0, 0, ByteArray.empty, ByteArray.empty, x12, x13⟩ a c)) ∧ Below w.heap.size w w') := fun w => only_any ⟨x1, 3, x3, x4, x5, xl, x6, x7, x8, x9, x10, x11, x12, x13⟩ a c w HSQ.out
  have HLA := hide (alone_locs (r := ⟨x1, 3, x3, x4, x5, xl, x6, x7, x8, x9, x10, x11, x12, x13⟩) (HS.out.below HB2.out))
  clear hend
  go_wp2_with fail
  clear c0 c1 c2 c3 c4 c5 c6 c7 c8 c9 c10 c11 c12 c13
  refine wp_region_noPanic ?_
  refine wp_region_held_drew (S := RBx bx 40 ⟨x1, 3, x3, x4, x5, xl, x6, x7, x8, x9, x10, x11, x12, x13⟩ a c) (by kernel_rfl) HR2.out (fun hHeld => ?_)
  refine wpAnyH_take (i := 0) (v := .agg (rcs ⟨x1, 3, x3, x4, x5, xl, x6, x7, x8, x9, x10, x11, x12, x13⟩ a c)) rfl (by kernel_rfl) (by kernel_rfl) (by kernel_rfl) (fun _ _ _ h => h) (yields_row (by rfl) 40 (.tmp 1) rfl bx rfl (rcs ⟨x1, 3, x3, x4, x5, xl, x6, x7, x8, x9, x10, x11, x12, x13⟩ a c) (fun w h => run_loadVar_row w bx 40 40 (rcs ⟨x1, 3, x3, x4, x5, xl, x6, x7, x8, x9, x10, x11, x12, x13⟩ a c) (0, 0) _ h Tryz.underlying40 rfl ref_info)) hHeld ?_
  try simp [Act.put]
  refine wpAnyH_take (i := 2) (v := .agg (rcs ⟨x1, 3, x3, x4, x5, xl, x6, x7, x8, x9, x10, x11, x12, x13⟩ a c)) rfl (by kernel_rfl) (by kernel_rfl) (by kernel_rfl) (fun _ _ _ h => h) (yields_row (by rfl) 40 (.tmp 1) rfl bx rfl (rcs ⟨x1, 3, x3, x4, x5, xl, x6, x7, x8, x9, x10, x11, x12, x13⟩ a c) (fun w h => run_loadVar_row w bx 40 40 (rcs ⟨x1, 3, x3, x4, x5, xl, x6, x7, x8, x9, x10, x11, x12, x13⟩ a c) (0, 0) _ h Tryz.underlying40 rfl ref_info)) hHeld ?_
  try simp [Act.put]
  refine wpAnyH_ready (rs := [1]) (by kernel_rfl) (by simp) ?_
  refine AllReadyH.cons rfl (fun K hK => ?_) AllReadyH.nil
  go_simp
  refine (HAL.out _).mono ?_
  rintro e w9 ⟨rfl, hb9⟩
  have hbd : Below w2.heap.size w2 w9 := (drew_below w2).trans hb9
  have HB9 := hide (HB2.out.trans (hbd.mono HB2.out.size))
  have HR9 := hide (HR2.out.below hbd HR2.out.lt)
  have HLA9 : Hid (LocsAt w9 a (Rc.ls ⟨x1, 3, x3, x4, x5, xl, ByteArray.empty, 0, 0, 0, ByteArray.empty, ByteArray.empty, x12, x13⟩)) := HLA.out.1.below hbd
  refine hK.out _ _ HR9.out (fun hHeld => ?_)
  clear hK K hb9 hbd
  try simp [Act.put]
  refine wpAnyH_ready (rs := [3]) (by kernel_rfl) (by simp) ?_
  refine AllReadyH.cons rfl (fun K hK => ?_) AllReadyH.nil
  go_simp
  refine (rsame_any ⟨x1, 3, x3, x4, x5, xl, ByteArray.empty, 0, 0, 0, ByteArray.empty, ByteArray.empty, x12, x13⟩ ⟨x1, 3, x3, x4, x5, xl, x6, x7, x8, x9, x10, x11, x12, x13⟩ a a c c w9 (by have := HL.out; simp only; omega) (by have := HL.out; simp only; omega) HLA9.out (HS.out.below HB9.out)).mono ?_
  rintro e w10 ⟨rfl, hb10⟩
  have HB10 := hide (HB9.out.trans (hb10.mono HB9.out.size))
  have HR10 := hide (HR9.out.below hb10 HR9.out.lt)
  refine hK.out _ _ HR10.out (fun hHeld => ?_)
  clear hK K hb10
  try simp [Act.put]
  by_cases hsm : (⟨x1, 3, x3, x4, x5, xl, x6, x7, x8, x9, x10, x11, x12, x13⟩ : Rc) = ⟨x1, 3, x3, x4, x5, xl, ByteArray.empty, 0, 0, 0, ByteArray.empty, ByteArray.empty, x12, x13⟩
  · rw [samR_iff.2 hsm.symm]
    have HF : Hid (0 = ckR ⟨x1, 3, x3, x4, x5, xl, x6, x7, x8, x9, x10, x11, x12, x13⟩) := (ckR_ok HSQ.out HKK.out hsm).symm
    clear hsm
    refine wpAnyH_take (i := 4) (v := ?v23) rfl (by kernel_rfl) (by kernel_rfl) (by kernel_rfl) (fun _ _ _ h => h) (Or.inl ⟨by rfl, ?hy23⟩) hHeld ?rest23
    case hy23 => (intro w' hSw; go_simp; try with_reducible rfl)
    try simp [Act.put]
    refine wpAnyH_done (by kernel_rfl) (NoPanic.normal ?_) _
    go_wp2_with fail
    try go_ret
    exact ⟨ret_int HF.out, HB10.out⟩
  · rw [samR_no fun q => hsm q.symm]
    have HF : Hid (1 = ckR ⟨x1, 3, x3, x4, x5, xl, x6, x7, x8, x9, x10, x11, x12, x13⟩) := (ckR_more HSQ.out HKK.out hsm).symm
    clear hsm
    refine wpAnyH_take (i := 4) (v := ?v24) rfl (by kernel_rfl) (by kernel_rfl) (by kernel_rfl) (fun _ _ _ h => h) (Or.inl ⟨by rfl, ?hy24⟩) hHeld ?rest24
    case hy24 => (intro w' hSw; go_simp; try with_reducible rfl)
    try simp [Act.put]
    refine wpAnyH_done (by kernel_rfl) (NoPanic.normal ?_) _
    go_wp2_with fail
    try go_ret
    exact ⟨ret_int HF.out, HB10.out⟩
theorem rk_any (r : Rc) (a : Option Addr) (c : Nat) (w : World) (hS : LocsAt w a r.ls) (hf : r.fit) : Calls Tryz.prog 30 #[.agg (rcs r a c)] w fun e w' => e = .returned (.int .i64 (ckR r)) ∧ Below w.heap.size w w' := by
  obtain ⟨f1, f2, f3, f4, f5⟩ := hf
  by_cases hs : r.sqOk
  · obtain ⟨x1, x2, x3, x4, x5, xl, x6, x7, x8, x9, x10, x11, x12, x13⟩ := r
    have hs1 := hs.1
    simp only at hS f1 f2 f3 f4 f5 hs1
    rcases kind_four hs with h | h | h | h <;> simp only at h <;> subst h
    · exact rk_0 x1 x3 x4 x5 xl x6 x7 x8 x9 x10 x11 x12 x13 a c w hS f1 f2 f3 f4 f5 hs1
    · exact rk_1 x1 x3 x4 x5 xl x6 x7 x8 x9 x10 x11 x12 x13 a c w hS f1 f2 f3 f4 f5 hs1
    · exact rk_2 x1 x3 x4 x5 xl x6 x7 x8 x9 x10 x11 x12 x13 a c w hS f1 f2 f3 f4 f5 hs1
    · exact rk_3 x1 x3 x4 x5 xl x6 x7 x8 x9 x10 x11 x12 x13 a c w hS f1 f2 f3 f4 f5 hs1
  · rw [ckR_sq hs]
    obtain ⟨x1, x2, x3, x4, x5, xl, x6, x7, x8, x9, x10, x11, x12, x13⟩ := r
    exact rk_sq x1 x2 x3 x4 x5 xl x6 x7 x8 x9 x10 x11 x12 x13 a c w hS f1 f2 f3 f4 f5 hs
end Go.Proofs.YtonhmihmnkicdaaGreat
