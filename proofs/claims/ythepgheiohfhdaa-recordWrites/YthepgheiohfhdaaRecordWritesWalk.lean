/- RecordWrites answers true at every input. -/
import Derived.Test.YthepgheiohfhdaaRcQuiet
import Derived.Test.YthepgheiohfhdaaRcRefW
namespace Go.Proofs.Ythepgheiohfhdaa
open Go.RowKit
set_option linter.unusedVariables false
set_option maxRecDepth 100000 in
set_option maxHeartbeats 16000000 in
theorem walkRecordWrites (v : Value) (w : World) (hv : CameV 28 14 w v) : Calls Try.prog 3 #[v] w fun e w' => e = .returned (.bool true) ∧ Below w.heap.size w w' := by
  obtain ⟨r, a, c, rfl, hS, hcm⟩ := rc_open hv
  clear hv
  have HA : Hid (Below w.heap.size w (w.alloc (.cells (rcs r a c) 28))) := (Below.refl _ _).alloc (Nat.le_refl _) _
  have HX := hide (rbx_new 28 r a c w)
  have HS := hide hS
  have HM := hide (fun w => small_any r a c w hcm)
  by_cases hsm : smlB r = true
  case neg =>
    have hb : smlB r = false := by simpa using hsm
    rw [hb] at HM
    clear hsm hb hS hcm
    go_enter Try.func3, Try.ntmps3
    go_upto_region 1 with fail
    generalize w.alloc (.cells (rcs r a c) 28) = W1 at *
    go_wp2_with (first | (refine wpList_load_row rfl 28 (.tmp 1) rfl w.heap.size rfl 28 (rcs r a c) (0, 0) _ HX.out Try.underlying28 rfl ref_info ?_))
    refine (HM.out W1).mono ?_
    rintro e w2 ⟨rfl, hb⟩
    have B2 := hide (HA.out.trans (hb.mono HA.out.size))
    clear hb
    go_wp2_with fail
    refine (live_any w2).mono ?_
    rintro e wl ⟨rfl, hb⟩
    have BL := hide (B2.out.trans (hb.mono B2.out.size))
    clear hb
    go_wp2_with fail
    try go_ret
    exact ⟨rfl, BL.out⟩
  rw [hsm] at HM
  have hf := small_fit hcm hsm
  have HF := hide hf
  have HL : Hid (r.ls.length ≤ 1000000) := by unfold Hid; have := hf.1; omega
  clear hsm hS hcm hf
  go_enter Try.func3, Try.ntmps3
  go_upto_region 1 with fail
  generalize w.alloc (.cells (rcs r a c) 28) = W1 at *
  generalize hbx : w.heap.size = bx at HX ⊢
  go_wp2_with (first | (refine wpList_load_row rfl 28 (.tmp 1) rfl bx rfl 28 (rcs r a c) (0, 0) _ HX.out Try.underlying28 rfl ref_info ?_))
  refine (HM.out W1).mono ?_
  rintro e w2 ⟨rfl, hb⟩
  have B2 := hide (HA.out.trans (hb.mono HA.out.size))
  have X2 := hide (HX.out.below hb HX.out.lt)
  clear hb HA HX HM
  go_wp2_with (first | (refine wpList_load_row rfl 28 (.tmp 1) rfl bx rfl 28 (rcs r a c) (0, 0) _ X2.out Try.underlying28 rfl ref_info ?_))
  refine (own_any r a c w2).mono ?_
  rintro e w3 ⟨rfl, hb⟩
  have B3 := hide (B2.out.trans (hb.mono B2.out.size))
  have X3 := hide (X2.out.below hb X2.out.lt)
  clear hb B2 X2
  go_wp2_with fail
  refine (rwrite_any r a c w3 (HS.out.below (by rw [hbx] at *; exact B3.out)) HF.out).mono ?_
  rintro e w4 ⟨rfl, hb⟩
  have B4 := hide (B3.out.trans (hb.mono B3.out.size))
  have X4 := hide (X3.out.below hb X3.out.lt)
  clear hb B3 X3
  go_wp2_with (first | (refine wpList_load_row rfl 28 (.tmp 1) rfl bx rfl 28 (rcs r a c) (0, 0) _ X4.out Try.underlying28 rfl ref_info ?_))
  refine (qwrite_any r a c w4 (HS.out.below (by rw [hbx] at *; exact B4.out)) HF.out).mono ?_
  rintro e w5 ⟨rfl, hb⟩
  have B5 := hide (B4.out.trans (hb.mono B4.out.size))
  have X5 := hide (X4.out.below hb X4.out.lt)
  clear hb B4 X4
  have S5 := hide (HS.out.below (show Below w.heap.size w w5 by rw [hbx] at *; exact B5.out))
  have r0 := own_q r a c w5
  have r1 := ck_q r a c w5 S5.out HF.out
  have r2 := rk_q r a c w5 S5.out HF.out
  have r3 := vol_q r.vid r.vgen r.vlen a r.ls.length c r.ls w5 rfl HL.out S5.out
  have r4 := rfvol_q r.vid r.vgen r.vlen a r.ls.length c r.ls w5 rfl HL.out S5.out
  have r5 := live_q w5
  simp only [rcs, vlc] at r0 r1 r2 r3 r4
  obtain ⟨k0, k1, k2, k3, k4, k5, k6, k7, k8, k9, k10, k11, k12, k13⟩ := X5.out.cells
  have e0 := cell_regrown k0
  have e1 := cell_regrown k1
  have e2 := cell_regrown k2
  have e3 := cell_regrown k3
  have e4 := cell_regrown k4
  have e5 := cell_regrown k5
  have e6 := cell_regrown k6
  have e7 := cell_regrown k7
  have e8 := cell_regrown k8
  have e9 := cell_regrown k9
  have e10 := cell_regrown k10
  have e11 := cell_regrown k11
  have e12 := cell_regrown k12
  have e13 := cell_regrown k13
  clear k0 k1 k2 k3 k4 k5 k6 k7 k8 k9 k10 k11 k12 k13
  generalize wR r = S at *
  generalize ckR r = E at *
  generalize decide (volR r.vid r.vgen r.vlen r.ls) = V at *
  go_upto_region 5 with fail
  refine wp_region_quiet_below (by kernel_rfl) (by kernel_rfl) ?_
  repeat (quiet_step (first | (with_reducible exact r0 _ _) | (with_reducible exact r1 _ _) | (with_reducible exact r2 _ _) | (with_reducible exact r3 _ _) | (with_reducible exact r4 _ _) | (with_reducible exact r5 _ _)))
  refine wpQuiet_nil ?_
  intro _ hw'
  obtain ⟨pq, hw''⟩ := hw'
  subst hw''
  have HQ := hide (B5.out.trans ((below_regrown w5 pq.d pq.os).mono B5.out.size))
  generalize Go.Sort.grow (redrawn w5 pq.d) pq.os = WQ at *
  go_wp2_with fail
  try go_ret
  exact ⟨rfl, HQ.out⟩
end Go.Proofs.Ythepgheiohfhdaa
