/- RecordSame answers true at every input. -/
import Derived.Test.YthepgheiohfhdaaRcQuiet
namespace Go.Proofs.Ythepgheiohfhdaa
open Go.RowKit
set_option linter.unusedVariables false
theorem two_same (x y : Rc) (hx : ckR x = 0) (hy : ckR y = 0) : ((wR x).toList == (wR y).toList) = samR x y := by
  by_cases h : x = y
  · subst h; rw [samR_self, str_eq rfl]
  · rw [samR_no h, str_ne fun q => h (wR_inj hx hy q)]
set_option maxRecDepth 100000 in
set_option maxHeartbeats 16000000 in
theorem walkRecordSame (v v1 : Value) (w : World) (hv : CameV 28 14 w v) (hv1 : CameV 28 14 w v1) : Calls Try.prog 6 #[v, v1] w fun e w' => e = .returned (.bool true) ∧ Below w.heap.size w w' := by
  obtain ⟨r, a, c, rfl, hS, hcm⟩ := rc_open hv
  obtain ⟨t, b, d, rfl, hT, htm⟩ := rc_open hv1
  clear hv hv1
  have hal : Below w.heap.size w ((w.alloc (.cells (rcs r a c) 28)).alloc (.cells (rcs t b d) 28)) := ((Below.refl _ _).alloc (Nat.le_refl _) _).alloc (by rw [World.size_alloc]; omega) _
  have HA := hide hal
  have HX := hide ((rbx_new 28 r a c w).below ((Below.refl _ _).alloc (Nat.le_refl _) (.cells (rcs t b d) 28)) (by rw [World.size_alloc]; omega))
  have HY : Hid (RBx (w.heap.size + 1) 28 t b d ((w.alloc (.cells (rcs r a c) 28)).alloc (.cells (rcs t b d) 28))) := by
    have q := rbx_new 28 t b d (w.alloc (.cells (rcs r a c) 28))
    rw [World.size_alloc] at q
    exact q
  have HS := hide (hS.below hal)
  have HT := hide (hT.below hal)
  have HM := hide (fun w => small_any r a c w hcm)
  have HM2 := hide (fun w => small_any t b d w htm)
  clear hal hS hT
  by_cases hsm : smlB r = true
  case neg =>
    have hb : smlB r = false := by simpa using hsm
    rw [hb] at HM
    clear hsm hb hcm htm
    go_enter Try.func6, Try.ntmps6
    go_upto_region 1 with fail
    generalize (w.alloc (.cells (rcs r a c) 28)).alloc (.cells (rcs t b d) 28) = W1 at *
    go_wp2_with (first | (refine wpList_load_row rfl 28 (.tmp 2) rfl w.heap.size rfl 28 (rcs r a c) (0, 0) _ HX.out Try.underlying28 rfl ref_info ?_))
    refine (HM.out W1).mono ?_
    rintro e w2 ⟨rfl, hb⟩
    have B2 := hide (HA.out.trans (hb.mono HA.out.size))
    clear hb
    go_wp2_with fail
    refine (live_any w2).mono ?_
    rintro e wl ⟨rfl, hb⟩
    have BL := hide (B2.out.trans (hb.mono B2.out.size))
    clear hb
    go_wp2_with fail
    try go_ret
    exact ⟨rfl, BL.out⟩
  rw [hsm] at HM
  by_cases hsn : smlB t = true
  case neg =>
    have hb : smlB t = false := by simpa using hsn
    rw [hb] at HM2
    clear hsm hsn hb hcm htm
    go_enter Try.func6, Try.ntmps6
    go_upto_region 1 with fail
    generalize (w.alloc (.cells (rcs r a c) 28)).alloc (.cells (rcs t b d) 28) = W1 at *
    go_wp2_with (first | (refine wpList_load_row rfl 28 (.tmp 2) rfl w.heap.size rfl 28 (rcs r a c) (0, 0) _ HX.out Try.underlying28 rfl ref_info ?_))
    refine (HM.out W1).mono ?_
    rintro e w2 ⟨rfl, hb⟩
    have B2 := hide (HA.out.trans (hb.mono HA.out.size))
    have Y2 := hide (HY.out.below hb HY.out.lt)
    clear hb
    obtain ⟨k0, k1, k2, k3, k4, k5, k6, k7, k8, k9, k10, k11, k12, k13⟩ := Y2.out.cells
    go_wp2_with fail
    refine (HM2.out w2).mono ?_
    rintro e w3 ⟨rfl, hb⟩
    have B3 := hide (B2.out.trans (hb.mono B2.out.size))
    clear hb
    go_wp2_with fail
    refine (live_any w3).mono ?_
    rintro e wl ⟨rfl, hb⟩
    have BL := hide (B3.out.trans (hb.mono B3.out.size))
    clear hb
    go_wp2_with fail
    try go_ret
    exact ⟨rfl, BL.out⟩
  rw [hsn] at HM2
  have hf := small_fit hcm hsm
  have hg := small_fit htm hsn
  have HF := hide hf
  have HG := hide hg
  have HL : Hid (r.ls.length ≤ 1000000 ∧ t.ls.length ≤ 1000000) := by unfold Hid; have h1 := hf.1; have h2 := hg.1; omega
  clear hsm hsn hcm htm hf hg
  have HTW := hide (two_same r t)
  go_enter Try.func6, Try.ntmps6
  go_upto_region 1 with fail
  generalize (w.alloc (.cells (rcs r a c) 28)).alloc (.cells (rcs t b d) 28) = W1 at *
  go_wp2_with (first | (refine wpList_load_row rfl 28 (.tmp 2) rfl w.heap.size rfl 28 (rcs r a c) (0, 0) _ HX.out Try.underlying28 rfl ref_info ?_))
  refine (HM.out W1).mono ?_
  rintro e w2 ⟨rfl, hb⟩
  have B2 := hide (HA.out.trans (hb.mono HA.out.size))
  have X2 := hide (HX.out.below hb HX.out.lt)
  have Y2 := hide (HY.out.below hb HY.out.lt)
  have S2 := hide (HS.out.below hb)
  have T2 := hide (HT.out.below hb)
  clear hb HA HX HY HS HT HM
  obtain ⟨k0, k1, k2, k3, k4, k5, k6, k7, k8, k9, k10, k11, k12, k13⟩ := Y2.out.cells
  go_wp2_with fail
  refine (HM2.out w2).mono ?_
  rintro e w3 ⟨rfl, hb⟩
  have B3 := hide (B2.out.trans (hb.mono B2.out.size))
  have X3 := hide (X2.out.below hb X2.out.lt)
  have Y3 := hide (Y2.out.below hb Y2.out.lt)
  have S3 := hide (S2.out.below hb)
  have T3 := hide (T2.out.below hb)
  clear hb B2 X2 Y2 S2 T2 HM2 k0 k1 k2 k3 k4 k5 k6 k7 k8 k9 k10 k11 k12 k13
  go_wp2_with fail
  obtain ⟨p0, p1, p2, p3, p4, p5, p6, p7, p8, p9, p10, p11, p12, p13⟩ := X3.out.cells
  have ep0 := cell_regrown p0
  have ep1 := cell_regrown p1
  have ep2 := cell_regrown p2
  have ep3 := cell_regrown p3
  have ep4 := cell_regrown p4
  have ep5 := cell_regrown p5
  have ep6 := cell_regrown p6
  have ep7 := cell_regrown p7
  have ep8 := cell_regrown p8
  have ep9 := cell_regrown p9
  have ep10 := cell_regrown p10
  have ep11 := cell_regrown p11
  have ep12 := cell_regrown p12
  have ep13 := cell_regrown p13
  clear p0 p1 p2 p3 p4 p5 p6 p7 p8 p9 p10 p11 p12 p13
  obtain ⟨q0, q1, q2, q3, q4, q5, q6, q7, q8, q9, q10, q11, q12, q13⟩ := Y3.out.cells
  have eq0 := cell_regrown q0
  have eq1 := cell_regrown q1
  have eq2 := cell_regrown q2
  have eq3 := cell_regrown q3
  have eq4 := cell_regrown q4
  have eq5 := cell_regrown q5
  have eq6 := cell_regrown q6
  have eq7 := cell_regrown q7
  have eq8 := cell_regrown q8
  have eq9 := cell_regrown q9
  have eq10 := cell_regrown q10
  have eq11 := cell_regrown q11
  have eq12 := cell_regrown q12
  have eq13 := cell_regrown q13
  clear q0 q1 q2 q3 q4 q5 q6 q7 q8 q9 q10 q11 q12 q13
  have r0 := own_q r a c w3
  have r1 := own_q t b d w3
  have r2 := same_q r t a b c d w3 HL.out.1 HL.out.2 S3.out T3.out
  simp only [rcs] at r0 r1 r2
  refine wp_region_quiet_below (by kernel_rfl) (by kernel_rfl) ?_
  repeat (quiet_step (first | (with_reducible exact r0 _ _) | (with_reducible exact r1 _ _) | (with_reducible exact r2 _ _)))
  refine wpQuiet_nil ?_
  intro _ hw'
  obtain ⟨pq, hw''⟩ := hw'
  subst hw''
  have hbq := below_regrown w3 pq.d pq.os
  generalize Go.Sort.grow (redrawn w3 pq.d) pq.os = w4 at *
  have B4 := hide (B3.out.trans (hbq.mono B3.out.size))
  have X4 := hide (X3.out.below hbq X3.out.lt)
  have Y4 := hide (Y3.out.below hbq Y3.out.lt)
  have S4 := hide (S3.out.below hbq)
  have T4 := hide (T3.out.below hbq)
  clear hbq B3 X3 Y3 S3 T3 r0 r1 r2 ep0 eq0 ep1 eq1 ep2 eq2 ep3 eq3 ep4 eq4 ep5 eq5 ep6 eq6 ep7 eq7 ep8 eq8 ep9 eq9 ep10 eq10 ep11 eq11 ep12 eq12 ep13 eq13
  go_wp2_with fail
  obtain ⟨p0, p1, p2, p3, p4, p5, p6, p7, p8, p9, p10, p11, p12, p13⟩ := X4.out.cells
  have ep0 := cell_regrown p0
  have ep1 := cell_regrown p1
  have ep2 := cell_regrown p2
  have ep3 := cell_regrown p3
  have ep4 := cell_regrown p4
  have ep5 := cell_regrown p5
  have ep6 := cell_regrown p6
  have ep7 := cell_regrown p7
  have ep8 := cell_regrown p8
  have ep9 := cell_regrown p9
  have ep10 := cell_regrown p10
  have ep11 := cell_regrown p11
  have ep12 := cell_regrown p12
  have ep13 := cell_regrown p13
  clear p0 p1 p2 p3 p4 p5 p6 p7 p8 p9 p10 p11 p12 p13
  obtain ⟨q0, q1, q2, q3, q4, q5, q6, q7, q8, q9, q10, q11, q12, q13⟩ := Y4.out.cells
  have eq0 := cell_regrown q0
  have eq1 := cell_regrown q1
  have eq2 := cell_regrown q2
  have eq3 := cell_regrown q3
  have eq4 := cell_regrown q4
  have eq5 := cell_regrown q5
  have eq6 := cell_regrown q6
  have eq7 := cell_regrown q7
  have eq8 := cell_regrown q8
  have eq9 := cell_regrown q9
  have eq10 := cell_regrown q10
  have eq11 := cell_regrown q11
  have eq12 := cell_regrown q12
  have eq13 := cell_regrown q13
  clear q0 q1 q2 q3 q4 q5 q6 q7 q8 q9 q10 q11 q12 q13
  have r0 := own_q r a c w4
  have r1 := rsame_q r t a b c d w4 HL.out.1 HL.out.2 S4.out T4.out
  have r2 := same_q r r a a c c w4 HL.out.1 HL.out.1 S4.out S4.out
  rw [samR_self] at r2
  simp only [rcs] at r0 r1 r2
  generalize samR r t = M at *
  refine wp_region_quiet_below (by kernel_rfl) (by kernel_rfl) ?_
  repeat (quiet_step (first | (with_reducible exact r0 _ _) | (with_reducible exact r1 _ _) | (with_reducible exact r2 _ _)))
  refine wpQuiet_nil ?_
  intro _ hw'
  obtain ⟨pq, hw''⟩ := hw'
  subst hw''
  have hbq := below_regrown w4 pq.d pq.os
  generalize Go.Sort.grow (redrawn w4 pq.d) pq.os = w5 at *
  have B5 := hide (B4.out.trans (hbq.mono B4.out.size))
  have X5 := hide (X4.out.below hbq X4.out.lt)
  have Y5 := hide (Y4.out.below hbq Y4.out.lt)
  have S5 := hide (S4.out.below hbq)
  have T5 := hide (T4.out.below hbq)
  clear hbq B4 X4 Y4 S4 T4 r0 r1 r2 ep0 eq0 ep1 eq1 ep2 eq2 ep3 eq3 ep4 eq4 ep5 eq5 ep6 eq6 ep7 eq7 ep8 eq8 ep9 eq9 ep10 eq10 ep11 eq11 ep12 eq12 ep13 eq13
  go_wp2_with (first | (refine wpList_load_row rfl 28 (.tmp 2) rfl w.heap.size rfl 28 (rcs r a c) (0, 0) _ X5.out Try.underlying28 rfl ref_info ?_))
  refine (own_any r a c w5).mono ?_
  rintro e w6 ⟨rfl, hb⟩
  have B6 := hide (B5.out.trans (hb.mono B5.out.size))
  have Y6 := hide (Y5.out.below hb Y5.out.lt)
  have S6 := hide (S5.out.below hb)
  have T6 := hide (T5.out.below hb)
  clear hb B5 X5 Y5 S5 T5
  go_wp2_with fail
  refine (rwrite_any r a c w6 S6.out HF.out).mono ?_
  rintro e w7 ⟨rfl, hb⟩
  have B7 := hide (B6.out.trans (hb.mono B6.out.size))
  have Y7 := hide (Y6.out.below hb Y6.out.lt)
  have T7 := hide (T6.out.below hb)
  clear hb B6 Y6 S6 T6
  go_wp2_with (first | (refine wpList_load_row rfl 28 (.tmp 3) rfl (w.heap.size + 1) rfl 28 (rcs t b d) (0, 0) _ Y7.out Try.underlying28 rfl ref_info ?_))
  refine (own_any t b d w7).mono ?_
  rintro e w8 ⟨rfl, hb⟩
  have B8 := hide (B7.out.trans (hb.mono B7.out.size))
  have T8 := hide (T7.out.below hb)
  clear hb B7 Y7 T7
  go_wp2_with fail
  refine (rwrite_any t b d w8 T8.out HG.out).mono ?_
  rintro e w9 ⟨rfl, hb⟩
  have B9 := hide (B8.out.trans (hb.mono B8.out.size))
  clear hb B8 T8
  by_cases hE : ckR r = 0
  case neg =>
    have p1 : (ckR r != 0) = true := by simpa using hE
    have p2 : (ckR r == 0) = false := by simpa using hE
    clear hE HTW
    generalize ckR r = E at *
    generalize ckR t = F at *
    generalize wR r = S at *
    generalize wR t = T at *
    go_wp2_with fail
    refine (live_any w9).mono ?_
    rintro e wl ⟨rfl, hb⟩
    have BL := hide (B9.out.trans (hb.mono B9.out.size))
    clear hb
    go_wp2_with fail
    try go_ret
    exact ⟨rfl, BL.out⟩
  by_cases hF : ckR t = 0
  case neg =>
    have p1 : (ckR r != 0) = false := by simpa using hE
    have p2 : (ckR r == 0) = true := by simpa using hE
    have p3 : (ckR t != 0) = true := by simpa using hF
    have p4 : (ckR t == 0) = false := by simpa using hF
    clear hE hF HTW
    generalize ckR r = E at *
    generalize ckR t = F at *
    generalize wR r = S at *
    generalize wR t = T at *
    go_wp2_with fail
    refine (live_any w9).mono ?_
    rintro e wl ⟨rfl, hb⟩
    have BL := hide (B9.out.trans (hb.mono B9.out.size))
    clear hb
    go_wp2_with fail
    try go_ret
    exact ⟨rfl, BL.out⟩
  have p5 := HTW.out hE hF
  have p1 : (ckR r != 0) = false := by simpa using hE
  have p2 : (ckR r == 0) = true := by simpa using hE
  have p3 : (ckR t != 0) = false := by simpa using hF
  have p4 : (ckR t == 0) = true := by simpa using hF
  clear hE hF HTW
  generalize ckR r = E at *
  generalize ckR t = F at *
  generalize wR r = S at *
  generalize wR t = T at *
  go_wp2_with fail
  refine (live_any w9).mono ?_
  rintro e wl ⟨rfl, hb⟩
  have BL := hide (B9.out.trans (hb.mono B9.out.size))
  clear hb
  go_wp2_with fail
  try go_ret
  exact ⟨rfl, BL.out⟩
end Go.Proofs.Ythepgheiohfhdaa
