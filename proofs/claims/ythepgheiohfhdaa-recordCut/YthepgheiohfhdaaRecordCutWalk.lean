/- RecordCut answers true at every input. -/
import Derived.Test.YthepgheiohfhdaaRcQuiet
namespace Go.Proofs.Ythepgheiohfhdaa
open Go.RowKit
set_option linter.unusedVariables false
set_option maxRecDepth 100000 in
set_option maxHeartbeats 16000000 in
theorem walkRecordCut (v : Value) (n : Int) (w : World) (hv : CameV 28 14 w v) (w1 : (Lit.int .i64 n).wf = true) : Calls Try.prog 8 #[v, .int .i64 n] w fun e w' => e = .returned (.bool true) ∧ Below w.heap.size w w' := by
  have _hw := w1
  clear _hw w1
  obtain ⟨r, a, c, rfl, hS, hcm⟩ := rc_open hv
  clear hv
  have HA : Hid (Below w.heap.size w (w.alloc (.cells (rcs r a c) 28))) := (Below.refl _ _).alloc (Nat.le_refl _) _
  have HX := hide (rbx_new 28 r a c w)
  have HS := hide hS
  have HM := hide (fun w => small_any r a c w hcm)
  by_cases hsm : smlB r = true
  case neg =>
    have hb : smlB r = false := by simpa using hsm
    rw [hb] at HM
    clear hsm hb hS hcm
    go_enter Try.func8, Try.ntmps8
    go_upto_region 1 with fail
    generalize w.alloc (.cells (rcs r a c) 28) = W1 at *
    go_wp2_with (first | (refine wpList_load_row rfl 28 (.tmp 2) rfl w.heap.size rfl 28 (rcs r a c) (0, 0) _ HX.out Try.underlying28 rfl ref_info ?_))
    refine (HM.out W1).mono ?_
    rintro e w2 ⟨rfl, hb⟩
    have B2 := hide (HA.out.trans (hb.mono HA.out.size))
    have X2 := hide (HX.out.below hb HX.out.lt)
    have S2 := hide (HS.out.below B2.out)
    clear hb HA HX HM
    go_wp2_with fail
    refine (live_any w2).mono ?_
    rintro e wl ⟨rfl, hb⟩
    have BL := hide (B2.out.trans (hb.mono B2.out.size))
    clear hb
    go_wp2_with fail
    try go_ret
    exact ⟨rfl, BL.out⟩
  rw [hsm] at HM
  have hf := small_fit hcm hsm
  have HF := hide hf
  have HL : Hid (r.ls.length ≤ 1000000) := by unfold Hid; have := hf.1; omega
  clear hsm hS hcm hf
  by_cases hE : ckR r = 0
  case neg =>
    have p1 : (ckR r != 0) = true := by simpa using hE
    have p2 : (ckR r == 0) = false := by simpa using hE
    clear hE
    go_enter Try.func8, Try.ntmps8
    go_upto_region 1 with fail
    generalize w.alloc (.cells (rcs r a c) 28) = W1 at *
    go_wp2_with (first | (refine wpList_load_row rfl 28 (.tmp 2) rfl w.heap.size rfl 28 (rcs r a c) (0, 0) _ HX.out Try.underlying28 rfl ref_info ?_))
    refine (HM.out W1).mono ?_
    rintro e w2 ⟨rfl, hb⟩
    have B2 := hide (HA.out.trans (hb.mono HA.out.size))
    have X2 := hide (HX.out.below hb HX.out.lt)
    have S2 := hide (HS.out.below B2.out)
    clear hb HA HX HM
    go_wp2_with (first | (refine wpList_load_row rfl 28 (.tmp 2) rfl w.heap.size rfl 28 (rcs r a c) (0, 0) _ X2.out Try.underlying28 rfl ref_info ?_))
    refine (own_any r a c w2).mono ?_
    rintro e w3 ⟨rfl, hb⟩
    have B3 := hide (B2.out.trans (hb.mono B2.out.size))
    have X3 := hide (X2.out.below hb X2.out.lt)
    have S3 := hide (S2.out.below hb)
    clear hb B2 X2 S2
    go_wp2_with fail
    refine (rwrite_any r a c w3 S3.out HF.out).mono ?_
    rintro e w4 ⟨rfl, hb⟩
    have B4 := hide (B3.out.trans (hb.mono B3.out.size))
    have X4 := hide (X3.out.below hb X3.out.lt)
    have S4 := hide (S3.out.below hb)
    clear hb B3 X3 S3
    generalize ckR r = E at *
    generalize wR r = S at *
    go_wp2_with fail
    refine (live_any w4).mono ?_
    rintro e wl ⟨rfl, hb⟩
    have BL := hide (B4.out.trans (hb.mono B4.out.size))
    clear hb
    go_wp2_with fail
    try go_ret
    exact ⟨rfl, BL.out⟩
  have p1 : (ckR r != 0) = false := by simpa using hE
  have p2 : (ckR r == 0) = true := by simpa using hE
  by_cases hn : n < 0
  · have p3 : decide (n < 0) = true := by simpa using hn
    clear hE
    go_enter Try.func8, Try.ntmps8
    go_upto_region 1 with fail
    generalize w.alloc (.cells (rcs r a c) 28) = W1 at *
    go_wp2_with (first | (refine wpList_load_row rfl 28 (.tmp 2) rfl w.heap.size rfl 28 (rcs r a c) (0, 0) _ HX.out Try.underlying28 rfl ref_info ?_))
    refine (HM.out W1).mono ?_
    rintro e w2 ⟨rfl, hb⟩
    have B2 := hide (HA.out.trans (hb.mono HA.out.size))
    have X2 := hide (HX.out.below hb HX.out.lt)
    have S2 := hide (HS.out.below B2.out)
    clear hb HA HX HM
    go_wp2_with (first | (refine wpList_load_row rfl 28 (.tmp 2) rfl w.heap.size rfl 28 (rcs r a c) (0, 0) _ X2.out Try.underlying28 rfl ref_info ?_))
    refine (own_any r a c w2).mono ?_
    rintro e w3 ⟨rfl, hb⟩
    have B3 := hide (B2.out.trans (hb.mono B2.out.size))
    have X3 := hide (X2.out.below hb X2.out.lt)
    have S3 := hide (S2.out.below hb)
    clear hb B2 X2 S2
    go_wp2_with fail
    refine (rwrite_any r a c w3 S3.out HF.out).mono ?_
    rintro e w4 ⟨rfl, hb⟩
    have B4 := hide (B3.out.trans (hb.mono B3.out.size))
    have X4 := hide (X3.out.below hb X3.out.lt)
    have S4 := hide (S3.out.below hb)
    clear hb B3 X3 S3
    generalize ckR r = E at *
    generalize wR r = S at *
    go_wp2_with fail
    refine (live_any w4).mono ?_
    rintro e wl ⟨rfl, hb⟩
    have BL := hide (B4.out.trans (hb.mono B4.out.size))
    clear hb
    go_wp2_with fail
    try go_ret
    exact ⟨rfl, BL.out⟩
  have p3 : decide (n < 0) = false := by simpa using hn
  obtain ⟨k, rfl⟩ := Int.eq_ofNat_of_zero_le (show 0 ≤ n by omega)
  by_cases hk : (wR r).size ≤ k
  · have p4 : decide (((wR r).size : Int) ≤ (k : Int)) = true := by simp; omega
    have p5 : ((wR r).size : Int) ≤ (k : Int) := by omega
    clear hE hn
    go_enter Try.func8, Try.ntmps8
    go_upto_region 1 with fail
    generalize w.alloc (.cells (rcs r a c) 28) = W1 at *
    go_wp2_with (first | (refine wpList_load_row rfl 28 (.tmp 2) rfl w.heap.size rfl 28 (rcs r a c) (0, 0) _ HX.out Try.underlying28 rfl ref_info ?_))
    refine (HM.out W1).mono ?_
    rintro e w2 ⟨rfl, hb⟩
    have B2 := hide (HA.out.trans (hb.mono HA.out.size))
    have X2 := hide (HX.out.below hb HX.out.lt)
    have S2 := hide (HS.out.below B2.out)
    clear hb HA HX HM
    go_wp2_with (first | (refine wpList_load_row rfl 28 (.tmp 2) rfl w.heap.size rfl 28 (rcs r a c) (0, 0) _ X2.out Try.underlying28 rfl ref_info ?_))
    refine (own_any r a c w2).mono ?_
    rintro e w3 ⟨rfl, hb⟩
    have B3 := hide (B2.out.trans (hb.mono B2.out.size))
    have X3 := hide (X2.out.below hb X2.out.lt)
    have S3 := hide (S2.out.below hb)
    clear hb B2 X2 S2
    go_wp2_with fail
    refine (rwrite_any r a c w3 S3.out HF.out).mono ?_
    rintro e w4 ⟨rfl, hb⟩
    have B4 := hide (B3.out.trans (hb.mono B3.out.size))
    have X4 := hide (X3.out.below hb X3.out.lt)
    have S4 := hide (S3.out.below hb)
    clear hb B3 X3 S3
    generalize ckR r = E at *
    generalize wR r = S at *
    go_wp2_with fail
    refine (live_any w4).mono ?_
    rintro e wl ⟨rfl, hb⟩
    have BL := hide (B4.out.trans (hb.mono B4.out.size))
    clear hb
    go_wp2_with fail
    try go_ret
    exact ⟨rfl, BL.out⟩
  have p4 : decide (((wR r).size : Int) ≤ (k : Int)) = false := by simp; omega
  have p5 : ¬ ((wR r).size : Int) ≤ (k : Int) := by omega
  have p6 : (k : Int) ≤ ((wR r).size : Int) := by omega
  have p7 : (0 : Int) ≤ (k : Int) := by omega
  have hz := wR_le r
  have HNE : Hid (¬ (rdE ((wR r).extract 0 k) = 0 ∧ rdC ((wR r).extract 0 k) = r)) := fun q => by
    have h1 := (rdE_read q.1).1
    rw [q.2] at h1
    have h2 : ((wR r).extract 0 k).size = (wR r).size := by rw [← h1]
    rw [ByteArray.size_extract] at h2
    omega
  have HP : Hid (∀ w, Calls Try.prog 19 #[.string ((wR r).extract 0 k)] w (RdP ((wR r).extract 0 k) w)) := fun w => pread_any _ w (by rw [ByteArray.size_extract]; omega)
  have HZL : Hid (rdE ((wR r).extract 0 k) = 0 → (rdC ((wR r).extract 0 k)).ls.length ≤ 1000000) := fun h => by
    obtain ⟨_, q, _⟩ := rdE_read h
    obtain ⟨hs, hk, ha⟩ := ckR_zero.1 q
    rcases kind_four hs with q | q | q | q
    · have := ((ckK_0 q).1 hk).1.2.2.2.1; omega
    · rw [ha]; unfold Rc.alone; rw [if_neg (by omega), if_pos q]; simp
    · have := ((ckK_2 q).1 hk).2.2.2.1; omega
    · have := ((ckK_3 q).1 hk).1.2.2.2.1; omega
  unfold RdP at HP
  generalize rdE ((wR r).extract 0 k) = E2 at *
  generalize rdC ((wR r).extract 0 k) = Y at *
  clear hE hn hk hz
  go_enter Try.func8, Try.ntmps8
  go_upto_region 1 with fail
  generalize w.alloc (.cells (rcs r a c) 28) = W1 at *
  go_wp2_with (first | (refine wpList_load_row rfl 28 (.tmp 2) rfl w.heap.size rfl 28 (rcs r a c) (0, 0) _ HX.out Try.underlying28 rfl ref_info ?_))
  refine (HM.out W1).mono ?_
  rintro e w2 ⟨rfl, hb⟩
  have B2 := hide (HA.out.trans (hb.mono HA.out.size))
  have X2 := hide (HX.out.below hb HX.out.lt)
  have S2 := hide (HS.out.below B2.out)
  clear hb HA HX HM
  go_wp2_with (first | (refine wpList_load_row rfl 28 (.tmp 2) rfl w.heap.size rfl 28 (rcs r a c) (0, 0) _ X2.out Try.underlying28 rfl ref_info ?_))
  refine (own_any r a c w2).mono ?_
  rintro e w3 ⟨rfl, hb⟩
  have B3 := hide (B2.out.trans (hb.mono B2.out.size))
  have X3 := hide (X2.out.below hb X2.out.lt)
  have S3 := hide (S2.out.below hb)
  clear hb B2 X2 S2
  go_wp2_with fail
  refine (rwrite_any r a c w3 S3.out HF.out).mono ?_
  rintro e w4 ⟨rfl, hb⟩
  have B4 := hide (B3.out.trans (hb.mono B3.out.size))
  have X4 := hide (X3.out.below hb X3.out.lt)
  have S4 := hide (S3.out.below hb)
  clear hb B3 X3 S3
  generalize ckR r = E at *
  generalize wR r = S at *
  go_wp2_with fail
  refine (HP.out w4).mono ?_
  rintro e w5 ⟨a5, c5, rfl, hl, hfar, hb⟩
  have B5 := hide (B4.out.trans (hb.mono B4.out.size))
  have X5 := hide (X4.out.below hb X4.out.lt)
  have S5 := hide (S4.out.below hb)
  have L5 := hide hl
  clear hb hl hfar B4 X4 S4 HP
  have hal : Below w5.heap.size w5 (w5.alloc (.cells #[.int .i64 0, .int .i64 0, .int .i64 0, .int .i64 0, .int .i64 0, .slice none 0 0, .string { data := #[] }, .int .i64 0, .int .i64 0, .int .i64 0, .string { data := #[] }, .string { data := #[] }, .int .i64 0, .int .i64 0] 34)) := (Below.refl _ _).alloc (Nat.le_refl _) _
  have hrow := below_setRow hal (Nat.le_refl _) (rcs Y a5 c5)
  have NB : Hid (RBx w5.heap.size 34 Rc.zero none 0 (w5.alloc (.cells #[.int .i64 0, .int .i64 0, .int .i64 0, .int .i64 0, .int .i64 0, .slice none 0 0, .string { data := #[] }, .int .i64 0, .int .i64 0, .int .i64 0, .string { data := #[] }, .string { data := #[] }, .int .i64 0, .int .i64 0] 34))) := rbx_new 34 Rc.zero none 0 w5
  have XB6 : Hid (RBx w5.heap.size 34 Y a5 c5 ((w5.alloc (.cells #[.int .i64 0, .int .i64 0, .int .i64 0, .int .i64 0, .int .i64 0, .slice none 0 0, .string { data := #[] }, .int .i64 0, .int .i64 0, .int .i64 0, .string { data := #[] }, .string { data := #[] }, .int .i64 0, .int .i64 0] 34)).setRow w5.heap.size (rcs Y a5 c5))) := NB.out.row Y a5 c5
  have B6 : Hid (Below w.heap.size w ((w5.alloc (.cells #[.int .i64 0, .int .i64 0, .int .i64 0, .int .i64 0, .int .i64 0, .slice none 0 0, .string { data := #[] }, .int .i64 0, .int .i64 0, .int .i64 0, .string { data := #[] }, .string { data := #[] }, .int .i64 0, .int .i64 0] 34)).setRow w5.heap.size (rcs Y a5 c5))) := B5.out.trans (hrow.mono B5.out.size)
  have X6 := hide (X5.out.below hrow X5.out.lt)
  have S6 := hide (S5.out.below hrow)
  have L6 := hide (L5.out.below hrow)
  clear hal hrow
  go_wp2_with (first | (refine wpList_store_row rfl 34 (.tmp 7) (.tmp 37) rfl w5.heap.size (rcs Y a5 c5) rfl rfl 34 (rcs Rc.zero none 0) NB.out rec_info rfl (rcs_one _ _ _) ?_; generalize (w5.alloc (.cells #[.int .i64 0, .int .i64 0, .int .i64 0, .int .i64 0, .int .i64 0, .slice none 0 0, .string { data := #[] }, .int .i64 0, .int .i64 0, .int .i64 0, .string { data := #[] }, .string { data := #[] }, .int .i64 0, .int .i64 0] 34)).setRow w5.heap.size (rcs Y a5 c5) = W6 at *; generalize w5.heap.size = b6 at *; clear NB))
  clear B5 X5 S5 L5
  obtain ⟨pc0, pc1, pc2, pc3, pc4, pc5, pc6, pc7, pc8, pc9, pc10, pc11, pc12, pc13⟩ := XB6.out.cells
  have ep0 := cell_regrown pc0
  have ep1 := cell_regrown pc1
  have ep2 := cell_regrown pc2
  have ep3 := cell_regrown pc3
  have ep4 := cell_regrown pc4
  have ep5 := cell_regrown pc5
  have ep6 := cell_regrown pc6
  have ep7 := cell_regrown pc7
  have ep8 := cell_regrown pc8
  have ep9 := cell_regrown pc9
  have ep10 := cell_regrown pc10
  have ep11 := cell_regrown pc11
  have ep12 := cell_regrown pc12
  have ep13 := cell_regrown pc13
  clear pc0 pc1 pc2 pc3 pc4 pc5 pc6 pc7 pc8 pc9 pc10 pc11 pc12 pc13
  obtain ⟨qc0, qc1, qc2, qc3, qc4, qc5, qc6, qc7, qc8, qc9, qc10, qc11, qc12, qc13⟩ := X6.out.cells
  have eq0 := cell_regrown qc0
  have eq1 := cell_regrown qc1
  have eq2 := cell_regrown qc2
  have eq3 := cell_regrown qc3
  have eq4 := cell_regrown qc4
  have eq5 := cell_regrown qc5
  have eq6 := cell_regrown qc6
  have eq7 := cell_regrown qc7
  have eq8 := cell_regrown qc8
  have eq9 := cell_regrown qc9
  have eq10 := cell_regrown qc10
  have eq11 := cell_regrown qc11
  have eq12 := cell_regrown qc12
  have eq13 := cell_regrown qc13
  clear qc0 qc1 qc2 qc3 qc4 qc5 qc6 qc7 qc8 qc9 qc10 qc11 qc12 qc13
  have r0 := own_q r a c W6
  have r2 := live_q W6
  by_cases hE2 : E2 = 0
  · have g1 : (E2 != 0) = false := by simpa using hE2
    have g2 : (E2 == 0) = true := by simpa using hE2
    have hne : Y ≠ r := fun q => HNE.out ⟨hE2, q⟩
    have r1 := same_q Y r a5 a c5 c W6 (HZL.out hE2) HL.out L6.out S6.out
    rw [samR_no hne] at r1
    clear hne hE2 HNE HZL
    simp only [rcs] at r0 r1
    refine wp_region_quiet_below (by kernel_rfl) (by kernel_rfl) ?_
    repeat (quiet_step (first | (with_reducible exact r0 _ _) | (with_reducible exact r1 _ _) | (with_reducible exact r2 _ _)))
    refine wpQuiet_nil ?_
    intro _ hw'
    obtain ⟨pq, hw''⟩ := hw'
    subst hw''
    have HQ := hide (B6.out.trans ((below_regrown W6 pq.d pq.os).mono B6.out.size))
    generalize Go.Sort.grow (redrawn W6 pq.d) pq.os = WQ at *
    go_wp2_with fail
    try go_ret
    exact ⟨rfl, HQ.out⟩
  · have g1 : (E2 != 0) = true := by simpa using hE2
    have g2 : (E2 == 0) = false := by simpa using hE2
    clear hE2 HNE HZL
    simp only [rcs] at r0
    refine wp_region_quiet_below (by kernel_rfl) (by kernel_rfl) ?_
    repeat (quiet_step (first | (with_reducible exact r0 _ _) | (with_reducible exact r2 _ _)))
    refine wpQuiet_nil ?_
    intro _ hw'
    obtain ⟨pq, hw''⟩ := hw'
    subst hw''
    have HQ := hide (B6.out.trans ((below_regrown W6 pq.d pq.os).mono B6.out.size))
    generalize Go.Sort.grow (redrawn W6 pq.d) pq.os = WQ at *
    go_wp2_with fail
    try go_ret
    exact ⟨rfl, HQ.out⟩
end Go.Proofs.Ythepgheiohfhdaa
