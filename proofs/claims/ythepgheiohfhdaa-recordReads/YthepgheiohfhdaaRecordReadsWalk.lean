/- RecordReads answers true at every input. -/
import Derived.Test.YthepgheiohfhdaaRcQuiet
import Derived.Test.YthepgheiohfhdaaRcRefRead
import Derived.SizedLaws
namespace Go.Proofs.Ythepgheiohfhdaa
open Go.RowKit
set_option linter.unusedVariables false
set_option maxRecDepth 100000 in
set_option maxHeartbeats 16000000 in
theorem walkRecordReads (s : ByteArray) (w : World) (w0 : s.data.toList.length ≤ reachBytes) : Calls Try.prog 4 #[.string s] w fun e w' => e = .returned (.bool true) ∧ Below w.heap.size w w' := by
  have hs63 : s.size ≤ 9223372036854775807 := by rw [Array.length_toList] at w0; have : s.size ≤ reachBytes := w0; have := reachBytes_lt; omega
  clear w0
  by_cases hbig : 400 < s.size
  · have hd : decide ((400 : Int) < (s.size : Int)) = true := by simp; omega
    have HB0 : Hid (Below w.heap.size w w) := Below.refl _ _
    go_enter Try.func4, Try.ntmps4
    go_wp2_with fail
    refine (live_any w).mono ?_
    rintro e wl ⟨rfl, hb⟩
    have BL := hide (HB0.out.trans (hb.mono HB0.out.size))
    clear hb
    go_wp2_with fail
    try go_ret
    exact ⟨rfl, BL.out⟩
  have hd : decide ((400 : Int) < (s.size : Int)) = false := by simp; omega
  have hdi : ¬ (400 : Int) < (s.size : Int) := by omega
  have HP : Hid (∀ w, Calls Try.prog 19 #[.string s] w (RdP s w)) := fun w => pread_any s w (by omega)
  have HQ : Hid (∀ w, Calls Try.prog 20 #[.string s] w (RqP s w)) := fun w => qread_any s w (by omega)
  have HP2 : Hid (∀ w, Calls Try.prog 19 #[.string (sealS s)] w (RdP (sealS s) w)) := fun w => pread_any (sealS s) w (by rw [sealS_size]; omega)
  have HQ2 : Hid (∀ w, Calls Try.prog 20 #[.string (sealS s)] w (RqP (sealS s) w)) := fun w => qread_any (sealS s) w (by rw [sealS_size]; omega)
  have HSE : Hid (∀ w, Calls Try.prog 18 #[.string s] w fun e w' => e = .returned (.string (sealS s)) ∧ Below w.heap.size w w') := fun w => refSeal_any s w (by omega)
  unfold RdP at HP HP2
  unfold RqP at HQ HQ2
  have HZ1 : Hid ((rdC s).ls.length ≤ 1000000) := by
    unfold Hid
    by_cases h : rdE s = 0
    · obtain ⟨_, c, _⟩ := rdE_read h
      obtain ⟨hs, hk, ha⟩ := ckR_zero.1 c
      rcases kind_four hs with q | q | q | q
      · have := ((ckK_0 q).1 hk).1.2.2.2.1; omega
      · rw [ha]; unfold Rc.alone; rw [if_neg (by omega), if_pos q]; simp
      · have := ((ckK_2 q).1 hk).2.2.2.1; omega
      · have := ((ckK_3 q).1 hk).1.2.2.2.1; omega
    · rw [rdC_bad h]; simp [Rc.zero]
  have HZ2 : Hid ((rdC (sealS s)).ls.length ≤ 1000000) := by
    unfold Hid
    by_cases h : rdE (sealS s) = 0
    · obtain ⟨_, c, _⟩ := rdE_read h
      obtain ⟨hs, hk, ha⟩ := ckR_zero.1 c
      rcases kind_four hs with q | q | q | q
      · have := ((ckK_0 q).1 hk).1.2.2.2.1; omega
      · rw [ha]; unfold Rc.alone; rw [if_neg (by omega), if_pos q]; simp
      · have := ((ckK_2 q).1 hk).2.2.2.1; omega
      · have := ((ckK_3 q).1 hk).1.2.2.2.1; omega
    · rw [rdC_bad h]; simp [Rc.zero]
  generalize rdC (sealS s) = Y at *
  generalize rdE (sealS s) = F at *
  generalize rdC s = X at *
  generalize rdE s = E at *
  generalize sealS s = T at *
  clear hbig hs63
  go_enter Try.func4, Try.ntmps4
  go_wp2_with fail
  refine (HSE.out w).mono ?_
  rintro e w1 ⟨rfl, hb⟩
  have B1 := hide hb
  clear hb HSE
  go_wp2_with fail
  refine (HP.out w1).mono ?_
  rintro e w2 ⟨a2, c2, rfl, hl, hf, hb⟩
  have B2 := hide (B1.out.trans (hb.mono B1.out.size))
  have L2 := hide hl
  clear hb hl hf B1 HP
  have hal : Below w2.heap.size w2 (w2.alloc (.cells #[.int .i64 0, .int .i64 0, .int .i64 0, .int .i64 0, .int .i64 0, .slice none 0 0, .string { data := #[] }, .int .i64 0, .int .i64 0, .int .i64 0, .string { data := #[] }, .string { data := #[] }, .int .i64 0, .int .i64 0] 34)) := (Below.refl _ _).alloc (Nat.le_refl _) _
  have hrow := below_setRow hal (Nat.le_refl _) (rcs X a2 c2)
  have NB : Hid (RBx w2.heap.size 34 Rc.zero none 0 (w2.alloc (.cells #[.int .i64 0, .int .i64 0, .int .i64 0, .int .i64 0, .int .i64 0, .slice none 0 0, .string { data := #[] }, .int .i64 0, .int .i64 0, .int .i64 0, .string { data := #[] }, .string { data := #[] }, .int .i64 0, .int .i64 0] 34))) := rbx_new 34 Rc.zero none 0 w2
  have XB3 : Hid (RBx w2.heap.size 34 X a2 c2 ((w2.alloc (.cells #[.int .i64 0, .int .i64 0, .int .i64 0, .int .i64 0, .int .i64 0, .slice none 0 0, .string { data := #[] }, .int .i64 0, .int .i64 0, .int .i64 0, .string { data := #[] }, .string { data := #[] }, .int .i64 0, .int .i64 0] 34)).setRow w2.heap.size (rcs X a2 c2))) := NB.out.row X a2 c2
  have B3 : Hid (Below w.heap.size w ((w2.alloc (.cells #[.int .i64 0, .int .i64 0, .int .i64 0, .int .i64 0, .int .i64 0, .slice none 0 0, .string { data := #[] }, .int .i64 0, .int .i64 0, .int .i64 0, .string { data := #[] }, .string { data := #[] }, .int .i64 0, .int .i64 0] 34)).setRow w2.heap.size (rcs X a2 c2))) := B2.out.trans (hrow.mono B2.out.size)
  have L3 := hide (L2.out.below hrow)
  clear hal hrow
  go_wp2_with (first | (refine wpList_store_row rfl 34 (.tmp 4) (.tmp 21) rfl w2.heap.size (rcs X a2 c2) rfl rfl 34 (rcs Rc.zero none 0) NB.out rec_info rfl (rcs_one _ _ _) ?_; generalize (w2.alloc (.cells #[.int .i64 0, .int .i64 0, .int .i64 0, .int .i64 0, .int .i64 0, .slice none 0 0, .string { data := #[] }, .int .i64 0, .int .i64 0, .int .i64 0, .string { data := #[] }, .string { data := #[] }, .int .i64 0, .int .i64 0] 34)).setRow w2.heap.size (rcs X a2 c2) = W3 at *; generalize w2.heap.size = b3 at *; clear NB))
  refine (HQ.out W3).mono ?_
  rintro e w4 ⟨a4, c4, rfl, hl, hf, hb⟩
  have B4 := hide (B3.out.trans (hb.mono B3.out.size))
  have XA4 := hide (XB3.out.below hb XB3.out.lt)
  have L4 := hide (L3.out.below hb)
  have M4 := hide hl
  clear hb hl hf B3 XB3 L3 HQ
  have hal : Below w4.heap.size w4 (w4.alloc (.cells #[.int .i64 0, .int .i64 0, .int .i64 0, .int .i64 0, .int .i64 0, .slice none 0 0, .string { data := #[] }, .int .i64 0, .int .i64 0, .int .i64 0, .string { data := #[] }, .string { data := #[] }, .int .i64 0, .int .i64 0] 28)) := (Below.refl _ _).alloc (Nat.le_refl _) _
  have hrow := below_setRow hal (Nat.le_refl _) (rcs X a4 c4)
  have NB : Hid (RBx w4.heap.size 28 Rc.zero none 0 (w4.alloc (.cells #[.int .i64 0, .int .i64 0, .int .i64 0, .int .i64 0, .int .i64 0, .slice none 0 0, .string { data := #[] }, .int .i64 0, .int .i64 0, .int .i64 0, .string { data := #[] }, .string { data := #[] }, .int .i64 0, .int .i64 0] 28))) := rbx_new 28 Rc.zero none 0 w4
  have XB5 : Hid (RBx w4.heap.size 28 X a4 c4 ((w4.alloc (.cells #[.int .i64 0, .int .i64 0, .int .i64 0, .int .i64 0, .int .i64 0, .slice none 0 0, .string { data := #[] }, .int .i64 0, .int .i64 0, .int .i64 0, .string { data := #[] }, .string { data := #[] }, .int .i64 0, .int .i64 0] 28)).setRow w4.heap.size (rcs X a4 c4))) := NB.out.row X a4 c4
  have B5 : Hid (Below w.heap.size w ((w4.alloc (.cells #[.int .i64 0, .int .i64 0, .int .i64 0, .int .i64 0, .int .i64 0, .slice none 0 0, .string { data := #[] }, .int .i64 0, .int .i64 0, .int .i64 0, .string { data := #[] }, .string { data := #[] }, .int .i64 0, .int .i64 0] 28)).setRow w4.heap.size (rcs X a4 c4))) := B4.out.trans (hrow.mono B4.out.size)
  have XA5 := hide (XA4.out.below hrow XA4.out.lt)
  have L5 := hide (L4.out.below hrow)
  have M5 := hide (M4.out.below hrow)
  clear hal hrow
  go_wp2_with (first | (refine wpList_store_row rfl 28 (.tmp 6) (.tmp 26) rfl w4.heap.size (rcs X a4 c4) rfl rfl 28 (rcs Rc.zero none 0) NB.out ref_info rfl (rcs_one _ _ _) ?_; generalize (w4.alloc (.cells #[.int .i64 0, .int .i64 0, .int .i64 0, .int .i64 0, .int .i64 0, .slice none 0 0, .string { data := #[] }, .int .i64 0, .int .i64 0, .int .i64 0, .string { data := #[] }, .string { data := #[] }, .int .i64 0, .int .i64 0] 28)).setRow w4.heap.size (rcs X a4 c4) = W5 at *; generalize w4.heap.size = b5 at *; clear NB))
  refine (HP2.out W5).mono ?_
  rintro e w6 ⟨a6, c6, rfl, hl, hf, hb⟩
  have B6 := hide (B5.out.trans (hb.mono B5.out.size))
  have XA6 := hide (XA5.out.below hb XA5.out.lt)
  have XC6 := hide (XB5.out.below hb XB5.out.lt)
  have L6 := hide (L5.out.below hb)
  have M6 := hide (M5.out.below hb)
  have N6 := hide hl
  clear hb hl hf B5 XA5 XB5 L5 M5 HP2
  have hal : Below w6.heap.size w6 (w6.alloc (.cells #[.int .i64 0, .int .i64 0, .int .i64 0, .int .i64 0, .int .i64 0, .slice none 0 0, .string { data := #[] }, .int .i64 0, .int .i64 0, .int .i64 0, .string { data := #[] }, .string { data := #[] }, .int .i64 0, .int .i64 0] 34)) := (Below.refl _ _).alloc (Nat.le_refl _) _
  have hrow := below_setRow hal (Nat.le_refl _) (rcs Y a6 c6)
  have NB : Hid (RBx w6.heap.size 34 Rc.zero none 0 (w6.alloc (.cells #[.int .i64 0, .int .i64 0, .int .i64 0, .int .i64 0, .int .i64 0, .slice none 0 0, .string { data := #[] }, .int .i64 0, .int .i64 0, .int .i64 0, .string { data := #[] }, .string { data := #[] }, .int .i64 0, .int .i64 0] 34))) := rbx_new 34 Rc.zero none 0 w6
  have XB7 : Hid (RBx w6.heap.size 34 Y a6 c6 ((w6.alloc (.cells #[.int .i64 0, .int .i64 0, .int .i64 0, .int .i64 0, .int .i64 0, .slice none 0 0, .string { data := #[] }, .int .i64 0, .int .i64 0, .int .i64 0, .string { data := #[] }, .string { data := #[] }, .int .i64 0, .int .i64 0] 34)).setRow w6.heap.size (rcs Y a6 c6))) := NB.out.row Y a6 c6
  have B7 : Hid (Below w.heap.size w ((w6.alloc (.cells #[.int .i64 0, .int .i64 0, .int .i64 0, .int .i64 0, .int .i64 0, .slice none 0 0, .string { data := #[] }, .int .i64 0, .int .i64 0, .int .i64 0, .string { data := #[] }, .string { data := #[] }, .int .i64 0, .int .i64 0] 34)).setRow w6.heap.size (rcs Y a6 c6))) := B6.out.trans (hrow.mono B6.out.size)
  have XA7 := hide (XA6.out.below hrow XA6.out.lt)
  have XC7 := hide (XC6.out.below hrow XC6.out.lt)
  have L7 := hide (L6.out.below hrow)
  have M7 := hide (M6.out.below hrow)
  have N7 := hide (N6.out.below hrow)
  clear hal hrow
  go_wp2_with (first | (refine wpList_store_row rfl 34 (.tmp 8) (.tmp 31) rfl w6.heap.size (rcs Y a6 c6) rfl rfl 34 (rcs Rc.zero none 0) NB.out rec_info rfl (rcs_one _ _ _) ?_; generalize (w6.alloc (.cells #[.int .i64 0, .int .i64 0, .int .i64 0, .int .i64 0, .int .i64 0, .slice none 0 0, .string { data := #[] }, .int .i64 0, .int .i64 0, .int .i64 0, .string { data := #[] }, .string { data := #[] }, .int .i64 0, .int .i64 0] 34)).setRow w6.heap.size (rcs Y a6 c6) = W7 at *; generalize w6.heap.size = b7 at *; clear NB))
  refine (HQ2.out W7).mono ?_
  rintro e w8 ⟨a8, c8, rfl, hl, hf, hb⟩
  have B8 := hide (B7.out.trans (hb.mono B7.out.size))
  have XA8 := hide (XA7.out.below hb XA7.out.lt)
  have XC8 := hide (XC7.out.below hb XC7.out.lt)
  have XD8 := hide (XB7.out.below hb XB7.out.lt)
  have L8 := hide (L7.out.below hb)
  have M8 := hide (M7.out.below hb)
  have N8 := hide (N7.out.below hb)
  have O8 := hide hl
  clear hb hl hf B7 XA7 XC7 XB7 L7 M7 N7 HQ2
  have hal : Below w8.heap.size w8 (w8.alloc (.cells #[.int .i64 0, .int .i64 0, .int .i64 0, .int .i64 0, .int .i64 0, .slice none 0 0, .string { data := #[] }, .int .i64 0, .int .i64 0, .int .i64 0, .string { data := #[] }, .string { data := #[] }, .int .i64 0, .int .i64 0] 28)) := (Below.refl _ _).alloc (Nat.le_refl _) _
  have hrow := below_setRow hal (Nat.le_refl _) (rcs Y a8 c8)
  have NB : Hid (RBx w8.heap.size 28 Rc.zero none 0 (w8.alloc (.cells #[.int .i64 0, .int .i64 0, .int .i64 0, .int .i64 0, .int .i64 0, .slice none 0 0, .string { data := #[] }, .int .i64 0, .int .i64 0, .int .i64 0, .string { data := #[] }, .string { data := #[] }, .int .i64 0, .int .i64 0] 28))) := rbx_new 28 Rc.zero none 0 w8
  have XB9 : Hid (RBx w8.heap.size 28 Y a8 c8 ((w8.alloc (.cells #[.int .i64 0, .int .i64 0, .int .i64 0, .int .i64 0, .int .i64 0, .slice none 0 0, .string { data := #[] }, .int .i64 0, .int .i64 0, .int .i64 0, .string { data := #[] }, .string { data := #[] }, .int .i64 0, .int .i64 0] 28)).setRow w8.heap.size (rcs Y a8 c8))) := NB.out.row Y a8 c8
  have B9 : Hid (Below w.heap.size w ((w8.alloc (.cells #[.int .i64 0, .int .i64 0, .int .i64 0, .int .i64 0, .int .i64 0, .slice none 0 0, .string { data := #[] }, .int .i64 0, .int .i64 0, .int .i64 0, .string { data := #[] }, .string { data := #[] }, .int .i64 0, .int .i64 0] 28)).setRow w8.heap.size (rcs Y a8 c8))) := B8.out.trans (hrow.mono B8.out.size)
  have XA9 := hide (XA8.out.below hrow XA8.out.lt)
  have XC9 := hide (XC8.out.below hrow XC8.out.lt)
  have XD9 := hide (XD8.out.below hrow XD8.out.lt)
  have L9 := hide (L8.out.below hrow)
  have M9 := hide (M8.out.below hrow)
  have N9 := hide (N8.out.below hrow)
  have O9 := hide (O8.out.below hrow)
  clear hal hrow
  go_wp2_with (first | (refine wpList_store_row rfl 28 (.tmp 10) (.tmp 36) rfl w8.heap.size (rcs Y a8 c8) rfl rfl 28 (rcs Rc.zero none 0) NB.out ref_info rfl (rcs_one _ _ _) ?_; generalize (w8.alloc (.cells #[.int .i64 0, .int .i64 0, .int .i64 0, .int .i64 0, .int .i64 0, .slice none 0 0, .string { data := #[] }, .int .i64 0, .int .i64 0, .int .i64 0, .string { data := #[] }, .string { data := #[] }, .int .i64 0, .int .i64 0] 28)).setRow w8.heap.size (rcs Y a8 c8) = W9 at *; generalize w8.heap.size = b9 at *; clear NB; skip))
  clear B8 XA8 XC8 XD8 L8 M8 N8 O8
  obtain ⟨p0, p1, p2, p3, p4, p5, p6, p7, p8, p9, p10, p11, p12, p13⟩ := XA9.out.cells
  have ep0 := cell_regrown p0
  have ep1 := cell_regrown p1
  have ep2 := cell_regrown p2
  have ep3 := cell_regrown p3
  have ep4 := cell_regrown p4
  have ep5 := cell_regrown p5
  have ep6 := cell_regrown p6
  have ep7 := cell_regrown p7
  have ep8 := cell_regrown p8
  have ep9 := cell_regrown p9
  have ep10 := cell_regrown p10
  have ep11 := cell_regrown p11
  have ep12 := cell_regrown p12
  have ep13 := cell_regrown p13
  clear p0 p1 p2 p3 p4 p5 p6 p7 p8 p9 p10 p11 p12 p13
  obtain ⟨q0, q1, q2, q3, q4, q5, q6, q7, q8, q9, q10, q11, q12, q13⟩ := XC9.out.cells
  have eq0 := cell_regrown q0
  have eq1 := cell_regrown q1
  have eq2 := cell_regrown q2
  have eq3 := cell_regrown q3
  have eq4 := cell_regrown q4
  have eq5 := cell_regrown q5
  have eq6 := cell_regrown q6
  have eq7 := cell_regrown q7
  have eq8 := cell_regrown q8
  have eq9 := cell_regrown q9
  have eq10 := cell_regrown q10
  have eq11 := cell_regrown q11
  have eq12 := cell_regrown q12
  have eq13 := cell_regrown q13
  clear q0 q1 q2 q3 q4 q5 q6 q7 q8 q9 q10 q11 q12 q13
  obtain ⟨u0, u1, u2, u3, u4, u5, u6, u7, u8, u9, u10, u11, u12, u13⟩ := XD9.out.cells
  have eu0 := cell_regrown u0
  have eu1 := cell_regrown u1
  have eu2 := cell_regrown u2
  have eu3 := cell_regrown u3
  have eu4 := cell_regrown u4
  have eu5 := cell_regrown u5
  have eu6 := cell_regrown u6
  have eu7 := cell_regrown u7
  have eu8 := cell_regrown u8
  have eu9 := cell_regrown u9
  have eu10 := cell_regrown u10
  have eu11 := cell_regrown u11
  have eu12 := cell_regrown u12
  have eu13 := cell_regrown u13
  clear u0 u1 u2 u3 u4 u5 u6 u7 u8 u9 u10 u11 u12 u13
  obtain ⟨v0, v1, v2, v3, v4, v5, v6, v7, v8, v9, v10, v11, v12, v13⟩ := XB9.out.cells
  have ev0 := cell_regrown v0
  have ev1 := cell_regrown v1
  have ev2 := cell_regrown v2
  have ev3 := cell_regrown v3
  have ev4 := cell_regrown v4
  have ev5 := cell_regrown v5
  have ev6 := cell_regrown v6
  have ev7 := cell_regrown v7
  have ev8 := cell_regrown v8
  have ev9 := cell_regrown v9
  have ev10 := cell_regrown v10
  have ev11 := cell_regrown v11
  have ev12 := cell_regrown v12
  have ev13 := cell_regrown v13
  clear v0 v1 v2 v3 v4 v5 v6 v7 v8 v9 v10 v11 v12 v13
  have r0 := told_q X a2 c2 W9
  have r1 := rsame_q X X a2 a4 c2 c4 W9 HZ1.out HZ1.out L9.out M9.out
  have r2 := told_q Y a6 c6 W9
  have r3 := rsame_q Y Y a6 a8 c6 c8 W9 HZ2.out HZ2.out N9.out O9.out
  have r4 := live_q W9
  rw [samR_self] at r1 r3
  simp only [rcs] at r0 r1 r2 r3
  refine wp_region_quiet_below (by kernel_rfl) (by kernel_rfl) ?_
  repeat (quiet_step (first | (with_reducible exact r0 _ _) | (with_reducible exact r1 _ _) | (with_reducible exact r2 _ _) | (with_reducible exact r3 _ _) | (with_reducible exact r4 _ _)))
  refine wpQuiet_nil ?_
  intro _ hw'
  obtain ⟨pq, hw''⟩ := hw'
  subst hw''
  have HQ9 := hide (B9.out.trans ((below_regrown W9 pq.d pq.os).mono B9.out.size))
  generalize Go.Sort.grow (redrawn W9 pq.d) pq.os = WQ at *
  go_wp2_with fail
  try go_ret
  exact ⟨rfl, HQ9.out⟩
end Go.Proofs.Ythepgheiohfhdaa
