/- RecordBack answers true at every input. -/
import Derived.Test.YthepgheiohfhdaaRcQuiet
import Derived.SizedLaws
namespace Go.Proofs.Ythepgheiohfhdaa
open Go.RowKit
set_option linter.unusedVariables false
theorem ok_len {r : Rc} (q : ckR r = 0) : r.ls.length ≤ 1000000 := by
    obtain ⟨hs, hk, ha⟩ := ckR_zero.1 q
    rcases kind_four hs with q | q | q | q
    · have := ((ckK_0 q).1 hk).1.2.2.2.1; omega
    · rw [ha]; unfold Rc.alone; rw [if_neg (by omega), if_pos q]; simp
    · have := ((ckK_2 q).1 hk).2.2.2.1; omega
    · have := ((ckK_3 q).1 hk).1.2.2.2.1; omega
theorem ok_fit {r : Rc} (q : ckR r = 0) : r.fit := by
  obtain ⟨hs, hk, ha⟩ := ckR_zero.1 q
  have hl := ok_len q
  rcases kind_four hs with h | h | h | h
  · obtain ⟨hv, hkey, i1, i2, i3, i4, i5⟩ := (ckK_0 h).1 hk
    have h9 := hv.2.2.2.1
    have h8 := hv.2.2.1
    have h7 := hkey.2.1
    have e1 : r.k = ByteArray.empty := by rw [ha]; unfold Rc.alone; rw [if_pos h]
    exact ⟨by omega, by omega, by omega, by rw [e1]; simp, by omega, by omega⟩
  · have hkey := (ckK_1 h).1 hk
    have h7 := hkey.2.1
    have e : r.alone = ⟨r.seq, r.kind, 0, 0, 0, [], ByteArray.empty, 0, 0, 0, ByteArray.empty, r.k, 0, 0⟩ := by unfold Rc.alone; rw [if_neg (by omega), if_pos h]
    rw [e] at ha
    have e1 : r.ls = [] := by rw [ha]
    have e2 : r.ek = ByteArray.empty := by rw [ha]
    have e3 : r.ed = ByteArray.empty := by rw [ha]
    have e4 : r.eo = 0 := by rw [ha]
    exact ⟨by rw [e1]; simp, by rw [e2]; simp, by rw [e3]; simp, by omega, by omega, by omega⟩
  · have hv := (ckK_2 h).1 hk
    have h9 := hv.2.2.2.1
    have e : r.alone = ⟨r.seq, r.kind, r.vid, r.vgen, r.vlen, r.ls, ByteArray.empty, 0, 0, 0, ByteArray.empty, ByteArray.empty, 0, 0⟩ := by unfold Rc.alone; rw [if_neg (by omega), if_neg (by omega), if_pos h]
    rw [e] at ha
    have e2 : r.ek = ByteArray.empty := by rw [ha]
    have e3 : r.ed = ByteArray.empty := by rw [ha]
    have e4 : r.eo = 0 := by rw [ha]
    have e5 : r.k = ByteArray.empty := by rw [ha]
    exact ⟨by omega, by rw [e2]; simp, by rw [e3]; simp, by rw [e5]; simp, by omega, by omega⟩
  · have hv := ((ckK_3 h).1 hk).1
    have h9 := hv.2.2.2.1
    have e : r.alone = ⟨r.seq, r.kind, r.vid, r.vgen, r.vlen, r.ls, ByteArray.empty, 0, 0, 0, ByteArray.empty, ByteArray.empty, r.f, r.t⟩ := by unfold Rc.alone; rw [if_neg (by omega), if_neg (by omega), if_neg (by omega)]
    rw [e] at ha
    have e2 : r.ek = ByteArray.empty := by rw [ha]
    have e3 : r.ed = ByteArray.empty := by rw [ha]
    have e4 : r.eo = 0 := by rw [ha]
    have e5 : r.k = ByteArray.empty := by rw [ha]
    exact ⟨by omega, by rw [e2]; simp, by rw [e3]; simp, by rw [e5]; simp, by omega, by omega⟩
/-- what RecordBack knows of the text's record -/
def TailP (s : ByteArray) (Y : Rc) (E2 : Int) : Prop := (E2 ≠ 0 → Y = Rc.zero) ∧ (E2 = 0 → wR Y = s ∧ ckR Y = 0)
set_option maxRecDepth 100000 in
set_option maxHeartbeats 16000000 in
theorem walkRecordBack (v : Value) (s : ByteArray) (w : World) (hv : CameV 28 14 w v) (w1 : s.data.toList.length ≤ reachBytes) : Calls Try.prog 5 #[v, .string s] w fun e w' => e = .returned (.bool true) ∧ Below w.heap.size w w' := by
  have hs63 : s.size ≤ 9223372036854775807 := by rw [Array.length_toList] at w1; have : s.size ≤ reachBytes := w1; have := reachBytes_lt; omega
  clear w1
  obtain ⟨r, a, c, rfl, hS, hcm⟩ := rc_open hv
  clear hv
  have HA : Hid (Below w.heap.size w (w.alloc (.cells (rcs r a c) 28))) := (Below.refl _ _).alloc (Nat.le_refl _) _
  have HX := hide (rbx_new 28 r a c w)
  have HS := hide hS
  have HM := hide (fun w => small_any r a c w hcm)
  by_cases hsm : smlB r = true
  case neg =>
    have hb : smlB r = false := by simpa using hsm
    rw [hb] at HM
    clear hsm hb hS hcm
    go_enter Try.func5, Try.ntmps5
    go_upto_region 1 with fail
    generalize w.alloc (.cells (rcs r a c) 28) = W1 at *
    go_wp2_with (first | (refine wpList_load_row rfl 28 (.tmp 2) rfl w.heap.size rfl 28 (rcs r a c) (0, 0) _ HX.out Try.underlying28 rfl ref_info ?_))
    refine (HM.out W1).mono ?_
    rintro e w2 ⟨rfl, hb⟩
    have B2 := hide (HA.out.trans (hb.mono HA.out.size))
    have X2 := hide (HX.out.below hb HX.out.lt)
    have S2 := hide (HS.out.below B2.out)
    clear hb HA HX HM
    go_wp2_with fail
    refine (live_any w2).mono ?_
    rintro e wl ⟨rfl, hb⟩
    have BL := hide (B2.out.trans (hb.mono B2.out.size))
    clear hb
    go_wp2_with fail
    try go_ret
    exact ⟨rfl, BL.out⟩
  rw [hsm] at HM
  have hf := small_fit hcm hsm
  have HF := hide hf
  have HL : Hid (r.ls.length ≤ 1000000) := by unfold Hid; have := hf.1; omega
  clear hsm hS hcm hf
  by_cases hbig : 400 < s.size
  · have pb : decide ((400 : Int) < (s.size : Int)) = true := by simp; omega
    have pb2 : (400 : Int) < (s.size : Int) := by omega
    go_enter Try.func5, Try.ntmps5
    go_upto_region 1 with fail
    generalize w.alloc (.cells (rcs r a c) 28) = W1 at *
    go_wp2_with (first | (refine wpList_load_row rfl 28 (.tmp 2) rfl w.heap.size rfl 28 (rcs r a c) (0, 0) _ HX.out Try.underlying28 rfl ref_info ?_))
    refine (HM.out W1).mono ?_
    rintro e w2 ⟨rfl, hb⟩
    have B2 := hide (HA.out.trans (hb.mono HA.out.size))
    have X2 := hide (HX.out.below hb HX.out.lt)
    have S2 := hide (HS.out.below B2.out)
    clear hb HA HX HM
    go_wp2_with fail
    refine (live_any w2).mono ?_
    rintro e wl ⟨rfl, hb⟩
    have BL := hide (B2.out.trans (hb.mono B2.out.size))
    clear hb
    go_wp2_with fail
    try go_ret
    exact ⟨rfl, BL.out⟩
  have pb : decide ((400 : Int) < (s.size : Int)) = false := by simp; omega
  have pb2 : ¬ (400 : Int) < (s.size : Int) := by omega
  have HP : Hid (∀ w, Calls Try.prog 19 #[.string s] w (RdP s w)) := fun w => pread_any s w (by omega)
  have HTP : Hid (TailP s (rdC s) (rdE s)) := ⟨fun q => rdC_bad q, fun q => ⟨(rdE_read q).1, (rdE_read q).2.1⟩⟩
  unfold RdP at HP
  generalize rdE s = E2 at *
  generalize rdC s = Y at *
  clear hbig hs63
  have HTAIL : Hid (∀ (W : World), True) := fun _ => trivial
  by_cases hE : ckR r = 0
  case neg =>
    have p1 : (ckR r != 0) = true := by simpa using hE
    have p2 : (ckR r == 0) = false := by simpa using hE
    clear hE
    go_enter Try.func5, Try.ntmps5
    go_upto_region 1 with fail
    generalize w.alloc (.cells (rcs r a c) 28) = W1 at *
    go_wp2_with (first | (refine wpList_load_row rfl 28 (.tmp 2) rfl w.heap.size rfl 28 (rcs r a c) (0, 0) _ HX.out Try.underlying28 rfl ref_info ?_))
    refine (HM.out W1).mono ?_
    rintro e w2 ⟨rfl, hb⟩
    have B2 := hide (HA.out.trans (hb.mono HA.out.size))
    have X2 := hide (HX.out.below hb HX.out.lt)
    have S2 := hide (HS.out.below B2.out)
    clear hb HA HX HM
    go_wp2_with (first | (refine wpList_load_row rfl 28 (.tmp 2) rfl w.heap.size rfl 28 (rcs r a c) (0, 0) _ X2.out Try.underlying28 rfl ref_info ?_))
    refine (own_any r a c w2).mono ?_
    rintro e w3 ⟨rfl, hb⟩
    have B3 := hide (B2.out.trans (hb.mono B2.out.size))
    have X3 := hide (X2.out.below hb X2.out.lt)
    have S3 := hide (S2.out.below hb)
    clear hb B2 X2 S2
    go_wp2_with fail
    refine (rwrite_any r a c w3 S3.out HF.out).mono ?_
    rintro e w4 ⟨rfl, hb⟩
    have B4 := hide (B3.out.trans (hb.mono B3.out.size))
    have X4 := hide (X3.out.below hb X3.out.lt)
    have S4 := hide (S3.out.below hb)
    clear hb B3 X3 S3
    generalize ckR r = E at *
    generalize wR r = S at *
    go_wp2_with fail
    refine (HP.out w4).mono ?_
    rintro e z5 ⟨a5, c5, rfl, hl, hfar, hb⟩
    have B5z := hide (B4.out.trans (hb.mono B4.out.size))
    have L5z := hide hl
    clear hb hl hfar HP
    have hal : Below z5.heap.size z5 (z5.alloc (.cells #[.int .i64 0, .int .i64 0, .int .i64 0, .int .i64 0, .int .i64 0, .slice none 0 0, .string { data := #[] }, .int .i64 0, .int .i64 0, .int .i64 0, .string { data := #[] }, .string { data := #[] }, .int .i64 0, .int .i64 0] 34)) := (Below.refl _ _).alloc (Nat.le_refl _) _
    have hrow := below_setRow hal (Nat.le_refl _) (rcs Y a5 c5)
    have NB : Hid (RBx z5.heap.size 34 Rc.zero none 0 (z5.alloc (.cells #[.int .i64 0, .int .i64 0, .int .i64 0, .int .i64 0, .int .i64 0, .slice none 0 0, .string { data := #[] }, .int .i64 0, .int .i64 0, .int .i64 0, .string { data := #[] }, .string { data := #[] }, .int .i64 0, .int .i64 0] 34))) := rbx_new 34 Rc.zero none 0 z5
    have XB7z : Hid (RBx z5.heap.size 34 Y a5 c5 ((z5.alloc (.cells #[.int .i64 0, .int .i64 0, .int .i64 0, .int .i64 0, .int .i64 0, .slice none 0 0, .string { data := #[] }, .int .i64 0, .int .i64 0, .int .i64 0, .string { data := #[] }, .string { data := #[] }, .int .i64 0, .int .i64 0] 34)).setRow z5.heap.size (rcs Y a5 c5))) := NB.out.row Y a5 c5
    have B6z : Hid (Below w.heap.size w ((z5.alloc (.cells #[.int .i64 0, .int .i64 0, .int .i64 0, .int .i64 0, .int .i64 0, .slice none 0 0, .string { data := #[] }, .int .i64 0, .int .i64 0, .int .i64 0, .string { data := #[] }, .string { data := #[] }, .int .i64 0, .int .i64 0] 34)).setRow z5.heap.size (rcs Y a5 c5))) := B5z.out.trans (hrow.mono B5z.out.size)
    have L6z := hide (L5z.out.below hrow)
    clear hal hrow
    by_cases hE2 : E2 = 0
    · have g1 : (E2 != 0) = false := by simpa using hE2
      have g2 : (E2 == 0) = true := by simpa using hE2
      obtain ⟨hy1, hy2⟩ := HTP.out.2 hE2
      have HFY := hide (ok_fit hy2)
      have hq1 := str_eq hy1
      clear hE2 HTP
      go_wp2_with (first | (refine wpList_store_row rfl 34 (.tmp 9) (.tmp 52) rfl z5.heap.size (rcs Y a5 c5) rfl rfl 34 (rcs Rc.zero none 0) NB.out rec_info rfl (rcs_one _ _ _) ?_; generalize (z5.alloc (.cells #[.int .i64 0, .int .i64 0, .int .i64 0, .int .i64 0, .int .i64 0, .slice none 0 0, .string { data := #[] }, .int .i64 0, .int .i64 0, .int .i64 0, .string { data := #[] }, .string { data := #[] }, .int .i64 0, .int .i64 0] 34)).setRow z5.heap.size (rcs Y a5 c5) = W7z at *; generalize z5.heap.size = b7z at *; clear NB) | (refine wpList_load_row rfl 34 (.tmp 9) rfl b7z rfl 34 (rcs Y a5 c5) (0, 0) _ XB7z.out Try.underlying34 rfl rec_info ?_))
      refine (rwrite_any Y a5 c5 W7z L6z.out HFY.out).mono ?_
      rintro e z8 ⟨rfl, hb⟩
      have B8z := hide (B6z.out.trans (hb.mono B6z.out.size))
      clear hb
      rw [hy2]
      clear hy1 hy2 HFY
      generalize wR Y = SY at *
      go_wp2_with fail
      refine (live_any z8).mono ?_
      rintro e wl ⟨rfl, hb⟩
      have BL := hide (B8z.out.trans (hb.mono B8z.out.size))
      clear hb
      go_wp2_with fail
      try go_ret
      exact ⟨rfl, BL.out⟩
    · have g1 : (E2 != 0) = true := by simpa using hE2
      have g2 : (E2 == 0) = false := by simpa using hE2
      obtain rfl := HTP.out.1 hE2
      clear hE2 HTP
      have HSM : Hid (∀ w, Calls Try.prog 23 #[.agg (rcs Rc.zero a5 c5), .agg #[.int .i64 0, .int .i64 0, .int .i64 0, .int .i64 0, .int .i64 0, .slice none 0 0, .string { data := #[] }, .int .i64 0, .int .i64 0, .int .i64 0, .string { data := #[] }, .string { data := #[] }, .int .i64 0, .int .i64 0]] w fun e w' => e = .returned (.bool true) ∧ Below w.heap.size w w') := fun w => by
        have q := same_any Rc.zero Rc.zero a5 none c5 0 w (by decide) (by decide) (.inl rfl) (.inl rfl)
        rw [samR_self] at q
        exact q
      go_wp2_with (first | (refine wpList_store_row rfl 34 (.tmp 9) (.tmp 52) rfl z5.heap.size (rcs Rc.zero a5 c5) rfl rfl 34 (rcs Rc.zero none 0) NB.out rec_info rfl (rcs_one _ _ _) ?_; generalize (z5.alloc (.cells #[.int .i64 0, .int .i64 0, .int .i64 0, .int .i64 0, .int .i64 0, .slice none 0 0, .string { data := #[] }, .int .i64 0, .int .i64 0, .int .i64 0, .string { data := #[] }, .string { data := #[] }, .int .i64 0, .int .i64 0] 34)).setRow z5.heap.size (rcs Rc.zero a5 c5) = W7z at *; generalize z5.heap.size = b7z at *; clear NB) | (refine wpList_load_row rfl 34 (.tmp 9) rfl b7z rfl 34 (rcs Rc.zero a5 c5) (0, 0) _ XB7z.out Try.underlying34 rfl rec_info ?_))
      refine (HSM.out W7z).mono ?_
      rintro e z8 ⟨rfl, hb⟩
      have B8z := hide (B6z.out.trans (hb.mono B6z.out.size))
      clear hb
      go_wp2_with fail
      refine (live_any z8).mono ?_
      rintro e wl ⟨rfl, hb⟩
      have BL := hide (B8z.out.trans (hb.mono B8z.out.size))
      clear hb
      go_wp2_with fail
      try go_ret
      exact ⟨rfl, BL.out⟩
  have p1 : (ckR r != 0) = false := by simpa using hE
  have p2 : (ckR r == 0) = true := by simpa using hE
  obtain ⟨hb1, hb2⟩ := read_back hE
  have hz := (wR_small hE).1
  have p6 : decide ((200 : Int) < ((wR r).size : Int)) = false := by simp; omega
  have p7 : ¬ (200 : Int) < ((wR r).size : Int) := by omega
  have HR : Hid (∀ w, Calls Try.prog 19 #[.string (wR r)] w fun e w' => ∃ a c, e = .returned (.tuple #[.agg (rcs r a c), .int .i64 0]) ∧ LocsAt w' a r.ls ∧ (∀ b o, a = some ⟨b, o, none⟩ → w.heap.size ≤ b) ∧ Below w.heap.size w w') := fun w => by
    have q := pread_any (wR r) w (by omega)
    unfold RdP at q
    rw [hb1, hb2] at q
    exact q
  clear hE hb1 hb2 hz
  go_enter Try.func5, Try.ntmps5
  go_upto_region 1 with fail
  generalize w.alloc (.cells (rcs r a c) 28) = W1 at *
  go_wp2_with (first | (refine wpList_load_row rfl 28 (.tmp 2) rfl w.heap.size rfl 28 (rcs r a c) (0, 0) _ HX.out Try.underlying28 rfl ref_info ?_))
  refine (HM.out W1).mono ?_
  rintro e w2 ⟨rfl, hb⟩
  have B2 := hide (HA.out.trans (hb.mono HA.out.size))
  have X2 := hide (HX.out.below hb HX.out.lt)
  have S2 := hide (HS.out.below B2.out)
  clear hb HA HX HM
  go_wp2_with (first | (refine wpList_load_row rfl 28 (.tmp 2) rfl w.heap.size rfl 28 (rcs r a c) (0, 0) _ X2.out Try.underlying28 rfl ref_info ?_))
  refine (own_any r a c w2).mono ?_
  rintro e w3 ⟨rfl, hb⟩
  have B3 := hide (B2.out.trans (hb.mono B2.out.size))
  have X3 := hide (X2.out.below hb X2.out.lt)
  have S3 := hide (S2.out.below hb)
  clear hb B2 X2 S2
  go_wp2_with fail
  refine (rwrite_any r a c w3 S3.out HF.out).mono ?_
  rintro e w4 ⟨rfl, hb⟩
  have B4 := hide (B3.out.trans (hb.mono B3.out.size))
  have X4 := hide (X3.out.below hb X3.out.lt)
  have S4 := hide (S3.out.below hb)
  clear hb B3 X3 S3
  generalize ckR r = E at *
  generalize wR r = S at *
  go_wp2_with fail
  refine (HR.out w4).mono ?_
  rintro e w5 ⟨a6, c6, rfl, hl, hfar, hb⟩
  have B5 := hide (B4.out.trans (hb.mono B4.out.size))
  have X5 := hide (X4.out.below hb X4.out.lt)
  have S5 := hide (S4.out.below hb)
  have L5 := hide hl
  clear hb hl hfar B4 X4 S4 HR
  have hal : Below w5.heap.size w5 (w5.alloc (.cells #[.int .i64 0, .int .i64 0, .int .i64 0, .int .i64 0, .int .i64 0, .slice none 0 0, .string { data := #[] }, .int .i64 0, .int .i64 0, .int .i64 0, .string { data := #[] }, .string { data := #[] }, .int .i64 0, .int .i64 0] 34)) := (Below.refl _ _).alloc (Nat.le_refl _) _
  have hrow := below_setRow hal (Nat.le_refl _) (rcs r a6 c6)
  have NB : Hid (RBx w5.heap.size 34 Rc.zero none 0 (w5.alloc (.cells #[.int .i64 0, .int .i64 0, .int .i64 0, .int .i64 0, .int .i64 0, .slice none 0 0, .string { data := #[] }, .int .i64 0, .int .i64 0, .int .i64 0, .string { data := #[] }, .string { data := #[] }, .int .i64 0, .int .i64 0] 34))) := rbx_new 34 Rc.zero none 0 w5
  have XB6 : Hid (RBx w5.heap.size 34 r a6 c6 ((w5.alloc (.cells #[.int .i64 0, .int .i64 0, .int .i64 0, .int .i64 0, .int .i64 0, .slice none 0 0, .string { data := #[] }, .int .i64 0, .int .i64 0, .int .i64 0, .string { data := #[] }, .string { data := #[] }, .int .i64 0, .int .i64 0] 34)).setRow w5.heap.size (rcs r a6 c6))) := NB.out.row r a6 c6
  have B6 : Hid (Below w.heap.size w ((w5.alloc (.cells #[.int .i64 0, .int .i64 0, .int .i64 0, .int .i64 0, .int .i64 0, .slice none 0 0, .string { data := #[] }, .int .i64 0, .int .i64 0, .int .i64 0, .string { data := #[] }, .string { data := #[] }, .int .i64 0, .int .i64 0] 34)).setRow w5.heap.size (rcs r a6 c6))) := B5.out.trans (hrow.mono B5.out.size)
  have X6 := hide (X5.out.below hrow X5.out.lt)
  have S6 := hide (S5.out.below hrow)
  have L6 := hide (L5.out.below hrow)
  clear hal hrow
  go_wp2_with (first | (refine wpList_store_row rfl 34 (.tmp 7) (.tmp 33) rfl w5.heap.size (rcs r a6 c6) rfl rfl 34 (rcs Rc.zero none 0) NB.out rec_info rfl (rcs_one _ _ _) ?_; generalize (w5.alloc (.cells #[.int .i64 0, .int .i64 0, .int .i64 0, .int .i64 0, .int .i64 0, .slice none 0 0, .string { data := #[] }, .int .i64 0, .int .i64 0, .int .i64 0, .string { data := #[] }, .string { data := #[] }, .int .i64 0, .int .i64 0] 34)).setRow w5.heap.size (rcs r a6 c6) = W6 at *; generalize w5.heap.size = b6 at *; clear NB))
  clear B5 X5 S5 L5
  obtain ⟨pc0, pc1, pc2, pc3, pc4, pc5, pc6, pc7, pc8, pc9, pc10, pc11, pc12, pc13⟩ := XB6.out.cells
  have ep0 := cell_regrown pc0
  have ep1 := cell_regrown pc1
  have ep2 := cell_regrown pc2
  have ep3 := cell_regrown pc3
  have ep4 := cell_regrown pc4
  have ep5 := cell_regrown pc5
  have ep6 := cell_regrown pc6
  have ep7 := cell_regrown pc7
  have ep8 := cell_regrown pc8
  have ep9 := cell_regrown pc9
  have ep10 := cell_regrown pc10
  have ep11 := cell_regrown pc11
  have ep12 := cell_regrown pc12
  have ep13 := cell_regrown pc13
  clear pc0 pc1 pc2 pc3 pc4 pc5 pc6 pc7 pc8 pc9 pc10 pc11 pc12 pc13
  obtain ⟨qc0, qc1, qc2, qc3, qc4, qc5, qc6, qc7, qc8, qc9, qc10, qc11, qc12, qc13⟩ := X6.out.cells
  have eq0 := cell_regrown qc0
  have eq1 := cell_regrown qc1
  have eq2 := cell_regrown qc2
  have eq3 := cell_regrown qc3
  have eq4 := cell_regrown qc4
  have eq5 := cell_regrown qc5
  have eq6 := cell_regrown qc6
  have eq7 := cell_regrown qc7
  have eq8 := cell_regrown qc8
  have eq9 := cell_regrown qc9
  have eq10 := cell_regrown qc10
  have eq11 := cell_regrown qc11
  have eq12 := cell_regrown qc12
  have eq13 := cell_regrown qc13
  clear qc0 qc1 qc2 qc3 qc4 qc5 qc6 qc7 qc8 qc9 qc10 qc11 qc12 qc13
  have r0 := own_q r a c W6
  have r1 := same_q r r a6 a c6 c W6 HL.out HL.out L6.out S6.out
  rw [samR_self] at r1
  simp only [rcs] at r0 r1
  refine wp_region_quiet_below (by kernel_rfl) (by kernel_rfl) ?_
  repeat (quiet_step (first | (with_reducible exact r0 _ _) | (with_reducible exact r1 _ _)))
  refine wpQuiet_nil ?_
  intro _ hw'
  obtain ⟨pq, hw''⟩ := hw'
  subst hw''
  have B7 := hide (B6.out.trans ((below_regrown W6 pq.d pq.os).mono B6.out.size))
  generalize Go.Sort.grow (redrawn W6 pq.d) pq.os = w7 at *
  clear r0 r1 B6 X6 S6 L6 XB6 ep0 eq0 ep1 eq1 ep2 eq2 ep3 eq3 ep4 eq4 ep5 eq5 ep6 eq6 ep7 eq7 ep8 eq8 ep9 eq9 ep10 eq10 ep11 eq11 ep12 eq12 ep13 eq13
  go_wp2_with fail
  refine (HP.out w7).mono ?_
  rintro e z5 ⟨a5, c5, rfl, hl, hfar, hb⟩
  have B5z := hide (B7.out.trans (hb.mono B7.out.size))
  have L5z := hide hl
  clear hb hl hfar HP
  have hal : Below z5.heap.size z5 (z5.alloc (.cells #[.int .i64 0, .int .i64 0, .int .i64 0, .int .i64 0, .int .i64 0, .slice none 0 0, .string { data := #[] }, .int .i64 0, .int .i64 0, .int .i64 0, .string { data := #[] }, .string { data := #[] }, .int .i64 0, .int .i64 0] 34)) := (Below.refl _ _).alloc (Nat.le_refl _) _
  have hrow := below_setRow hal (Nat.le_refl _) (rcs Y a5 c5)
  have NB : Hid (RBx z5.heap.size 34 Rc.zero none 0 (z5.alloc (.cells #[.int .i64 0, .int .i64 0, .int .i64 0, .int .i64 0, .int .i64 0, .slice none 0 0, .string { data := #[] }, .int .i64 0, .int .i64 0, .int .i64 0, .string { data := #[] }, .string { data := #[] }, .int .i64 0, .int .i64 0] 34))) := rbx_new 34 Rc.zero none 0 z5
  have XB7z : Hid (RBx z5.heap.size 34 Y a5 c5 ((z5.alloc (.cells #[.int .i64 0, .int .i64 0, .int .i64 0, .int .i64 0, .int .i64 0, .slice none 0 0, .string { data := #[] }, .int .i64 0, .int .i64 0, .int .i64 0, .string { data := #[] }, .string { data := #[] }, .int .i64 0, .int .i64 0] 34)).setRow z5.heap.size (rcs Y a5 c5))) := NB.out.row Y a5 c5
  have B6z : Hid (Below w.heap.size w ((z5.alloc (.cells #[.int .i64 0, .int .i64 0, .int .i64 0, .int .i64 0, .int .i64 0, .slice none 0 0, .string { data := #[] }, .int .i64 0, .int .i64 0, .int .i64 0, .string { data := #[] }, .string { data := #[] }, .int .i64 0, .int .i64 0] 34)).setRow z5.heap.size (rcs Y a5 c5))) := B5z.out.trans (hrow.mono B5z.out.size)
  have L6z := hide (L5z.out.below hrow)
  clear hal hrow
  by_cases hE2 : E2 = 0
  · have g1 : (E2 != 0) = false := by simpa using hE2
    have g2 : (E2 == 0) = true := by simpa using hE2
    obtain ⟨hy1, hy2⟩ := HTP.out.2 hE2
    have HFY := hide (ok_fit hy2)
    have hq1 := str_eq hy1
    clear hE2 HTP
    go_wp2_with (first | (refine wpList_store_row rfl 34 (.tmp 9) (.tmp 52) rfl z5.heap.size (rcs Y a5 c5) rfl rfl 34 (rcs Rc.zero none 0) NB.out rec_info rfl (rcs_one _ _ _) ?_; generalize (z5.alloc (.cells #[.int .i64 0, .int .i64 0, .int .i64 0, .int .i64 0, .int .i64 0, .slice none 0 0, .string { data := #[] }, .int .i64 0, .int .i64 0, .int .i64 0, .string { data := #[] }, .string { data := #[] }, .int .i64 0, .int .i64 0] 34)).setRow z5.heap.size (rcs Y a5 c5) = W7z at *; generalize z5.heap.size = b7z at *; clear NB) | (refine wpList_load_row rfl 34 (.tmp 9) rfl b7z rfl 34 (rcs Y a5 c5) (0, 0) _ XB7z.out Try.underlying34 rfl rec_info ?_))
    refine (rwrite_any Y a5 c5 W7z L6z.out HFY.out).mono ?_
    rintro e z8 ⟨rfl, hb⟩
    have B8z := hide (B6z.out.trans (hb.mono B6z.out.size))
    clear hb
    rw [hy2]
    clear hy1 hy2 HFY
    generalize wR Y = SY at *
    go_wp2_with fail
    refine (live_any z8).mono ?_
    rintro e wl ⟨rfl, hb⟩
    have BL := hide (B8z.out.trans (hb.mono B8z.out.size))
    clear hb
    go_wp2_with fail
    try go_ret
    exact ⟨rfl, BL.out⟩
  · have g1 : (E2 != 0) = true := by simpa using hE2
    have g2 : (E2 == 0) = false := by simpa using hE2
    obtain rfl := HTP.out.1 hE2
    clear hE2 HTP
    have HSM : Hid (∀ w, Calls Try.prog 23 #[.agg (rcs Rc.zero a5 c5), .agg #[.int .i64 0, .int .i64 0, .int .i64 0, .int .i64 0, .int .i64 0, .slice none 0 0, .string { data := #[] }, .int .i64 0, .int .i64 0, .int .i64 0, .string { data := #[] }, .string { data := #[] }, .int .i64 0, .int .i64 0]] w fun e w' => e = .returned (.bool true) ∧ Below w.heap.size w w') := fun w => by
      have q := same_any Rc.zero Rc.zero a5 none c5 0 w (by decide) (by decide) (.inl rfl) (.inl rfl)
      rw [samR_self] at q
      exact q
    go_wp2_with (first | (refine wpList_store_row rfl 34 (.tmp 9) (.tmp 52) rfl z5.heap.size (rcs Rc.zero a5 c5) rfl rfl 34 (rcs Rc.zero none 0) NB.out rec_info rfl (rcs_one _ _ _) ?_; generalize (z5.alloc (.cells #[.int .i64 0, .int .i64 0, .int .i64 0, .int .i64 0, .int .i64 0, .slice none 0 0, .string { data := #[] }, .int .i64 0, .int .i64 0, .int .i64 0, .string { data := #[] }, .string { data := #[] }, .int .i64 0, .int .i64 0] 34)).setRow z5.heap.size (rcs Rc.zero a5 c5) = W7z at *; generalize z5.heap.size = b7z at *; clear NB) | (refine wpList_load_row rfl 34 (.tmp 9) rfl b7z rfl 34 (rcs Rc.zero a5 c5) (0, 0) _ XB7z.out Try.underlying34 rfl rec_info ?_))
    refine (HSM.out W7z).mono ?_
    rintro e z8 ⟨rfl, hb⟩
    have B8z := hide (B6z.out.trans (hb.mono B6z.out.size))
    clear hb
    go_wp2_with fail
    refine (live_any z8).mono ?_
    rintro e wl ⟨rfl, hb⟩
    have BL := hide (B8z.out.trans (hb.mono B8z.out.size))
    clear hb
    go_wp2_with fail
    try go_ret
    exact ⟨rfl, BL.out⟩
end Go.Proofs.Ythepgheiohfhdaa
