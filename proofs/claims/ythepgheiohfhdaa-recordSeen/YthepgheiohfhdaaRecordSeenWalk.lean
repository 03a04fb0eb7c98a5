/- RecordSeen answers true at every input. -/
import Derived.Test.YthepgheiohfhdaaRcQuiet
import Derived.Test.YthepgheiohfhdaaCheckSeenWalk
namespace Go.Proofs.Ythepgheiohfhdaa
open Go.RowKit
set_option linter.unusedVariables false
set_option maxRecDepth 100000 in
set_option maxHeartbeats 16000000 in
theorem walkRecordSeen (v : Value) (n y : Int) (w : World) (hv : CameV 28 14 w v) (w1 : (Lit.int .i64 n).wf = true) (w2 : (Lit.int .u32 y).wf = true) : Calls Try.prog 7 #[v, .int .i64 n, .int .u32 y] w fun e w' => e = .returned (.bool true) ∧ Below w.heap.size w w' := by
  have hy := wf_u32 w2
  clear w1 w2
  obtain ⟨v4, rfl⟩ : ∃ a : Nat, y = (a : Int) := ⟨y.toNat, by omega⟩
  have hv4 : v4 < 2 ^ 32 := by omega
  clear hy
  obtain ⟨r, a, c, rfl, hS, hcm⟩ := rc_open hv
  clear hv
  have HA : Hid (Below w.heap.size w (w.alloc (.cells (rcs r a c) 28))) := (Below.refl _ _).alloc (Nat.le_refl _) _
  have HX := hide (rbx_new 28 r a c w)
  have HS := hide hS
  have HM := hide (fun w => small_any r a c w hcm)
  by_cases hsm : smlB r = true
  case neg =>
    have hb : smlB r = false := by simpa using hsm
    rw [hb] at HM
    clear hsm hb hS hcm
    go_enter Try.func7, Try.ntmps7
    go_upto_region 1 with fail
    generalize w.alloc (.cells (rcs r a c) 28) = W1 at *
    go_wp2_with (first | (refine wpList_load_row rfl 28 (.tmp 3) rfl w.heap.size rfl 28 (rcs r a c) (0, 0) _ HX.out Try.underlying28 rfl ref_info ?_))
    refine (HM.out W1).mono ?_
    rintro e w2 ⟨rfl, hb⟩
    have B2 := hide (HA.out.trans (hb.mono HA.out.size))
    have X2 := hide (HX.out.below hb HX.out.lt)
    have S2 := hide (HS.out.below B2.out)
    clear hb HA HX HM
    go_wp2_with fail
    refine (live_any w2).mono ?_
    rintro e wl ⟨rfl, hb⟩
    have BL := hide (B2.out.trans (hb.mono B2.out.size))
    clear hb
    go_wp2_with fail
    try go_ret
    exact ⟨rfl, BL.out⟩
  rw [hsm] at HM
  have hf := small_fit hcm hsm
  clear hsm hS hcm
  by_cases hv0 : v4 = 0
  · subst hv0
    clear hf
    go_enter Try.func7, Try.ntmps7
    go_upto_region 1 with fail
    generalize w.alloc (.cells (rcs r a c) 28) = W1 at *
    go_wp2_with (first | (refine wpList_load_row rfl 28 (.tmp 3) rfl w.heap.size rfl 28 (rcs r a c) (0, 0) _ HX.out Try.underlying28 rfl ref_info ?_))
    refine (HM.out W1).mono ?_
    rintro e w2 ⟨rfl, hb⟩
    have B2 := hide (HA.out.trans (hb.mono HA.out.size))
    have X2 := hide (HX.out.below hb HX.out.lt)
    have S2 := hide (HS.out.below B2.out)
    clear hb HA HX HM
    go_wp2_with fail
    refine (live_any w2).mono ?_
    rintro e wl ⟨rfl, hb⟩
    have BL := hide (B2.out.trans (hb.mono B2.out.size))
    clear hb
    go_wp2_with fail
    try go_ret
    exact ⟨rfl, BL.out⟩
  have hv0' : ((v4 : Int) == 0) = false := by simp; omega
  by_cases hE : ckR r = 0
  case neg =>
    have p1 : (ckR r != 0) = true := by simpa using hE
    have p2 : (ckR r == 0) = false := by simpa using hE
    have HW : Hid (∀ w, LocsAt w a r.ls → Calls Try.prog 11 #[.agg (rcs r a c)] w fun e w' => e = .returned (.tuple #[.string (wR r), .int .i64 (ckR r)]) ∧ Below w.heap.size w w') := fun w h => rwrite_any r a c w h hf
    clear hE hf
    generalize ckR r = E at *
    generalize wR r = S at *
    go_enter Try.func7, Try.ntmps7
    go_upto_region 1 with fail
    generalize w.alloc (.cells (rcs r a c) 28) = W1 at *
    go_wp2_with (first | (refine wpList_load_row rfl 28 (.tmp 3) rfl w.heap.size rfl 28 (rcs r a c) (0, 0) _ HX.out Try.underlying28 rfl ref_info ?_))
    refine (HM.out W1).mono ?_
    rintro e w2 ⟨rfl, hb⟩
    have B2 := hide (HA.out.trans (hb.mono HA.out.size))
    have X2 := hide (HX.out.below hb HX.out.lt)
    have S2 := hide (HS.out.below B2.out)
    clear hb HA HX HM
    go_wp2_with (first | (refine wpList_load_row rfl 28 (.tmp 3) rfl w.heap.size rfl 28 (rcs r a c) (0, 0) _ X2.out Try.underlying28 rfl ref_info ?_))
    refine (own_any r a c w2).mono ?_
    rintro e w3 ⟨rfl, hb⟩
    have B3 := hide (B2.out.trans (hb.mono B2.out.size))
    have X3 := hide (X2.out.below hb X2.out.lt)
    have S3 := hide (S2.out.below hb)
    clear hb B2 X2 S2
    go_wp2_with fail
    refine (HW.out w3 S3.out).mono ?_
    rintro e w4 ⟨rfl, hb⟩
    have B4 := hide (B3.out.trans (hb.mono B3.out.size))
    have X4 := hide (X3.out.below hb X3.out.lt)
    have S4 := hide (S3.out.below hb)
    clear hb B3 X3 S3
    go_wp2_with fail
    refine (live_any w4).mono ?_
    rintro e wl ⟨rfl, hb⟩
    have BL := hide (B4.out.trans (hb.mono B4.out.size))
    clear hb
    go_wp2_with fail
    try go_ret
    exact ⟨rfl, BL.out⟩
  have HW : Hid (∀ w, LocsAt w a r.ls → Calls Try.prog 11 #[.agg (rcs r a c)] w fun e w' => e = .returned (.tuple #[.string (sealS (bodyR r)), .int .i64 0]) ∧ Below w.heap.size w w') := fun w h => by
    have q := rwrite_any r a c w h hf
    rw [wR_ok hE, hE] at q
    exact q
  have hbz := bodyR_size hE
  clear hE hf
  have hz := sealS_size (bodyR r)
  generalize bodyR r = s at *
  have hd4 : decide (((sealS s).size : Int) < 4) = false := by simp; omega
  by_cases hn0 : n < 0
  · have q0 : decide (n < 0) = true := by simp; omega
    generalize sealS s = S at *
    go_enter Try.func7, Try.ntmps7
    go_upto_region 1 with fail
    generalize w.alloc (.cells (rcs r a c) 28) = W1 at *
    go_wp2_with (first | (refine wpList_load_row rfl 28 (.tmp 3) rfl w.heap.size rfl 28 (rcs r a c) (0, 0) _ HX.out Try.underlying28 rfl ref_info ?_))
    refine (HM.out W1).mono ?_
    rintro e w2 ⟨rfl, hb⟩
    have B2 := hide (HA.out.trans (hb.mono HA.out.size))
    have X2 := hide (HX.out.below hb HX.out.lt)
    have S2 := hide (HS.out.below B2.out)
    clear hb HA HX HM
    go_wp2_with (first | (refine wpList_load_row rfl 28 (.tmp 3) rfl w.heap.size rfl 28 (rcs r a c) (0, 0) _ X2.out Try.underlying28 rfl ref_info ?_))
    refine (own_any r a c w2).mono ?_
    rintro e w3 ⟨rfl, hb⟩
    have B3 := hide (B2.out.trans (hb.mono B2.out.size))
    have X3 := hide (X2.out.below hb X2.out.lt)
    have S3 := hide (S2.out.below hb)
    clear hb B2 X2 S2
    go_wp2_with fail
    refine (HW.out w3 S3.out).mono ?_
    rintro e w4 ⟨rfl, hb⟩
    have B4 := hide (B3.out.trans (hb.mono B3.out.size))
    have X4 := hide (X3.out.below hb X3.out.lt)
    have S4 := hide (S3.out.below hb)
    clear hb B3 X3 S3
    go_wp2_with fail
    refine (live_any w4).mono ?_
    rintro e wl ⟨rfl, hb⟩
    have BL := hide (B4.out.trans (hb.mono B4.out.size))
    clear hb
    go_wp2_with fail
    try go_ret
    exact ⟨rfl, BL.out⟩
  have q0 : decide (n < 0) = false := by simp; omega
  obtain ⟨k, rfl⟩ := Int.eq_ofNat_of_zero_le (show 0 ≤ n by omega)
  by_cases hns : s.size < k
  · have q4 : decide (((sealS s).size : Int) - 4 < (k : Int)) = true := by simp; omega
    have q5 : ((sealS s).size : Int) - 4 < (k : Int) := by omega
    generalize sealS s = S at *
    go_enter Try.func7, Try.ntmps7
    go_upto_region 1 with fail
    generalize w.alloc (.cells (rcs r a c) 28) = W1 at *
    go_wp2_with (first | (refine wpList_load_row rfl 28 (.tmp 3) rfl w.heap.size rfl 28 (rcs r a c) (0, 0) _ HX.out Try.underlying28 rfl ref_info ?_))
    refine (HM.out W1).mono ?_
    rintro e w2 ⟨rfl, hb⟩
    have B2 := hide (HA.out.trans (hb.mono HA.out.size))
    have X2 := hide (HX.out.below hb HX.out.lt)
    have S2 := hide (HS.out.below B2.out)
    clear hb HA HX HM
    go_wp2_with (first | (refine wpList_load_row rfl 28 (.tmp 3) rfl w.heap.size rfl 28 (rcs r a c) (0, 0) _ X2.out Try.underlying28 rfl ref_info ?_))
    refine (own_any r a c w2).mono ?_
    rintro e w3 ⟨rfl, hb⟩
    have B3 := hide (B2.out.trans (hb.mono B2.out.size))
    have X3 := hide (X2.out.below hb X2.out.lt)
    have S3 := hide (S2.out.below hb)
    clear hb B2 X2 S2
    go_wp2_with fail
    refine (HW.out w3 S3.out).mono ?_
    rintro e w4 ⟨rfl, hb⟩
    have B4 := hide (B3.out.trans (hb.mono B3.out.size))
    have X4 := hide (X3.out.below hb X3.out.lt)
    have S4 := hide (S3.out.below hb)
    clear hb B3 X3 S3
    go_wp2_with fail
    refine (live_any w4).mono ?_
    rintro e wl ⟨rfl, hb⟩
    have BL := hide (B4.out.trans (hb.mono B4.out.size))
    clear hb
    go_wp2_with fail
    try go_ret
    exact ⟨rfl, BL.out⟩
  have hk : k ≤ s.size := by omega
  go_enter Try.func7, Try.ntmps7
  go_upto_region 1 with fail
  generalize w.alloc (.cells (rcs r a c) 28) = W1 at *
  go_wp2_with (first | (refine wpList_load_row rfl 28 (.tmp 3) rfl w.heap.size rfl 28 (rcs r a c) (0, 0) _ HX.out Try.underlying28 rfl ref_info ?_))
  refine (HM.out W1).mono ?_
  rintro e w2 ⟨rfl, hb⟩
  have B2 := hide (HA.out.trans (hb.mono HA.out.size))
  have X2 := hide (HX.out.below hb HX.out.lt)
  have S2 := hide (HS.out.below B2.out)
  clear hb HA HX HM
  go_wp2_with (first | (refine wpList_load_row rfl 28 (.tmp 3) rfl w.heap.size rfl 28 (rcs r a c) (0, 0) _ X2.out Try.underlying28 rfl ref_info ?_))
  refine (own_any r a c w2).mono ?_
  rintro e w3 ⟨rfl, hb⟩
  have B3 := hide (B2.out.trans (hb.mono B2.out.size))
  have X3 := hide (X2.out.below hb X2.out.lt)
  have S3 := hide (S2.out.below hb)
  clear hb B2 X2 S2
  go_wp2_with fail
  refine (HW.out w3 S3.out).mono ?_
  rintro e w4 ⟨rfl, hb⟩
  have B4 := hide (B3.out.trans (hb.mono B3.out.size))
  have X4 := hide (X3.out.below hb X3.out.lt)
  have S4 := hide (S3.out.below hb)
  clear hb B3 X3 S3
  clear X4 S4
  have hcv := run_bytes_of_string (P := Try.prog) w4 9 51 5 (sealS s) Try.underlying9 Try.underlying51 Try.underlying5
  generalize grownCap w4 (sealS s).size 0 5 = cap at hcv
  go_wp2_with fail
  clear hcv
  have hst : BsAt ((w4.alloc (.cells (bytesRow (sealS s) cap) 5 ((bytesRow (sealS s) cap).size, (bytesRow (sealS s) cap).size + 1))).drew) w4.heap.size (s.size + 4) (trn (bt (sealS s)) k v4 0) := by
    rw [← hz]; exact (bs_new w4 (sealS s) cap 5).congr fun p _ => (trn_zero _ _ _ _).symm
  have hbl : Below w.heap.size w ((w4.alloc (.cells (bytesRow (sealS s) cap) 5 ((bytesRow (sealS s) cap).size, (bytesRow (sealS s) cap).size + 1))).drew) := (B4.out.alloc B4.out.size _).drew
  have hbs := B4.out.size
  generalize (w4.alloc (.cells (bytesRow (sealS s) cap) 5 ((bytesRow (sealS s) cap).size, (bytesRow (sealS s) cap).size + 1))).drew = W at *
  have HST := hide hst
  have HBL := hide hbl
  clear hst hbl B4
  go_loopw [10] (fun y wr => ∃ j : Nat, j ≤ 4 ∧ y = .int .i64 j ∧ BsAt wr w4.heap.size (s.size + 4) (trn (bt (sealS s)) k v4 j) ∧ Below w.heap.size w wr) (fun y _ => 4 - (intOf y).toNat)
  case atStart => exact ⟨0, by omega, rfl, HST.out, HBL.out⟩
  case round =>
    obtain ⟨j, hj, rfl, hB, hbl⟩ := hrel
    have HB := hide hB
    have HL := hide hbl
    clear hbl
    by_cases hlt : j < 4
    · have hd : decide ((j : Int) < 4) = true := by simp; omega
      obtain ⟨hc, hf⟩ := hB.2 (k + j) (by omega)
      rw [trn_at] at hc
      clear hB
      go_wp2_with fail
      refine ⟨⟨j + 1, by omega, by go_num, ?_, HL.out.setCell hbs _⟩, by simp [intOf]; omega⟩
      rw [turn_u8 (bt_lt _ _) hlt]
      exact (HB.out.set _ _ (by omega)).congr fun p _ => trn_step _ _ _ _ _
    · clear hB
      obtain rfl : j = 4 := by omega
      have hcv := HB.out.string (cap := cap)
      have hzT : (mkS (s.size + 4) (trn (bt (sealS s)) k v4 4)).size = s.size + 4 := mkS_size _ _
      have hbad : opE (mkS (s.size + 4) (trn (bt (sealS s)) k v4 4)) = 5 := by
        have hlow : ∀ p, p < s.size + 4 → bt (mkS (s.size + 4) (trn (bt (sealS s)) k v4 4)) p = trn (bt (sealS s)) k v4 4 p := fun p hp => mkS_bt hp (trn_lt _ _ _ _ (bt_lt _))
        have := turned_not (s := s) (t := mkS (s.size + 4) (trn (bt (sealS s)) k v4 4)) (i := k) (v := v4) hzT hv4 hv0 (by omega) (fun q hq => by
          rw [hlow _ (by omega)]; unfold trn; rw [if_pos (by omega), Nat.add_sub_cancel_left]) (fun p hp => by
          by_cases h : p < s.size + 4
          · rw [hlow _ h]; unfold trn; rw [if_neg (by omega)]
          · rw [bt_out (by omega), bt_out (by omega)])
        unfold opE
        rw [if_neg (by omega), if_neg this]
      have hrr := rdE_err (s := mkS (s.size + 4) (trn (bt (sealS s)) k v4 4)) (by rw [hbad]; decide)
      rw [hbad] at hrr
      have H3 : Hid (∀ w, Calls Try.prog 19 #[.string (mkS (s.size + 4) (trn (bt (sealS s)) k v4 4))] w fun e w' => ∃ a c, e = .returned (.tuple #[.agg (rcs Rc.zero a c), .int .i64 5]) ∧ Below w.heap.size w w') := fun w => by
        have q := pread_any (mkS (s.size + 4) (trn (bt (sealS s)) k v4 4)) w (by omega)
        unfold RdP at q
        rw [hrr.1, hrr.2] at q
        exact q.mono fun e w' ⟨a, c, h1, _, _, h2⟩ => ⟨a, c, h1, h2⟩
      clear hbad hrr
      generalize mkS (s.size + 4) (trn (bt (sealS s)) k v4 4) = T at *
      go_wp2_with fail
      refine (H3.out wr).mono ?_
      rintro e w5 ⟨a5, c5, rfl, hb⟩
      have B5 := hide (HL.out.trans (hb.mono HL.out.size))
      clear hb hcv
      have hal : Below w5.heap.size w5 (w5.alloc (.cells #[.int .i64 0, .int .i64 0, .int .i64 0, .int .i64 0, .int .i64 0, .slice none 0 0, .string { data := #[] }, .int .i64 0, .int .i64 0, .int .i64 0, .string { data := #[] }, .string { data := #[] }, .int .i64 0, .int .i64 0] 34)) := (Below.refl _ _).alloc (Nat.le_refl _) _
      have hrow := below_setRow hal (Nat.le_refl _) (rcs Rc.zero a5 c5)
      have NB : Hid (RBx w5.heap.size 34 Rc.zero none 0 (w5.alloc (.cells #[.int .i64 0, .int .i64 0, .int .i64 0, .int .i64 0, .int .i64 0, .slice none 0 0, .string { data := #[] }, .int .i64 0, .int .i64 0, .int .i64 0, .string { data := #[] }, .string { data := #[] }, .int .i64 0, .int .i64 0] 34))) := rbx_new 34 Rc.zero none 0 w5
      have XB6 : Hid (RBx w5.heap.size 34 Rc.zero a5 c5 ((w5.alloc (.cells #[.int .i64 0, .int .i64 0, .int .i64 0, .int .i64 0, .int .i64 0, .slice none 0 0, .string { data := #[] }, .int .i64 0, .int .i64 0, .int .i64 0, .string { data := #[] }, .string { data := #[] }, .int .i64 0, .int .i64 0] 34)).setRow w5.heap.size (rcs Rc.zero a5 c5))) := NB.out.row Rc.zero a5 c5
      have B6 : Hid (Below w.heap.size w ((w5.alloc (.cells #[.int .i64 0, .int .i64 0, .int .i64 0, .int .i64 0, .int .i64 0, .slice none 0 0, .string { data := #[] }, .int .i64 0, .int .i64 0, .int .i64 0, .string { data := #[] }, .string { data := #[] }, .int .i64 0, .int .i64 0] 34)).setRow w5.heap.size (rcs Rc.zero a5 c5))) := B5.out.trans (hrow.mono B5.out.size)
      clear hal hrow
      go_wp2_with (first | (refine wpList_store_row rfl 34 (.tmp 11) (.tmp 74) rfl w5.heap.size (rcs Rc.zero a5 c5) rfl rfl 34 (rcs Rc.zero none 0) NB.out rec_info rfl (rcs_one _ _ _) ?_; generalize (w5.alloc (.cells #[.int .i64 0, .int .i64 0, .int .i64 0, .int .i64 0, .int .i64 0, .slice none 0 0, .string { data := #[] }, .int .i64 0, .int .i64 0, .int .i64 0, .string { data := #[] }, .string { data := #[] }, .int .i64 0, .int .i64 0] 34)).setRow w5.heap.size (rcs Rc.zero a5 c5) = W6 at *; generalize w5.heap.size = b6 at *; clear NB))
      refine (live_any W6).mono ?_
      rintro e wl ⟨rfl, hb⟩
      have BL := hide (B6.out.trans (hb.mono B6.out.size))
      clear hb
      go_wp2_with fail
      try go_ret
      exact ⟨rfl, BL.out⟩
end Go.Proofs.Ythepgheiohfhdaa
