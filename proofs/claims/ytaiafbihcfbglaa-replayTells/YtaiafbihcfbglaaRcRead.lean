/- What record.Read answers at every text. -/
import Derived.Test.YtaiafbihcfbglaaRcTaken
namespace Go.Proofs.Ytaiafbihcfbglaa
open Go.RowKit
set_option linter.unusedVariables false
theorem sSJ_list : sSJ.toList = [83, 74] := by rw [ByteArray.toList_eq]; rfl
set_option maxRecDepth 100000 in
set_option maxHeartbeats 4000000 in
theorem trimp_any (t : ByteArray) (w : World) (ht : t.size ≤ 1000000000000000) : Calls Try.prog 66 #[.string t, .string sSJ] w fun r w' => r = .returned (.string (trimS t)) ∧ w = w' := by
  by_cases h2 : 2 ≤ t.size
  · have q2 : decide ((2 : Int) ≤ (t.size : Int)) = true := by simp; omega
    by_cases he : t.extract 0 2 = sSJ
    · have hq := str_eq he
      rw [sSJ_list] at hq
      have HT : Hid (t.extract 2 t.size = trimS t) := by show _ = _; unfold trimS; rw [if_pos ⟨h2, he⟩]; rfl
      clear he
      unfold sSJ
      go_enter Try.func66, Try.ntmps66
      go_wp2
      try go_ret
      exact ⟨ret_str HT.out, rfl⟩
    · have hq := str_ne he
      rw [sSJ_list] at hq
      have HT : Hid (t = trimS t) := by show _ = _; unfold trimS; rw [if_neg (by simp [he])]
      clear he
      unfold sSJ
      go_enter Try.func66, Try.ntmps66
      go_wp2
      try go_ret
      exact ⟨ret_str HT.out, rfl⟩
  · have q2 : decide ((2 : Int) ≤ (t.size : Int)) = false := by simp; omega
    have HT : Hid (t = trimS t) := by show _ = _; unfold trimS; rw [if_neg (by simp [h2])]
    unfold sSJ
    go_enter Try.func66, Try.ntmps66
    go_wp2
    try go_ret
    exact ⟨ret_str HT.out, rfl⟩
theorem rN_56 (s : ByteArray) : (0 : Int) ≤ ((rN s : Nat) : Int) ∧ ((rN s : Nat) : Int) ≤ 9223372036854775807 := by have := rN_lt s; omega
theorem tkR_fit (s : ByteArray) (hs : s.size ≤ 150000000000000) : (tkR s).fit := by
  have a1 := rR_size s
  have a2 := rR_size (rR s)
  have a3 := rR_size (rR (rR s))
  have a4 := rR_size (rR (rR (rR s)))
  have a5 := rR_size (rR (rR (rR (rR s))))
  have a6 := lcsR_size 9 (rR (rR (rR (rR (rR s)))))
  have a7 := tR_size (lcsR 9 (rR (rR (rR (rR (rR s))))))
  have a8 := rR_size (tR (lcsR 9 (rR (rR (rR (rR (rR s)))))))
  have a9 := rR_size (rR (tR (lcsR 9 (rR (rR (rR (rR (rR s))))))))
  have b1 := tT_size (lcsR 9 (rR (rR (rR (rR (rR s))))))
  have b2 := tT_size (rR (rR s))
  have b3 := lcsT_len 9 (rR (rR (rR (rR (rR s)))))
  have b4 := rN_56 (tR (lcsR 9 (rR (rR (rR (rR (rR s)))))))
  unfold tkR Rc.fit
  split
  · unfold tk0; dsimp only; exact ⟨by omega, by omega, by omega, by simp, by omega, by omega⟩
  split
  · unfold tk1; dsimp only; exact ⟨by simp, by simp, by simp, by omega, by omega, by omega⟩
  split
  · unfold tk2; dsimp only; exact ⟨by omega, by simp, by simp, by simp, by omega, by omega⟩
  split
  · unfold tk3; dsimp only; exact ⟨by omega, by simp, by simp, by simp, by omega, by omega⟩
  · unfold tkX; dsimp only; exact ⟨by simp, by simp, by simp, by simp, by omega, by omega⟩
theorem trimS_size (t : ByteArray) : (trimS t).size ≤ t.size := by
  unfold trimS rest2
  split
  · rw [ByteArray.size_extract]; omega
  · exact Nat.le_refl _
/-- the record of any text, and what is left of it -/
def RdP (s : ByteArray) (w : World) (e : Ending) (w' : World) : Prop := ∃ a c, e = .returned (.tuple #[.agg (rcs (rdC s) a c), .int .i64 (rdE s)]) ∧ LocsAt w' a (rdC s).ls ∧ (∀ b o, a = some ⟨b, o, none⟩ → w.heap.size ≤ b ∧ LocB w' b) ∧ Below w.heap.size w w'
set_option maxRecDepth 100000 in
set_option maxHeartbeats 8000000 in
theorem pread_err (s : ByteArray) (w : World) (hs : s.size ≤ 150000000000000) (h : opE s ≠ 0) : Calls Try.prog 36 #[.string s] w (RdP s w) := by
  obtain ⟨e1, e2⟩ := rdE_err h
  unfold RdP
  rw [e1, e2]
  have HZ : Hid (RBx w.heap.size 55 Rc.zero none 0 (w.alloc (.cells #[.int .i64 0, .int .i64 0, .int .i64 0, .int .i64 0, .int .i64 0, .slice none 0 0, .string { data := #[] }, .int .i64 0, .int .i64 0, .int .i64 0, .string { data := #[] }, .string { data := #[] }, .int .i64 0, .int .i64 0] 55))) := rbx_new 55 Rc.zero none 0 w
  have HA : Hid (Below w.heap.size w (w.alloc (.cells #[.int .i64 0, .int .i64 0, .int .i64 0, .int .i64 0, .int .i64 0, .slice none 0 0, .string { data := #[] }, .int .i64 0, .int .i64 0, .int .i64 0, .string { data := #[] }, .string { data := #[] }, .int .i64 0, .int .i64 0] 55))) := (Below.refl _ _).alloc (Nat.le_refl _) _
  have HO : Hid (∀ w, Calls Try.prog 63 #[.string s] w fun e w' => e = .returned (.tuple #[.string (opT s), .int .i64 (opE s)]) ∧ Below w.heap.size w w') := fun w => open_any s w hs
  have hne : (opE s == 0) = false := by simpa using h
  have hne2 : (opE s != 0) = true := by simpa using h
  clear h e1 e2
  generalize opE s = E at *
  generalize opT s = T at *
  go_enter Try.func36, Try.ntmps36
  go_upto_region 1 with fail
  generalize w.alloc (.cells #[.int .i64 0, .int .i64 0, .int .i64 0, .int .i64 0, .int .i64 0, .slice none 0 0, .string { data := #[] }, .int .i64 0, .int .i64 0, .int .i64 0, .string { data := #[] }, .string { data := #[] }, .int .i64 0, .int .i64 0] 55) = W1 at *
  go_wp2_with fail
  refine (HO.out W1).mono ?_
  rintro e w1 ⟨rfl, hb1⟩
  have HB1 := hide (HA.out.trans (hb1.mono HA.out.size))
  have HZ1 := hide (HZ.out.below hb1 HZ.out.lt)
  clear hb1 HA HZ HO
  go_wp2_with (first | (refine wpList_store_row rfl 55 (.tmp 2) (.tmp 16) rfl w.heap.size (rcs Rc.zero none 0) rfl rfl 55 (rcs Rc.zero none 0) HZ1.out rec_info rfl (rcs_one _ _ _) ?_))
  refine bodyPost_ret (res_rec_tmp rfl _ _ w.heap.size Rc.zero none 0 rfl (HZ1.out.row _ _ _)) rfl ?_
  exact ⟨none, 0, rfl, .inl rfl, (fun b o q => by cases q), below_setRow HB1.out (Nat.le_refl _) _⟩
set_option maxRecDepth 100000 in
set_option maxHeartbeats 8000000 in
theorem pread_two (s : ByteArray) (w : World) (hs : s.size ≤ 150000000000000) (h : opE s = 0) : Calls Try.prog 36 #[.string s] w (RdP s w) := by
  have HZ : Hid (RBx w.heap.size 55 Rc.zero none 0 (w.alloc (.cells #[.int .i64 0, .int .i64 0, .int .i64 0, .int .i64 0, .int .i64 0, .slice none 0 0, .string { data := #[] }, .int .i64 0, .int .i64 0, .int .i64 0, .string { data := #[] }, .string { data := #[] }, .int .i64 0, .int .i64 0] 55))) := rbx_new 55 Rc.zero none 0 w
  have HA : Hid (Below w.heap.size w (w.alloc (.cells #[.int .i64 0, .int .i64 0, .int .i64 0, .int .i64 0, .int .i64 0, .slice none 0 0, .string { data := #[] }, .int .i64 0, .int .i64 0, .int .i64 0, .string { data := #[] }, .string { data := #[] }, .int .i64 0, .int .i64 0] 55))) := (Below.refl _ _).alloc (Nat.le_refl _) _
  have HO : Hid (∀ w, Calls Try.prog 63 #[.string s] w fun e w' => e = .returned (.tuple #[.string (opT s), .int .i64 0]) ∧ Below w.heap.size w w') := fun w => by have := open_any s w hs; rw [h] at this; exact this
  obtain ⟨hts1, hts2⟩ := trim_same h
  have HYES : Hid (wR (tkR (trimS (opT s))) = s → rdE s = 0 ∧ rdC s = tkR (trimS (opT s))) := fun q => by
    have q2 := hts1.1 q
    rw [hts2 q2]
    exact rdE_yes h q2
  have HNO : Hid (wR (tkR (trimS (opT s))) ≠ s → rdE s = 4 ∧ rdC s = Rc.zero) := fun q => rdE_no h fun q2 => q (hts1.2 q2)
  have hz : (opT s).size ≤ 150000000000000 := by rw [(opE_zero h).2.2, headS_size]; omega
  have hz2 := trimS_size (opT s)
  clear hts1 hts2 h
  generalize opT s = T at *
  have HT : Hid (∀ w, Calls Try.prog 66 #[.string T, .string sSJ] w fun r w' => r = .returned (.string (trimS T)) ∧ w = w') := fun w => trimp_any T w (by omega)
  have HF := hide (tkR_fit (trimS T) (by omega))
  have HK : Hid (∀ (bp : Nat) (w : World), RdC False w bp 131 (trimS T) → Calls Try.prog 64 #[.pointer (some ⟨bp, 0, none⟩)] w fun e w' => ∃ a c, e = .returned (.agg (rcs (tkR (trimS T)) a c)) ∧ LocsAt w' a (tkR (trimS T)).ls ∧ (∀ b o, a = some ⟨b, o, none⟩ → w.heap.size ≤ b ∧ LocB w' b) ∧ Ba bp w w') := fun bp w q => taken_any bp (trimS T) w q (by omega)
  clear hz hz2
  generalize tkR (trimS T) = X at *
  generalize trimS T = U at *
  go_enter Try.func36, Try.ntmps36
  go_upto_region 1 with fail
  generalize w.alloc (.cells #[.int .i64 0, .int .i64 0, .int .i64 0, .int .i64 0, .int .i64 0, .slice none 0 0, .string { data := #[] }, .int .i64 0, .int .i64 0, .int .i64 0, .string { data := #[] }, .string { data := #[] }, .int .i64 0, .int .i64 0] 55) = W1 at *
  go_wp2_with fail
  refine (HO.out W1).mono ?_
  rintro e w1 ⟨rfl, hb1⟩
  have HB1 := hide (HA.out.trans (hb1.mono HA.out.size))
  have HZ1 := hide (HZ.out.below hb1 HZ.out.lt)
  clear hb1 HA HZ HO
  go_wp2_with fail
  refine (HT.out w1).mono ?_
  rintro e _ ⟨rfl, rfl⟩
  go_wp2_with fail
  refine (read_any U w1).mono ?_
  rintro e w2 ⟨bp, rfl, hbp, hsz, hrd, hbl⟩
  have HB2 := hide (HB1.out.trans (hbl.mono HB1.out.size))
  have HZ2 := hide (HZ1.out.below hbl HZ1.out.lt)
  have HR2 : Hid (RdC False w2 bp 131 U) := ⟨0, hrd, fun q => absurd rfl q, fun q => q.elim⟩
  have HLE : Hid (w.heap.size < bp) := by unfold Hid; have := HZ1.out.lt; omega
  clear hbp hsz hrd hbl HB1 HZ1 HT
  go_wp2_with fail
  refine (HK.out bp w2 HR2.out).mono ?_
  rintro e w3 ⟨a3, c3, rfl, hl3, hf3, hb3⟩
  have HFAR : Hid (∀ b o, a3 = some ⟨b, o, none⟩ → w.heap.size < b) := fun b o q => by have h1 := (hf3 b o q).1; have h2 := HZ2.out.lt; omega
  have HTY3 : Hid (∀ b o, a3 = some ⟨b, o, none⟩ → LocB w3 b) := fun b o q => (hf3 b o q).2
  clear hf3
  have HB3 := hide (HB2.out.trans (hb3.below (Nat.le_of_lt HLE.out) HB2.out.size))
  have HZ3 := hide (HZ2.out.ba hb3 (by have := HLE.out; omega))
  have hal : Below w3.heap.size w3 (w3.alloc (.cells (rcs Rc.zero none 0) 55)) := (Below.refl _ _).alloc (Nat.le_refl _) _
  have hrow := below_setRow hal (Nat.le_refl _) (rcs X a3 c3)
  have HN4 : Hid (RBx w3.heap.size 55 Rc.zero none 0 (w3.alloc (.cells #[.int .i64 0, .int .i64 0, .int .i64 0, .int .i64 0, .int .i64 0, .slice none 0 0, .string { data := #[] }, .int .i64 0, .int .i64 0, .int .i64 0, .string { data := #[] }, .string { data := #[] }, .int .i64 0, .int .i64 0] 55))) := rbx_new 55 Rc.zero none 0 w3
  have HX4 : Hid (RBx w3.heap.size 55 X a3 c3 ((w3.alloc (.cells #[.int .i64 0, .int .i64 0, .int .i64 0, .int .i64 0, .int .i64 0, .slice none 0 0, .string { data := #[] }, .int .i64 0, .int .i64 0, .int .i64 0, .string { data := #[] }, .string { data := #[] }, .int .i64 0, .int .i64 0] 55)).setRow w3.heap.size (rcs X a3 c3))) := HN4.out.row X a3 c3
  have HB4 : Hid (Below w.heap.size w ((w3.alloc (.cells #[.int .i64 0, .int .i64 0, .int .i64 0, .int .i64 0, .int .i64 0, .slice none 0 0, .string { data := #[] }, .int .i64 0, .int .i64 0, .int .i64 0, .string { data := #[] }, .string { data := #[] }, .int .i64 0, .int .i64 0] 55)).setRow w3.heap.size (rcs X a3 c3))) := HB3.out.trans (hrow.mono HB3.out.size)
  have HZ4 : Hid (RBx w.heap.size 55 Rc.zero none 0 ((w3.alloc (.cells #[.int .i64 0, .int .i64 0, .int .i64 0, .int .i64 0, .int .i64 0, .slice none 0 0, .string { data := #[] }, .int .i64 0, .int .i64 0, .int .i64 0, .string { data := #[] }, .string { data := #[] }, .int .i64 0, .int .i64 0] 55)).setRow w3.heap.size (rcs X a3 c3))) := HZ3.out.below hrow HZ3.out.lt
  have HL4 : Hid (LocsAt ((w3.alloc (.cells #[.int .i64 0, .int .i64 0, .int .i64 0, .int .i64 0, .int .i64 0, .slice none 0 0, .string { data := #[] }, .int .i64 0, .int .i64 0, .int .i64 0, .string { data := #[] }, .string { data := #[] }, .int .i64 0, .int .i64 0] 55)).setRow w3.heap.size (rcs X a3 c3)) a3 X.ls) := hl3.below hrow
  have HTY4 : Hid (∀ b o, a3 = some ⟨b, o, none⟩ → LocB ((w3.alloc (.cells #[.int .i64 0, .int .i64 0, .int .i64 0, .int .i64 0, .int .i64 0, .slice none 0 0, .string { data := #[] }, .int .i64 0, .int .i64 0, .int .i64 0, .string { data := #[] }, .string { data := #[] }, .int .i64 0, .int .i64 0] 55)).setRow w3.heap.size (rcs X a3 c3)) b) := fun b o q => (HTY3.out b o q).below hrow
  clear hb3 hl3 hal hrow HB2 HZ2 HR2 HK HB3 HZ3
  go_wp2_with (first | (refine wpList_store_row rfl 55 (.tmp 6) (.tmp 21) rfl w3.heap.size (rcs X a3 c3) rfl rfl 55 (rcs Rc.zero none 0) HN4.out rec_info rfl (rcs_one _ _ _) ?_; generalize (w3.alloc (.cells #[.int .i64 0, .int .i64 0, .int .i64 0, .int .i64 0, .int .i64 0, .slice none 0 0, .string { data := #[] }, .int .i64 0, .int .i64 0, .int .i64 0, .string { data := #[] }, .string { data := #[] }, .int .i64 0, .int .i64 0] 55)).setRow w3.heap.size (rcs X a3 c3) = W4 at *; generalize w3.heap.size = bx at *) | (refine wpList_load_row rfl 55 (.tmp 6) rfl bx rfl 55 (rcs X a3 c3) (0, 0) _ HX4.out Try.underlying55 rfl rec_info ?_))
  refine (rwrite_any X a3 c3 W4 HL4.out HF.out).mono ?_
  rintro e w5 ⟨rfl, hb5⟩
  have HB5 := hide (HB4.out.trans (hb5.mono HB4.out.size))
  have HZ5 := hide (HZ4.out.below hb5 HZ4.out.lt)
  have HX5 := hide (HX4.out.below hb5 HX4.out.lt)
  have HL5 := hide (HL4.out.below hb5)
  have HTY5 : Hid (∀ b o, a3 = some ⟨b, o, none⟩ → LocB w5 b) := fun b o q => (HTY4.out b o q).below hb5
  clear hb5 HB4 HZ4 HX4 HL4 HF
  by_cases hw : wR X = s
  · obtain ⟨e1, e2⟩ := HYES.out hw
    have hq := str_eq hw
    have HE1 := hide e1
    have HE2 := hide e2
    clear e1 e2 hw HYES HNO
    generalize wR X = S at *
    generalize ckR X = E at *
    have HLX : Hid (LocsAt (w5.setRow w.heap.size (rcs X a3 c3)) a3 X.ls) := by
      refine HL5.out.keep (below_setRow (Below.refl w.heap.size w5) (Nat.le_refl _) _).size fun b o q hl => ?_
      by_cases hbw : b = w.heap.size
      · have := HFAR.out b o q; omega
      · exact setRow_other _ _ _ _ hbw
    go_wp2_with (first | (refine wpList_load_row rfl 55 (.tmp 6) rfl bx rfl 55 (rcs X a3 c3) (0, 0) _ HX5.out Try.underlying55 rfl rec_info ?_) | (refine wpList_store_row rfl 55 (.tmp 2) (.tmp 31) rfl w.heap.size (rcs X a3 c3) rfl rfl 55 (rcs Rc.zero none 0) HZ5.out rec_info rfl (rcs_one _ _ _) ?_))
    refine bodyPost_ret (res_rec_tmp rfl _ _ w.heap.size X a3 c3 rfl (HZ5.out.row _ _ _)) rfl ?_
    unfold RdP
    rw [HE1.out, HE2.out]
    exact ⟨a3, c3, rfl, HLX.out, fun b o q => ⟨Nat.le_of_lt (HFAR.out b o q), (HTY5.out b o q).keep (setRow_other _ _ _ _ (by have := HFAR.out b o q; omega))⟩, below_setRow HB5.out (Nat.le_refl _) _⟩
  · obtain ⟨e1, e2⟩ := HNO.out hw
    have hq := str_ne hw
    have HE1 := hide e1
    have HE2 := hide e2
    clear e1 e2 hw HYES HNO
    generalize wR X = S at *
    generalize ckR X = E at *
    go_wp2_with (first | (refine wpList_store_row rfl 55 (.tmp 2) (.tmp 30) rfl w.heap.size (rcs Rc.zero none 0) rfl rfl 55 (rcs Rc.zero none 0) HZ5.out rec_info rfl (rcs_one _ _ _) ?_))
    refine bodyPost_ret (res_rec_tmp rfl _ _ w.heap.size Rc.zero none 0 rfl (HZ5.out.row _ _ _)) rfl ?_
    unfold RdP
    rw [HE1.out, HE2.out]
    exact ⟨none, 0, rfl, .inl rfl, (fun b o q => by cases q), below_setRow HB5.out (Nat.le_refl _) _⟩
theorem pread_any (s : ByteArray) (w : World) (hs : s.size ≤ 150000000000000) : Calls Try.prog 36 #[.string s] w (RdP s w) := by
  by_cases h : opE s = 0
  · exact pread_two s w hs h
  · exact pread_err s w hs h
end Go.Proofs.Ytaiafbihcfbglaa
