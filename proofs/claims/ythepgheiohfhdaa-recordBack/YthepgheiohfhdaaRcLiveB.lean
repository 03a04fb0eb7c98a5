/- What layer 11's live answers: true. -/
import Derived.Test.YthepgheiohfhdaaRcLive
namespace Go.Proofs.Ythepgheiohfhdaa
open Go.RowKit
set_option linter.unusedVariables false
def sA : ByteArray := ⟨#[97]⟩
def rA : Rc := ⟨0, 1, 0, 0, 0, [], ByteArray.empty, 0, 0, 0, ByteArray.empty, ⟨#[97]⟩, 0, 0⟩
def rD : Rc := ⟨0, 1, 0, 0, 0, [], ByteArray.empty, 0, 0, 0, ByteArray.empty, ByteArray.empty, 0, 0⟩
def rP : Rc := ⟨0, 0, 0, 0, 0, [], ByteArray.empty, 0, 0, 0, ByteArray.empty, ByteArray.empty, 0, 0⟩
def r4 : Rc := ⟨0, 4, 0, 0, 0, [], ByteArray.empty, 0, 0, 0, ByteArray.empty, ByteArray.empty, 0, 0⟩
theorem one_key (c : UInt8) (h1 : 33 ≤ c.toNat) (h2 : c.toNat ≤ 126) : keyOk ⟨#[c]⟩ := by
  refine ⟨Nat.le_refl 1, (by show 1 ≤ 32; omega), fun p hp => ?_⟩
  have : p = 0 := by have : p < 1 := hp; omega
  subst this
  exact ⟨h1, h2⟩
theorem ck_A : ckR rA = 0 := ckR_ok ⟨by decide, by decide⟩ ((ckK_1 rfl).2 (one_key 97 (by decide) (by decide))) rfl
theorem ck_D : ckR rD = 11 := by
  have hk : ckK rD = 11 := by unfold ckK; rw [if_neg (by decide), if_pos (show rD.kind = 1 from rfl), if_neg (fun q => by have := q.1; simp [rD] at this)]
  rw [ckR_k ⟨by decide, by decide⟩ (by rw [hk]; decide), hk]
theorem ck_P : ckR rP = 1 := by
  have hk : ckK rP = 1 := by unfold ckK; rw [if_pos (show rP.kind = 0 from rfl), if_neg (fun q => by have := q.2.2.2.1; simp [rP] at this)]
  rw [ckR_k ⟨by decide, by decide⟩ (by rw [hk]; decide), hk]
theorem ck_4 : ckR r4 = 1 := ckR_sq (by decide)
theorem wA_size : (wR rA).size = 10 := by
  rw [wR_ok ck_A, sealS_size]
  show (sSJ ++ (numI 0 ++ (numI 1 ++ partB rA))).size + 4 = 10
  have hp : partB rA = textS ⟨#[97]⟩ := by unfold partB; rw [if_neg (by decide), if_pos (show rA.kind = 1 from rfl)]; rfl
  rw [hp, ByteArray.size_append, ByteArray.size_append, ByteArray.size_append, sSJ_size, numI_len1 (by omega) (by omega), numI_len1 (by omega) (by omega), textS_len (s := ⟨#[97]⟩) (by decide)]
  rfl
theorem rd_abc : rdE ⟨#[97, 98, 99]⟩ = 3 := by
  have h : opE ⟨#[97, 98, 99]⟩ = 3 := by unfold opE; rw [if_pos (by decide)]
  rw [(rdE_err (by rw [h]; decide)).1, h]
theorem rd_SJ : rdE (sealS sSJ) = 4 := by
  refine (rdE_no (opE_seal _) fun q => ?_).1
  obtain ⟨c, k⟩ := opT_body (opE_seal _) q
  generalize tkR (rest2 (opT (sealS sSJ))) = X at c k
  rw [opT_seal] at k
  have hs : sSJ.size = (bodyR X).size := by rw [← k]
  obtain ⟨⟨hs0, _⟩, _⟩ := ckR_zero.1 c
  unfold bodyR innR at hs
  rw [ByteArray.size_append, ByteArray.size_append, sSJ_size, numI_len1 hs0.1 (by omega)] at hs
  omega
theorem vol_zero : decide (volR 0 0 0 []) = false := by decide
theorem fit_A : rA.fit := ⟨by decide, by decide, by decide, by decide, by decide, by decide⟩
theorem fit_D : rD.fit := ⟨by decide, by decide, by decide, by decide, by decide, by decide⟩
theorem fit_P : rP.fit := ⟨by decide, by decide, by decide, by decide, by decide, by decide⟩
theorem fit_4 : r4.fit := ⟨by decide, by decide, by decide, by decide, by decide, by decide⟩
set_option maxRecDepth 100000 in
set_option maxHeartbeats 16000000 in
theorem live_any (w : World) : Calls Try.prog 10 #[] w fun e w' => e = .returned (.bool true) ∧ Below w.heap.size w w' := by
  have H1 : Hid (∀ w, Calls Try.prog 11 #[.agg #[.int .i64 0, .int .i64 1, .int .i64 0, .int .i64 0, .int .i64 0, .slice none 0 0, .string { data := #[] }, .int .i64 0, .int .i64 0, .int .i64 0, .string { data := #[] }, .string { data := #[97] }, .int .i64 0, .int .i64 0]] w fun e w' => e = .returned (.tuple #[.string (wR rA), .int .i64 0]) ∧ Below w.heap.size w w') := fun w => by
    have q := rwrite_any rA none 0 w (.inl rfl) fit_A
    rw [ck_A] at q
    exact q
  have H2 : Hid (∀ w, Calls Try.prog 19 #[.string (wR rA)] w fun e w' => ∃ a c, e = .returned (.tuple #[.agg (rcs rA a c), .int .i64 0]) ∧ LocsAt w' a rA.ls ∧ (∀ b o, a = some ⟨b, o, none⟩ → w.heap.size ≤ b) ∧ Below w.heap.size w w') := fun w => by
    have q := pread_any (wR rA) w (by rw [wA_size]; decide)
    obtain ⟨e1, e2⟩ := read_back ck_A
    unfold RdP at q
    rw [e1, e2] at q
    exact q
  have H3 : Hid (∀ w, Calls Try.prog 11 #[.agg #[.int .i64 0, .int .i64 1, .int .i64 0, .int .i64 0, .int .i64 0, .slice none 0 0, .string { data := #[] }, .int .i64 0, .int .i64 0, .int .i64 0, .string { data := #[] }, .string { data := #[] }, .int .i64 0, .int .i64 0]] w fun e w' => e = .returned (.tuple #[.string (wR rD), .int .i64 11]) ∧ Below w.heap.size w w') := fun w => by
    have q := rwrite_any rD none 0 w (.inl rfl) fit_D
    rw [ck_D] at q
    exact q
  have H4 : Hid (∀ w, Calls Try.prog 11 #[.agg #[.int .i64 0, .int .i64 0, .int .i64 0, .int .i64 0, .int .i64 0, .slice none 0 0, .string { data := #[] }, .int .i64 0, .int .i64 0, .int .i64 0, .string { data := #[] }, .string { data := #[] }, .int .i64 0, .int .i64 0]] w fun e w' => e = .returned (.tuple #[.string (wR rP), .int .i64 1]) ∧ Below w.heap.size w w') := fun w => by
    have q := rwrite_any rP none 0 w (.inl rfl) fit_P
    rw [ck_P] at q
    exact q
  have H5 : Hid (∀ w, Calls Try.prog 19 #[.string ⟨#[97, 98, 99]⟩] w fun e w' => ∃ a c, e = .returned (.tuple #[.agg (rcs (rdC ⟨#[97, 98, 99]⟩) a c), .int .i64 3]) ∧ Below w.heap.size w w') := fun w => by
    have q := pread_any ⟨#[97, 98, 99]⟩ w (by decide)
    unfold RdP at q
    rw [rd_abc] at q
    exact q.mono fun e w' ⟨a, c, h1, _, _, h2⟩ => ⟨a, c, h1, h2⟩
  have H6 : Hid (∀ w, Calls Try.prog 18 #[.string ⟨#[83, 74]⟩] w fun e w' => e = .returned (.string (sealS sSJ)) ∧ Below w.heap.size w w') := fun w => refSeal_any sSJ w (by decide)
  have H7 : Hid (∀ w, Calls Try.prog 19 #[.string (sealS sSJ)] w fun e w' => ∃ a c, e = .returned (.tuple #[.agg (rcs (rdC (sealS sSJ)) a c), .int .i64 4]) ∧ Below w.heap.size w w') := fun w => by
    have q := pread_any (sealS sSJ) w (by rw [sealS_size]; decide)
    unfold RdP at q
    rw [rd_SJ] at q
    exact q.mono fun e w' ⟨a, c, h1, _, _, h2⟩ => ⟨a, c, h1, h2⟩
  have H8 : Hid (∀ (a : Option Addr) (c : Nat) (w : World), LocsAt w a rA.ls → Calls Try.prog 23 #[.agg (rcs rA a c), .agg #[.int .i64 0, .int .i64 1, .int .i64 0, .int .i64 0, .int .i64 0, .slice none 0 0, .string { data := #[] }, .int .i64 0, .int .i64 0, .int .i64 0, .string { data := #[] }, .string { data := #[97] }, .int .i64 0, .int .i64 0]] w fun e w' => e = .returned (.bool true) ∧ Below w.heap.size w w') := fun a c w h => by
    have q := same_any rA rA a none c 0 w (by decide) (by decide) h (.inl rfl)
    rw [samR_self] at q
    exact q
  have H9 : Hid (∀ w, Calls Try.prog 14 #[.agg #[.int .i64 0, .int .i64 4, .int .i64 0, .int .i64 0, .int .i64 0, .slice none 0 0, .string { data := #[] }, .int .i64 0, .int .i64 0, .int .i64 0, .string { data := #[] }, .string { data := #[] }, .int .i64 0, .int .i64 0]] w fun e w' => e = .returned (.int .i64 1) ∧ Below w.heap.size w w') := fun w => by
    have q := ck_any r4 none 0 w (.inl rfl) fit_4
    rw [ck_4] at q
    exact q
  have H10 : Hid (∀ w, Calls Try.prog 16 #[.agg #[.int .i64 0, .int .i64 0, .int .i64 0, .slice none 0 0]] w fun e w' => e = .returned (.bool false) ∧ Below w.heap.size w w') := fun w => by
    have q := vol_any 0 0 0 none 0 0 [] w rfl (by decide) (.inl rfl)
    rw [vol_zero] at q
    exact q
  have hsz := wA_size
  generalize rdC ⟨#[97, 98, 99]⟩ = X5 at *
  generalize rdC (sealS sSJ) = X7 at *
  generalize sealS sSJ = S7 at *
  generalize wR rA = SA at *
  generalize wR rD = SD at *
  generalize wR rP = SP at *
  have hls : rA.ls = [] := rfl
  rw [hls] at H2 H8
  clear hls
  generalize rA = RA at *
  go_enter Try.func10, Try.ntmps10
  go_wp2_with fail
  refine (H1.out w).mono ?_
  rintro e w1 ⟨rfl, hb⟩
  have B1 := hide hb
  clear hb
  go_wp2_with fail
  refine (H2.out w1).mono ?_
  rintro e w2 ⟨a2, c2, rfl, hl2, hf2, hb⟩
  have B2 := hide (B1.out.trans (hb.mono B1.out.size))
  have hal : Below w2.heap.size w2 (w2.alloc (.cells #[.int .i64 0, .int .i64 0, .int .i64 0, .int .i64 0, .int .i64 0, .slice none 0 0, .string { data := #[] }, .int .i64 0, .int .i64 0, .int .i64 0, .string { data := #[] }, .string { data := #[] }, .int .i64 0, .int .i64 0] 34)) := (Below.refl _ _).alloc (Nat.le_refl _) _
  have hrow := below_setRow hal (Nat.le_refl _) (rcs RA a2 c2)
  have N3 : Hid (RBx w2.heap.size 34 Rc.zero none 0 (w2.alloc (.cells #[.int .i64 0, .int .i64 0, .int .i64 0, .int .i64 0, .int .i64 0, .slice none 0 0, .string { data := #[] }, .int .i64 0, .int .i64 0, .int .i64 0, .string { data := #[] }, .string { data := #[] }, .int .i64 0, .int .i64 0] 34))) := rbx_new 34 Rc.zero none 0 w2
  have X3 : Hid (RBx w2.heap.size 34 RA a2 c2 ((w2.alloc (.cells #[.int .i64 0, .int .i64 0, .int .i64 0, .int .i64 0, .int .i64 0, .slice none 0 0, .string { data := #[] }, .int .i64 0, .int .i64 0, .int .i64 0, .string { data := #[] }, .string { data := #[] }, .int .i64 0, .int .i64 0] 34)).setRow w2.heap.size (rcs RA a2 c2))) := N3.out.row RA a2 c2
  have B3 : Hid (Below w.heap.size w ((w2.alloc (.cells #[.int .i64 0, .int .i64 0, .int .i64 0, .int .i64 0, .int .i64 0, .slice none 0 0, .string { data := #[] }, .int .i64 0, .int .i64 0, .int .i64 0, .string { data := #[] }, .string { data := #[] }, .int .i64 0, .int .i64 0] 34)).setRow w2.heap.size (rcs RA a2 c2))) := B2.out.trans (hrow.mono B2.out.size)
  clear hb hal hrow B1 B2 hf2
  have HLX : Hid (∀ w, LocsAt w a2 []) := fun w => .inl rfl
  clear hl2
  go_wp2_with (first | (refine wpList_store_row rfl 34 (.tmp 3) (.tmp 21) rfl w2.heap.size (rcs RA a2 c2) rfl rfl 34 (rcs Rc.zero none 0) N3.out rec_info rfl (rcs_one _ _ _) ?_; generalize (w2.alloc (.cells #[.int .i64 0, .int .i64 0, .int .i64 0, .int .i64 0, .int .i64 0, .slice none 0 0, .string { data := #[] }, .int .i64 0, .int .i64 0, .int .i64 0, .string { data := #[] }, .string { data := #[] }, .int .i64 0, .int .i64 0] 34)).setRow w2.heap.size (rcs RA a2 c2) = W3 at *; generalize w2.heap.size = bx at *))
  refine (H3.out W3).mono ?_
  rintro e w4 ⟨rfl, hb⟩
  have X4 := hide (X3.out.below hb X3.out.lt)
  have B4 := hide (B3.out.trans (hb.mono B3.out.size))
  clear hb X3 B3
  go_wp2_with fail
  refine (H4.out w4).mono ?_
  rintro e w5 ⟨rfl, hb⟩
  have X5' := hide (X4.out.below hb X4.out.lt)
  have B5 := hide (B4.out.trans (hb.mono B4.out.size))
  clear hb X4 B4
  go_wp2_with fail
  refine (H5.out w5).mono ?_
  rintro e w6 ⟨a6, c6, rfl, hb⟩
  have X6 := hide (X5'.out.below hb X5'.out.lt)
  have B6 := hide (B5.out.trans (hb.mono B5.out.size))
  have hal : Below w6.heap.size w6 (w6.alloc (.cells #[.int .i64 0, .int .i64 0, .int .i64 0, .int .i64 0, .int .i64 0, .slice none 0 0, .string { data := #[] }, .int .i64 0, .int .i64 0, .int .i64 0, .string { data := #[] }, .string { data := #[] }, .int .i64 0, .int .i64 0] 34)) := (Below.refl _ _).alloc (Nat.le_refl _) _
  have hrow := below_setRow hal (Nat.le_refl _) (rcs X5 a6 c6)
  have N7 : Hid (RBx w6.heap.size 34 Rc.zero none 0 (w6.alloc (.cells #[.int .i64 0, .int .i64 0, .int .i64 0, .int .i64 0, .int .i64 0, .slice none 0 0, .string { data := #[] }, .int .i64 0, .int .i64 0, .int .i64 0, .string { data := #[] }, .string { data := #[] }, .int .i64 0, .int .i64 0] 34))) := rbx_new 34 Rc.zero none 0 w6
  have X7' := hide (X6.out.below hrow X6.out.lt)
  have B7 := hide (B6.out.trans (hrow.mono B6.out.size))
  clear hb hal hrow X5' B5 X6 B6
  go_wp2_with (first | (refine wpList_store_row rfl 34 (.tmp 9) (.tmp 35) rfl w6.heap.size (rcs X5 a6 c6) rfl rfl 34 (rcs Rc.zero none 0) N7.out rec_info rfl (rcs_one _ _ _) ?_; generalize (w6.alloc (.cells #[.int .i64 0, .int .i64 0, .int .i64 0, .int .i64 0, .int .i64 0, .slice none 0 0, .string { data := #[] }, .int .i64 0, .int .i64 0, .int .i64 0, .string { data := #[] }, .string { data := #[] }, .int .i64 0, .int .i64 0] 34)).setRow w6.heap.size (rcs X5 a6 c6) = W7 at *; generalize w6.heap.size = by7 at *))
  refine (H6.out W7).mono ?_
  rintro e w8 ⟨rfl, hb⟩
  have X8 := hide (X7'.out.below hb X7'.out.lt)
  have B8 := hide (B7.out.trans (hb.mono B7.out.size))
  clear hb X7' B7
  go_wp2_with fail
  refine (H7.out w8).mono ?_
  rintro e w9 ⟨a9, c9, rfl, hb⟩
  have X9 := hide (X8.out.below hb X8.out.lt)
  have B9 := hide (B8.out.trans (hb.mono B8.out.size))
  have hal : Below w9.heap.size w9 (w9.alloc (.cells #[.int .i64 0, .int .i64 0, .int .i64 0, .int .i64 0, .int .i64 0, .slice none 0 0, .string { data := #[] }, .int .i64 0, .int .i64 0, .int .i64 0, .string { data := #[] }, .string { data := #[] }, .int .i64 0, .int .i64 0] 34)) := (Below.refl _ _).alloc (Nat.le_refl _) _
  have hrow := below_setRow hal (Nat.le_refl _) (rcs X7 a9 c9)
  have N10 : Hid (RBx w9.heap.size 34 Rc.zero none 0 (w9.alloc (.cells #[.int .i64 0, .int .i64 0, .int .i64 0, .int .i64 0, .int .i64 0, .slice none 0 0, .string { data := #[] }, .int .i64 0, .int .i64 0, .int .i64 0, .string { data := #[] }, .string { data := #[] }, .int .i64 0, .int .i64 0] 34))) := rbx_new 34 Rc.zero none 0 w9
  have X10 := hide (X9.out.below hrow X9.out.lt)
  have B10 := hide (B9.out.trans (hrow.mono B9.out.size))
  clear hb hal hrow X8 B8 X9 B9
  have p10 : ((SA.size : Int) == 10) = true := by rw [hsz]; rfl
  go_wp2_with (first | (refine wpList_store_row rfl 34 (.tmp 11) (.tmp 40) rfl w9.heap.size (rcs X7 a9 c9) rfl rfl 34 (rcs Rc.zero none 0) N10.out rec_info rfl (rcs_one _ _ _) ?_; generalize (w9.alloc (.cells #[.int .i64 0, .int .i64 0, .int .i64 0, .int .i64 0, .int .i64 0, .slice none 0 0, .string { data := #[] }, .int .i64 0, .int .i64 0, .int .i64 0, .string { data := #[] }, .string { data := #[] }, .int .i64 0, .int .i64 0] 34)).setRow w9.heap.size (rcs X7 a9 c9) = W10 at *; generalize w9.heap.size = bz10 at *; obtain ⟨k0, k1, k2, k3, k4, k5, k6, k7, k8, k9, k10, k11, k12, k13⟩ := X10.out.cells))
  refine (H8.out a2 c2 W10 (HLX.out _)).mono ?_
  rintro e w11 ⟨rfl, hb⟩
  have B11 := hide (B10.out.trans (hb.mono B10.out.size))
  clear hb
  go_wp2_with fail
  refine (H9.out w11).mono ?_
  rintro e w12 ⟨rfl, hb⟩
  have B12 := hide (B11.out.trans (hb.mono B11.out.size))
  clear hb
  go_wp2_with fail
  refine (H10.out w12).mono ?_
  rintro e w13 ⟨rfl, hb⟩
  have B13 := hide (B12.out.trans (hb.mono B12.out.size))
  clear hb
  go_wp2_with fail
  try go_ret
  exact ⟨rfl, B13.out⟩
end Go.Proofs.Ythepgheiohfhdaa
