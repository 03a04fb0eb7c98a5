/- What layer 12's live answers: true. -/
import Derived.Test.YtaiafbihcfbglaaRpLiveM
import Derived.Test.YtaiafbihcfbglaaRpSmall
namespace Go.Proofs.Ytaiafbihcfbglaa
open Go.RowKit
set_option linter.unusedVariables false
set_option maxRecDepth 100000 in
set_option maxHeartbeats 16000000 in
theorem live12_any (w : World) : Calls Try.prog 10 #[] w fun e w' => e = .returned (.bool true) ∧ Below w.heap.size w w' := by
  have H1 := hide lv_H1
  have H2 := hide lv_H2
  have HAB := hide ab_is
  generalize wR rA = SA at *
  generalize wR rB = SB at *
  have H3 := hide (lv_H3 HAB)
  have H4 := hide (lv_H4 HAB)
  have H5 := hide (lv_H5 HAB)
  have H6 := hide (lv_H6 HAB)
  have H7 := hide (lv_H7 HAB)
  have H8 := hide (lv_H8 HAB)
  have H9 := hide (lv_H9 HAB)
  clear HAB
  generalize rA = RA at *
  generalize rB = RB at *
  go_enter Try.func10, Try.ntmps10
  go_wp2_with fail
  refine (H1.out w).mono ?_
  rintro e w1 ⟨rfl, hb⟩
  have B1 := hide hb
  clear hb
  go_wp2_with fail
  refine (H2.out w1).mono ?_
  rintro e w2 ⟨rfl, hb⟩
  have B2 := hide (B1.out.trans (hb.mono B1.out.size))
  clear hb B1
  have S3 := hide (strs_new w2 #[.string SA, .string SB, .string SA] [SA, SB, SA] (fun i s hs => by match i, hs with | 0, hs => simpa using hs | 1, hs => simpa using hs | 2, hs => simpa using hs))
  have hal : Below w2.heap.size w2 (w2.alloc (.cells #[.string SA, .string SB, .string SA] 9)) := (Below.refl _ _).alloc (Nat.le_refl _) _
  have B3 := hide (B2.out.trans (hal.mono B2.out.size))
  clear hal B2
  go_wp2_with fail
  refine (H3.out _ _ _ S3.out).mono ?_
  rintro e w4 ⟨x, y, la, lc, rfl, hlc, hxy, hrec, hb⟩
  have B4 := hide (B3.out.trans (hb.mono B3.out.size))
  have HXY := hide hxy
  have HREC := hide hrec
  clear hb B3 S3 hxy hrec
  go_wp2_with fail
  rw [← lgW_is]
  have hal := lgW_below w4 SA SB
  have S5 := hide (lgW_logs w4 SA SB)
  have B5 := hide (B4.out.trans (hal.mono B4.out.size))
  have R5 := hide (HREC.out.below hal)
  clear hal B4 HREC
  generalize lgW w4 SA SB = w5 at *
  refine (H4.out w5 _ _ _ _ _ _ _ _ _ _ S5.out).mono ?_
  rintro e w6 ⟨ma, mc, rfl, hb⟩
  have B6 := hide (B5.out.trans (hb.mono B5.out.size))
  have R6 := hide (R5.out.below hb)
  clear hb B5 S5 R5
  generalize w4.heap.size = s4 at *
  go_wp2_with fail
  refine (H5.out w6).mono ?_
  rintro e w7 ⟨na, nc, rfl, hb⟩
  have B7 := hide (B6.out.trans (hb.mono B6.out.size))
  have R7 := hide (R6.out.below hb)
  clear hb B6 R6
  have h2c : (1 : Int) ≤ (lc : Int) := by omega
  have h2d : ¬ (lc : Int) < 1 := by omega
  go_wp2_with fail
  refine (H6.out w7 x y la lc R7.out (by omega) HXY.out).mono ?_
  rintro e w8 ⟨rfl, hb⟩
  have B8 := hide (B7.out.trans (hb.mono B7.out.size))
  have R8 := hide (R7.out.below hb)
  clear hb B7 R7
  go_wp2_with fail
  refine (H7.out w8 x y la lc R8.out (by omega) HXY.out).mono ?_
  rintro e w9 ⟨rfl, hb⟩
  have B9 := hide (B8.out.trans (hb.mono B8.out.size))
  have R9 := hide (R8.out.below hb)
  clear hb B8 R8
  go_wp2_with fail
  have S9 := hide (strs_new2 w9 ⟨#[120]⟩ SB)
  have hal : Below w9.heap.size w9 (w9.alloc (.cells #[.string ⟨#[120]⟩, .string SB] 9)) := (Below.refl _ _).alloc (Nat.le_refl _) _
  have B10 := hide (B9.out.trans (hal.mono B9.out.size))
  have R10 := hide (R9.out.below hal)
  clear hal B9 R9
  refine (H8.out _ x y la _ lc _ S9.out R10.out HXY.out).mono ?_
  rintro e w11 ⟨ia, ic, rfl, hi, hb⟩
  have I11 := hide hi
  have B11 := hide (B10.out.trans (hb.mono B10.out.size))
  have R11 := hide (R10.out.below hb)
  clear hi hb B10 R10 S9
  go_wp2_with fail
  have J11 := hide (ints_new1 w11 0)
  have hal : Below w11.heap.size w11 (w11.alloc (.cells #[.int .i64 0] 3)) := (Below.refl _ _).alloc (Nat.le_refl _) _
  have I12 := hide (I11.out.below hal)
  have B12 := hide (B11.out.trans (hal.mono B11.out.size))
  have R12 := hide (R11.out.below hal)
  clear hal B11 R11 I11
  refine (ints_same ia _ ic _ 1 [0] _ rfl (by omega) I12.out J11.out).mono ?_
  rintro e w13 ⟨rfl, hb⟩
  have B13 := hide (B12.out.trans (hb.mono B12.out.size))
  have R13 := hide (R12.out.below hb)
  clear hb B12 R12 I12 J11
  go_wp2_with fail
  refine (H9.out w13 x y la lc R13.out HXY.out).mono ?_
  rintro e w14 ⟨ja, jc, rfl, hi, hb⟩
  have I14 := hide hi
  have B14 := hide (B13.out.trans (hb.mono B13.out.size))
  have R14 := hide (R13.out.below hb)
  clear hi hb B13 R13
  go_wp2_with fail
  have J14 := hide (ints_new2 w14 0 1)
  have hal : Below w14.heap.size w14 (w14.alloc (.cells #[.int .i64 0, .int .i64 1] 3)) := (Below.refl _ _).alloc (Nat.le_refl _) _
  have I15 := hide (I14.out.below hal)
  have B15 := hide (B14.out.trans (hal.mono B14.out.size))
  have R15 := hide (R14.out.below hal)
  clear hal B14 R14 I14
  refine (ints_same ja _ jc _ 2 [0, 1] _ rfl (by omega) I15.out J14.out).mono ?_
  rintro e w16 ⟨rfl, hb⟩
  have B16 := hide (B15.out.trans (hb.mono B15.out.size))
  have R16 := hide (R15.out.below hb)
  clear hb B15 R15 I15 J14
  go_wp2_with fail
  try go_ret
  exact ⟨rfl, B16.out⟩
end Go.Proofs.Ytaiafbihcfbglaa
