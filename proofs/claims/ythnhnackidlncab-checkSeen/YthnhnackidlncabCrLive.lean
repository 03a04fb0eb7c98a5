/- What the law's own live answers: true. -/
import Derived.Test.YthnhnackidlncabCrOf
namespace Go.Proofs.Ythnhnackidlncab
open Go.RowKit
def sHi : ByteArray := ⟨#[104, 105]⟩
def sAbc : ByteArray := ⟨#[97, 98, 99]⟩
def sAbcd : ByteArray := ⟨#[97, 98, 99, 100]⟩
def sNine : ByteArray := ⟨#[49, 50, 51, 52, 53, 54, 55, 56, 57]⟩
theorem of_nine : Cr.sum (bt sNine) sNine.size = 3808858755 := by
  rw [show sNine.size = 9 from rfl, sum_congr (g := fun p => 49 + p) fun p hp => ?_, Cr.check9]
  rcases (show p = 0 ∨ p = 1 ∨ p = 2 ∨ p = 3 ∨ p = 4 ∨ p = 5 ∨ p = 6 ∨ p = 7 ∨ p = 8 by omega) with rfl | rfl | rfl | rfl | rfl | rfl | rfl | rfl | rfl <;> decide +kernel
theorem of_none : Cr.sum (bt ByteArray.empty) ByteArray.empty.size = 0 := by decide +kernel
theorem opE_abc : opE sAbc = 3 := rfl
theorem opE_abcd : opE sAbcd = 5 := by
  unfold opE
  rw [if_neg (by decide), if_neg]
  rw [sealed_iff (by decide)]
  decide +kernel
set_option maxRecDepth 100000 in
set_option maxHeartbeats 2000000 in
theorem live_any (w : World) : Calls Try.prog 9 #[] w fun e w' => e = .returned (.bool true) ∧ Below w.heap.size w w' := by
  go_enter Try.func9, Try.ntmps9
  go_wp2_with fail
  refine (seal_any sHi w (by decide)).mono ?_
  rintro e w1 ⟨rfl, hb1⟩
  have HB1 := hide hb1
  have hz : (sealS sHi).size = 6 := sealS_size sHi
  clear hb1
  go_wp2_with fail
  refine (open_any (sealS sHi) w1 (by omega)).mono ?_
  rw [opT_seal, opE_seal]
  rintro e w2 ⟨rfl, hb2⟩
  have HB2 := hide (HB1.out.trans (hb2.mono HB1.out.size))
  clear hb2 HB1
  go_wp2_with fail
  refine (open_any sAbc w2 (by decide)).mono ?_
  rw [opE_abc]
  rintro e w3 ⟨rfl, hb3⟩
  have HB3 := hide (HB2.out.trans (hb3.mono HB2.out.size))
  clear hb3 HB2
  go_wp2_with fail
  refine (open_any sAbcd w3 (by decide)).mono ?_
  rw [opE_abcd]
  rintro e w4 ⟨rfl, hb4⟩
  have HB4 := hide (HB3.out.trans (hb4.mono HB3.out.size))
  clear hb4 HB3
  go_wp2_with fail
  refine (of_any sNine w4 (by decide)).mono ?_
  rw [of_nine]
  rintro e w5 ⟨rfl, hb5⟩
  have HB5 := hide (HB4.out.trans (hb5.mono HB4.out.size))
  clear hb5 HB4
  go_wp2_with fail
  refine (of_any ByteArray.empty w5 (by decide)).mono ?_
  rw [of_none]
  rintro e w6 ⟨rfl, hb6⟩
  have HB6 := hide (HB5.out.trans (hb6.mono HB5.out.size))
  clear hb6 HB5
  have hhi : sHi.toList = [104, 105] := by rw [ByteArray.toList_eq]; rfl
  go_wp2_with fail
  go_ret
  exact ⟨rfl, HB6.out⟩
end Go.Proofs.Ythnhnackidlncab
