/- What the law's own live answers: true. -/
import Derived.Test.YthepgheiohfhdaaCrOf
namespace Go.Proofs.Ythepgheiohfhdaa
open Go.RowKit
def sHi : ByteArray := ⟨#[104, 105]⟩
def sAbc : ByteArray := ⟨#[97, 98, 99]⟩
def sAbcd : ByteArray := ⟨#[97, 98, 99, 100]⟩
def sNine : ByteArray := ⟨#[49, 50, 51, 52, 53, 54, 55, 56, 57]⟩
theorem of_nine : Cr.sum (bt sNine) sNine.size = 3808858755 := by
  rw [show sNine.size = 9 from rfl, sum_congr (g := fun p => 49 + p) fun p hp => ?_, Cr.check9]
  rcases (show p = 0 ∨ p = 1 ∨ p = 2 ∨ p = 3 ∨ p = 4 ∨ p = 5 ∨ p = 6 ∨ p = 7 ∨ p = 8 by omega) with rfl | rfl | rfl | rfl | rfl | rfl | rfl | rfl | rfl <;> decide +kernel
theorem of_none : Cr.sum (bt ByteArray.empty) ByteArray.empty.size = 0 := by decide +kernel
theorem opE_abc : opE sAbc = 3 := rfl
theorem opE_abcd : opE sAbcd = 5 := by
  unfold opE
  rw [if_neg (by decide), if_neg]
  rw [sealed_iff (by decide)]
  decide +kernel
end Go.Proofs.Ythepgheiohfhdaa
