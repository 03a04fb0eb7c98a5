/- What a writer's record answers. -/
import Derived.Test.YtonhmihmnkicdaaRcWrVol
namespace Go.Proofs.Ytonhmihmnkicdaa
open Go.RowKit
set_option linter.unusedVariables false
def HBx (bx : Nat) (b1 b2 b3 b4 : Bool) (w : World) : Prop := w.heap[bx]? = some (.cells #[.bool b1, .bool b2, .bool b3, .bool b4] 99 (0, 0))
theorem HBx.cells {bx : Nat} {b1 b2 b3 b4 : Bool} {w : World} (h : HBx bx b1 b2 b3 b4 w) : w.cell? ⟨bx, 0, none⟩ = some (.bool b1) ∧ w.cell? ⟨bx, 1, none⟩ = some (.bool b2) ∧ w.cell? ⟨bx, 2, none⟩ = some (.bool b3) ∧ w.cell? ⟨bx, 3, none⟩ = some (.bool b4) := ⟨cell_of_block h, cell_of_block h, cell_of_block h, cell_of_block h⟩
theorem HBx.below {bx : Nat} {b1 b2 b3 b4 : Bool} {w w' : World} (h : HBx bx b1 b2 b3 b4 w) (hb : Below w.heap.size w w') : HBx bx b1 b2 b3 b4 w' := (hb.block bx (lt_of_block h)).trans h
theorem HBx.kw {bx B b : Nat} {b1 b2 b3 b4 : Bool} {w w' : World} (k : HBx bx b1 b2 b3 b4 w) (h : Kw B b w w') (hne : bx ≠ b) : HBx bx b1 b2 b3 b4 w' := h.keep _ _ _ _ hne (by decide) k
end Go.Proofs.Ytonhmihmnkicdaa
