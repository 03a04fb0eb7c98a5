/- What a writer's volume, entry and record answer. What a writer's record answers. -/
import Derived.Test.YtonhmihmnkicdaaGreatRcNums
namespace Go.Proofs.YtonhmihmnkicdaaGreat
open Go.RowKit
set_option linter.unusedVariables false
theorem RBx.kw {bx B b : Nat} {t : TypeId} {r : Rc} {a : Option Addr} {c : Nat} {w w' : World} (k : RBx bx t r a c w) (h : Kw B b w w') (hne : bx ≠ b) (ht : t ≠ 5) : RBx bx t r a c w' := h.keep _ _ _ _ hne ht k
theorem kw_alloc {B b : Nat} {w : World} (o : Obj) (hB : B ≤ w.heap.size) : Kw B b w (w.alloc o) := Kw.of_below ((Below.refl _ _).alloc (Nat.le_refl _) _) hB
theorem locB_8 : ∀ l : List (Int × Int), (locB l).size ≤ 16 * l.length
  | [] => by simp [locB]
  | x :: l => by
    show (numI x.1 ++ (numI x.2 ++ locB l)).size ≤ 16 * (l.length + 1)
    rw [ByteArray.size_append, ByteArray.size_append]
    have := numI_8 x.1
    have := numI_8 x.2
    have := locB_8 l
    omega
theorem locB_step {l : List (Int × Int)} {k : Nat} {x : Int × Int} (h : l[k]? = some x) : locB (l.take (k + 1)) = locB (l.take k) ++ (numI x.1 ++ numI x.2) := by rw [List.take_add_one, h]; exact locB_snoc _ _
def EBx (bx : Nat) (ek : ByteArray) (ev eo el : Int) (ed : ByteArray) (w : World) : Prop := w.heap[bx]? = some (.cells #[.string ek, .int .i64 ev, .int .i64 eo, .int .i64 el, .string ed] 38 (0, 0))
end Go.Proofs.YtonhmihmnkicdaaGreat
namespace Go.Proofs.YtonhmihmnkicdaaGreat
open Go.RowKit
set_option linter.unusedVariables false
def HBx (bx : Nat) (b1 b2 b3 b4 : Bool) (w : World) : Prop := w.heap[bx]? = some (.cells #[.bool b1, .bool b2, .bool b3, .bool b4] 95 (0, 0))
theorem HBx.cells {bx : Nat} {b1 b2 b3 b4 : Bool} {w : World} (h : HBx bx b1 b2 b3 b4 w) : w.cell? ⟨bx, 0, none⟩ = some (.bool b1) ∧ w.cell? ⟨bx, 1, none⟩ = some (.bool b2) ∧ w.cell? ⟨bx, 2, none⟩ = some (.bool b3) ∧ w.cell? ⟨bx, 3, none⟩ = some (.bool b4) := ⟨cell_of_block h, cell_of_block h, cell_of_block h, cell_of_block h⟩
theorem HBx.below {bx : Nat} {b1 b2 b3 b4 : Bool} {w w' : World} (h : HBx bx b1 b2 b3 b4 w) (hb : Below w.heap.size w w') : HBx bx b1 b2 b3 b4 w' := (hb.block bx (lt_of_block h)).trans h
theorem HBx.kw {bx B b : Nat} {b1 b2 b3 b4 : Bool} {w w' : World} (k : HBx bx b1 b2 b3 b4 w) (h : Kw B b w w') (hne : bx ≠ b) : HBx bx b1 b2 b3 b4 w' := h.keep _ _ _ _ hne (by decide) k
end Go.Proofs.YtonhmihmnkicdaaGreat
