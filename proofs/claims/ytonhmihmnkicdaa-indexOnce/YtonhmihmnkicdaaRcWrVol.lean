/- What a writer's volume, entry and record answer. -/
import Derived.Test.YtonhmihmnkicdaaRcNums
namespace Go.Proofs.Ytonhmihmnkicdaa
open Go.RowKit
set_option linter.unusedVariables false
theorem RBx.kw {bx B b : Nat} {t : TypeId} {r : Rc} {a : Option Addr} {c : Nat} {w w' : World} (k : RBx bx t r a c w) (h : Kw B b w w') (hne : bx ≠ b) (ht : t ≠ 5) : RBx bx t r a c w' := h.keep _ _ _ _ hne ht k
theorem kw_alloc {B b : Nat} {w : World} (o : Obj) (hB : B ≤ w.heap.size) : Kw B b w (w.alloc o) := Kw.of_below ((Below.refl _ _).alloc (Nat.le_refl _) _) hB
theorem locB_8 : ∀ l : List (Int × Int), (locB l).size ≤ 16 * l.length
  | [] => by simp [locB]
  | x :: l => by
    show (numI x.1 ++ (numI x.2 ++ locB l)).size ≤ 16 * (l.length + 1)
    rw [ByteArray.size_append, ByteArray.size_append]
    have := numI_8 x.1
    have := numI_8 x.2
    have := locB_8 l
    omega
theorem locB_step {l : List (Int × Int)} {k : Nat} {x : Int × Int} (h : l[k]? = some x) : locB (l.take (k + 1)) = locB (l.take k) ++ (numI x.1 ++ numI x.2) := by rw [List.take_add_one, h]; exact locB_snoc _ _
def EBx (bx : Nat) (ek : ByteArray) (ev eo el : Int) (ed : ByteArray) (w : World) : Prop := w.heap[bx]? = some (.cells #[.string ek, .int .i64 ev, .int .i64 eo, .int .i64 el, .string ed] 31 (0, 0))
end Go.Proofs.Ytonhmihmnkicdaa
