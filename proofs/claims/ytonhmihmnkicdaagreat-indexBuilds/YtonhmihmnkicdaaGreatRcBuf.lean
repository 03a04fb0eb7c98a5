/- A writer (a struct that embeds strings.Builder) in memory; what WriteString and String answer on it. -/
import Derived.Test.YtonhmihmnkicdaaGreatRcMem
import Derived.Lib.Builder
import Derived.Lib.AppendStr
import Derived.Lib.UnsafeStr
import Derived.Laws.Externs
import Derived.Shelf.RegionOpenPlain
namespace Go.Proofs.YtonhmihmnkicdaaGreat
open Go.RowKit Go.Shelf
set_option linter.unusedVariables false
/-- what a write leaves -/
structure Kw (B b : Nat) (w w' : World) : Prop where
  low : Below B w w'
  keep : ∀ (k : Nat) (cs : Array Value) (t : TypeId) (fr : Nat × Nat), k ≠ b → t ≠ 5 → w.heap[k]? = some (.cells cs t fr) → w'.heap[k]? = some (.cells cs t fr)
theorem Kw.refl (B b : Nat) (w : World) : Kw B b w w := ⟨Below.refl _ _, fun _ _ _ _ _ _ h => h⟩
theorem Kw.trans {B b : Nat} {u v w : World} (h : Kw B b u v) (k : Kw B b v w) : Kw B b u w := ⟨h.low.trans k.low, fun i cs t fr h1 h2 h3 => k.keep i cs t fr h1 h2 (h.keep i cs t fr h1 h2 h3)⟩
theorem Kw.of_below {B b : Nat} {w w' : World} (h : Below w.heap.size w w') (hB : B ≤ w.heap.size) : Kw B b w w' := ⟨h.mono hB, fun k cs t fr _ _ e => (h.block k (lt_of_block e)).trans e⟩
theorem Kw.size {B b : Nat} {w w' : World} (h : Kw B b w w') : w.heap.size ≤ w'.heap.size := h.low.size
theorem wt_cells : Tryz.prog.cellsOf 5 = 1 := by kernel_rfl
theorem cells_app (s t : ByteArray) : Lib.byteCells s.data.toList ++ Lib.strCells t = Lib.byteCells (s ++ t).data.toList := by
  rw [Lib.strCells_eq, ← Lib.byteCells_append]
  congr 1
end Go.Proofs.YtonhmihmnkicdaaGreat
