/- What the document's Number, Text answer. -/
import Derived.Test.YtlpibpkbgmcclaaDoorPkReader
namespace Go.Proofs.YtlpibpkbgmcclaaDoor
open Go.RowKit
theorem one_at (x b : Nat) (w : World) (h : w.cell? ⟨b, 0, none⟩ = some (.int .u8 (x : Int))) : (convert 48 9 (.slice (some ⟨b, 0, none⟩) 1 1)).run Tryd.prog w = .ok (.string (mkS 1 fun _ => x)) w := by
  refine run_convert_bytes_arg w 48 5 Tryd.underlying48 Tryd.underlying5 b 0 1 1 _ (by simp) (fun i hi => ?_) 9 Tryd.underlying9
  obtain rfl : i = 0 := by omega
  rw [Nat.zero_add, h]
  rfl
theorem after_one {w w1 : World} {x : Nat} (h : Below (w.alloc (.cells #[.int .u8 (x : Int)] 5)).drew.heap.size (w.alloc (.cells #[.int .u8 (x : Int)] 5)).drew w1) : w1.cell? ⟨w.heap.size, 0, none⟩ = some (.int .u8 (x : Int)) :=
  cell_of_block (c := #[.int .u8 (x : Int)]) ((h.block w.heap.size (by show _ < (w.alloc _).heap.size; rw [World.size_alloc]; exact Nat.lt_succ_self _)).trans (heap_alloc_new _ _))
theorem below_one {w w1 : World} {o : Obj} (h : Below (w.alloc o).drew.heap.size (w.alloc o).drew w1) : Below w.heap.size w w1 :=
  ((Below.refl _ _).alloc (Nat.le_refl _) o).drew.trans (h.mono (by show _ ≤ (w.alloc o).heap.size; rw [World.size_alloc]; exact Nat.le_succ _))
theorem one_string (x : Nat) (w : World) : (convert 48 9 (.slice (some ⟨w.heap.size, 0, none⟩) 1 1)).run Tryd.prog (w.alloc (.cells #[.int .u8 (x : Int)] 5)) = .ok (.string (mkS 1 fun _ => x)) (w.alloc (.cells #[.int .u8 (x : Int)] 5)) :=
  one_at x _ _ (cell_of_block (c := #[.int .u8 (x : Int)]) (heap_alloc_new _ _))
end Go.Proofs.YtlpibpkbgmcclaaDoor
