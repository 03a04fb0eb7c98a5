/- Lemmas for sluicegateref03.filled: the text filled up, byte by byte, in a row of its own. No walk stands here yet. -/
import Derived.Test.YtomcdajoeakhdaaDoorShFin
import Derived.Laws.IdiomStrings
namespace Go.Proofs.YtomcdajoeakhdaaDoor
open Go.RowKit
/-- the filled text, while zeros are put -/
def FlRel (w wr : World) (f : Nat → Nat) (v : Value) (k : Nat) : Prop := wr.ownsRow w.heap.size 5 1 v k (bys f k) ∧ Below w.heap.size w wr
theorem flRel_step {w wr w1 : World} {f : Nat → Nat} {v v' : Value} {k x : Nat} {o : Obj} (h : FlRel w wr f v k) (hx : x = f k) (hown : w1.ownsRow w.heap.size 5 1 v' (k + 1) (bys f k ++ [.int .u8 (x : Int)])) (hgr : (wr.alloc o).grownBy w1 v.ownBlock) : FlRel w w1 f v' (k + 1) := by
  refine ⟨by rw [bys_succ, ← hx]; exact hown, ?_⟩
  refine Below.grown (h.2.alloc h.2.size o) hgr ?_ fun g hg => row_base h.1 hg
  rw [World.size_alloc]
  exact Nat.le_succ_of_le h.2.size
theorem fb_mark (f : Nat → Nat) (n : Nat) : Sh.fb f n n = 128 := by unfold Sh.fb; rw [if_neg (by omega), if_pos rfl]
theorem fb_zero {f : Nat → Nat} {n p : Nat} (h : n < p) (h2 : p < Sh.fl n - 8) : Sh.fb f n p = 0 := by unfold Sh.fb; rw [if_neg (by omega), if_neg (by omega), if_pos h2]
theorem fb_len {f : Nat → Nat} {n p : Nat} (h : n < p) (h2 : Sh.fl n - 8 ≤ p) : Sh.fb f n p = (8 * n) >>> (8 * (Sh.fl n - 1 - p)) % 256 := by unfold Sh.fb; rw [if_neg (by omega), if_neg (by omega), if_neg (by omega)]
theorem fl_mod (n : Nat) : Sh.fl n % 64 = 0 ∧ n + 9 ≤ Sh.fl n ∧ Sh.fl n < n + 73 := by unfold Sh.fl; omega
end Go.Proofs.YtomcdajoeakhdaaDoor
