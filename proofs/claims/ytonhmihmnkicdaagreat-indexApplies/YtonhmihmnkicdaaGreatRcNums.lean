/- What a writer's numbers, volume, entry and record answer. -/
import Derived.Test.YtonhmihmnkicdaaGreatRcBuf
import Derived.Test.YtonhmihmnkicdaaGreatRcSmall
import Derived.Deep.RegionHeld3
import Derived.Lib.QuietBelow
namespace Go.Proofs.YtonhmihmnkicdaaGreat
open Go.RowKit
set_option linter.unusedVariables false
def numsB : List Int → ByteArray
  | [] => ByteArray.empty
  | x :: l => numI x ++ numsB l
theorem numsB_snoc : ∀ (l : List Int) (x : Int), numsB (l ++ [x]) = numsB l ++ numI x
  | [], x => by show numI x ++ ByteArray.empty = ByteArray.empty ++ _; rw [app_nil, nil_app]
  | y :: l, x => by show numI y ++ numsB (l ++ [x]) = numI y ++ numsB l ++ numI x; rw [numsB_snoc l x, bapp]
theorem numI_8 (n : Int) : (numI n).size ≤ 8 := by
  unfold numI
  split
  · simp
  · rw [numS_size]; exact nlen_top (by omega)
theorem numsB_size : ∀ l : List Int, (numsB l).size ≤ 8 * l.length
  | [] => by simp [numsB]
  | x :: l => by
    show (numI x ++ numsB l).size ≤ 8 * (l.length + 1)
    rw [ByteArray.size_append]
    have := numI_8 x
    have := numsB_size l
    omega
theorem take_step {l : List Int} {k : Nat} {x : Int} (h : l[k]? = some x) : numsB (l.take (k + 1)) = numsB (l.take k) ++ numI x := by rw [List.take_add_one, h]; exact numsB_snoc _ _
def intC (l : List Int) : Array Value := (l.map fun x => Value.int .i64 x).toArray
end Go.Proofs.YtonhmihmnkicdaaGreat
