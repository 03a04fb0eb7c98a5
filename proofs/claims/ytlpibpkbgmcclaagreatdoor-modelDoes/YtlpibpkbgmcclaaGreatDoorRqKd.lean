/- What the walks ask of the world: the table of the powers of ten, and that the library's variable MaxLen holds a number. -/
import Derived.Test.YtlpibpkbgmcclaaGreatDoorBaseX
import Derived.Lib.LaidTab
import Derived.Lib.ItoaNum
namespace Go.Proofs.YtlpibpkbgmcclaaGreatDoor
open Go.RowKit
theorem tab_below {P : Program} {w w' : World} {name : String} {k : IntKind} {zs : List Int} (h : Lib.TabIs P w name k zs) (hb : Below w.heap.size w w') : Lib.TabIs P w' name k zs := by
  unfold Lib.TabIs World.var? at h ⊢
  cases hg : P.globalNamed name with
  | none => rw [hg] at h; cases h
  | some g =>
    rw [hg] at h
    simp only [Option.bind_some] at h ⊢
    cases hc : w.heap[g]? with
    | none => rw [hc] at h; cases h
    | some o => rw [hb.block g (by rcases Nat.lt_or_ge g w.heap.size with q | q; exact q; rw [Array.getElem?_eq_none q] at hc; cases hc), hc]; rw [hc] at h; exact h
end Go.Proofs.YtlpibpkbgmcclaaGreatDoor
