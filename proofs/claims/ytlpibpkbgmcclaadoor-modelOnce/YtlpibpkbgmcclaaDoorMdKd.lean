/- What the model's walks ask of the world: the digest's constants, and the table of the powers of ten. -/
import Derived.Test.YtlpibpkbgmcclaaDoorShMixed
import Derived.Lib.LaidTab
import Derived.Lib.ItoaNum
namespace Go.Proofs.YtlpibpkbgmcclaaDoor
open Go.RowKit
theorem tab_below {P : Program} {w w' : World} {name : String} {k : IntKind} {zs : List Int} (h : Lib.TabIs P w name k zs) (hb : Below w.heap.size w w') : Lib.TabIs P w' name k zs := by
  unfold Lib.TabIs World.var? at h ⊢
  cases hg : P.globalNamed name with
  | none => rw [hg] at h; cases h
  | some g =>
    rw [hg] at h
    simp only [Option.bind_some] at h ⊢
    cases hc : w.heap[g]? with
    | none => rw [hc] at h; cases h
    | some o => rw [hb.block g (by rcases Nat.lt_or_ge g w.heap.size with q | q; exact q; rw [Array.getElem?_eq_none q] at hc; cases hc), hc]; rw [hc] at h; exact h
structure KM (w : World) : Prop where
  k : KAt w
  tab : Lib.TabIs Tryd.prog w "internal/strconv.uint64pow10" .u64 Lib.pow10Tab
theorem KM.below {w w' : World} (h : KM w) (hb : Below w.heap.size w w') : KM w' := ⟨h.k.below hb, tab_below h.tab hb⟩
end Go.Proofs.YtlpibpkbgmcclaaDoor
