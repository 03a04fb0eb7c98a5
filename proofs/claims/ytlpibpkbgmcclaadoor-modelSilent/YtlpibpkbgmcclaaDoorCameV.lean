/- A law's arguments as they came in: a struct by value, opened into its cells. -/
import Derived.Test.YtlpibpkbgmcclaaDoorCameS
import Derived.Deep.Slices
import Derived.Deep.Fields
namespace Go.Proofs.YtlpibpkbgmcclaaDoor
open Go.RowKit
/-- a struct of n cells that came in -/
def CameV (t : TypeId) (n : Nat) (w : World) (v : Value) : Prop :=
  (∃ cs : Array Value, v = .agg cs ∧ cs.size = n) ∧ ∃ (H : Type) (enc : TypeId × Value → H) (d : DataW H) (ps : List MemPlace), DataW.Trod enc Tryd.prog w 0 (fun _ => true) true t v d ps
end Go.Proofs.YtlpibpkbgmcclaaDoor
