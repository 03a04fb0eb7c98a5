/- A law's arguments as they came in: a slice of strings, read as a list. (For seats without code: in the place of CdOpen.) -/
import Derived.Test.YtghcekhlohgkaaaBase
import Derived.SliceStrings
import Derived.ChangeSlices
namespace Go.Proofs.Ytghcekhlohgkaaa
open Go.RowKit
/-- a slice of strings that reads as the list l -/
def StrsAt (w : World) (a : Option Addr) (l : List ByteArray) : Prop := l = [] ∨ ∃ b o, a = some ⟨b, o, none⟩ ∧ b < w.heap.size ∧ ∀ i s, l[i]? = some s → w.cell? ⟨b, o + i, none⟩ = some (.string s)
/-- what a law knows of a slice that came in -/
def Came (t : TypeId) (w : World) (a : Option Addr) (l c : Nat) : Prop := ∃ (H : Type) (enc : TypeId × Value → H) (d : DataW H) (ps : List MemPlace), DataW.Trod enc Try.prog w 0 (fun _ => true) true t (.slice a l c) d ps
theorem plain_addr {w : World} {a : Addr} {v : Value} (h : w.cell? (a.add 0) = some v) : a = ⟨a.block, a.off, none⟩ ∧ a.block < w.heap.size := by
  rw [show a.add 0 = a from rfl] at h
  unfold World.cell? at h
  split at h
  · next c _ _ e =>
    split at h
    · cases h
    · next hs =>
      refine ⟨?_, lt_of_block e⟩
      cases a with
      | mk b o s => cases s with
        | none => rfl
        | some _ => simp at hs
  · cases h
theorem add_plain (b o i : Nat) : (⟨b, o, none⟩ : Addr).add i = ⟨b, o + i, none⟩ := by
  unfold Addr.add
  split
  · next h => subst h; rfl
  · rfl
theorem StrsAt.below {w w' : World} {a : Option Addr} {l : List ByteArray} (h : StrsAt w a l) (hb : Below w.heap.size w w') : StrsAt w' a l := by
  rcases h with h | ⟨b, o, ha, hlt, hc⟩
  · exact .inl h
  · exact .inr ⟨b, o, ha, Nat.lt_of_lt_of_le hlt hb.size, fun i s hs => (hb.cell (p := ⟨b, o + i, none⟩) hlt).trans (hc i s hs)⟩
end Go.Proofs.Ytghcekhlohgkaaa
