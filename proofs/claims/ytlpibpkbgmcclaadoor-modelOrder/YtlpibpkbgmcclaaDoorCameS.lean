/- A law's arguments as they came in: a slice of strings, read as a list. (For seats without code: in the place of CdOpen.) -/
import Derived.Test.YtlpibpkbgmcclaaDoorBase
import Derived.SliceStrings
import Derived.ChangeSlices
namespace Go.Proofs.YtlpibpkbgmcclaaDoor
open Go.RowKit
/-- a slice of strings that reads as the list l -/
def StrsAt (w : World) (a : Option Addr) (l : List ByteArray) : Prop := l = [] ∨ ∃ b o, a = some ⟨b, o, none⟩ ∧ b < w.heap.size ∧ ∀ i s, l[i]? = some s → w.cell? ⟨b, o + i, none⟩ = some (.string s)
/-- what a law knows of a slice that came in -/
def Came (t : TypeId) (w : World) (a : Option Addr) (l c : Nat) : Prop := ∃ (H : Type) (enc : TypeId × Value → H) (d : DataW H) (ps : List MemPlace), DataW.Trod enc Tryd.prog w 0 (fun _ => true) true t (.slice a l c) d ps
theorem plain_addr {w : World} {a : Addr} {v : Value} (h : w.cell? (a.add 0) = some v) : a = ⟨a.block, a.off, none⟩ ∧ a.block < w.heap.size := by
  rw [show a.add 0 = a from rfl] at h
  unfold World.cell? at h
  split at h
  · next c _ _ e =>
    split at h
    · cases h
    · next hs =>
      refine ⟨?_, lt_of_block e⟩
      cases a with
      | mk b o s => cases s with
        | none => rfl
        | some _ => simp at hs
  · cases h
theorem add_plain (b o i : Nat) : (⟨b, o, none⟩ : Addr).add i = ⟨b, o + i, none⟩ := by
  unfold Addr.add
  split
  · next h => subst h; rfl
  · rfl
theorem came_strs {w : World} {a : Option Addr} {l c : Nat} (h : Came 30 w a l c) : ∃ ls : List ByteArray, ls.length = l ∧ l ≤ c ∧ l ≤ 9223372036854775807 ∧ StrsAt w a ls := by
  obtain ⟨H, enc, d, ps, fuel, hf⟩ := h
  rcases Go.ChangeShapes.open_strings Tryd.underlying30 Tryd.underlying9 (by kernel_rfl) hf with ⟨hcs, _⟩ | ⟨x, l', c', ss, hcs, _, hl, hm, hz, _, hcell, _⟩
  · simp [Value.cells] at hcs
    obtain ⟨rfl, rfl, rfl⟩ := hcs
    exact ⟨[], rfl, by omega, by omega, .inl rfl⟩
  · simp [Value.cells] at hcs
    obtain ⟨rfl, rfl, rfl⟩ := hcs
    simp only [if_true] at hz
    unfold maxLen at hm
    refine ⟨ss.take l, by rw [List.length_take]; omega, hl, by omega, ?_⟩
    by_cases h0 : l = 0
    · exact .inl (by subst h0; rfl)
    · obtain ⟨e, hb⟩ := plain_addr (hcell 0 (by omega))
      refine .inr ⟨x.block, x.off, by rw [← e], hb, fun i s hs => ?_⟩
      have hi : i < l := by have := (List.getElem?_eq_some_iff.1 hs).1; rw [List.length_take] at this; omega
      rw [List.getElem?_take, if_pos hi] at hs
      have := hcell i (by omega)
      rw [e, add_plain] at this
      rw [this, List.getD_eq_getElem?_getD, hs]; rfl
theorem StrsAt.below {w w' : World} {a : Option Addr} {l : List ByteArray} (h : StrsAt w a l) (hb : Below w.heap.size w w') : StrsAt w' a l := by
  rcases h with h | ⟨b, o, ha, hlt, hc⟩
  · exact .inl h
  · exact .inr ⟨b, o, ha, Nat.lt_of_lt_of_le hlt hb.size, fun i s hs => (hb.cell (p := ⟨b, o + i, none⟩) hlt).trans (hc i s hs)⟩
end Go.Proofs.YtlpibpkbgmcclaaDoor
