/- Rows of strings of one's own: grown by append, written in place. -/
import Derived.Test.YtaiafbihcfbglaaRpLaws
namespace Go.Proofs.Ytaiafbihcfbglaa
open Go.RowKit
set_option linter.unusedVariables false
theorem str_info : (Try.prog.info? 9).map (fun i => (i.zero, i.size, i.bytes)) = some (some (.string ByteArray.empty), 1, 16) := by kernel_rfl
def stV (l : List ByteArray) : List Value := l.map Value.string
theorem stV_len (l : List ByteArray) : (stV l).length = l.length * 1 := by simp [stV]
theorem stV_one (l : List ByteArray) : ∀ u ∈ stV l, u.oneCell' = true := by
  intro u hu
  unfold stV at hu
  rw [List.mem_map] at hu
  obtain ⟨x, _, rfl⟩ := hu
  rfl
theorem stV_snoc (l : List ByteArray) (x : ByteArray) : stV (l ++ [x]) = stV l ++ [.string x] := by simp [stV]
theorem StrsAt.news {w : World} {b o : Nat} {l : List ByteArray} (h : StrsAt w (some ⟨b, o, none⟩) l) : ∀ j u, (stV l)[j]? = some u → w.cell? ((⟨b, o, none⟩ : Addr).add j) = some u := by
  intro j u hj
  unfold stV at hj
  rw [List.getElem?_map] at hj
  rcases h with h | ⟨b', o', e, _, hc⟩
  · rw [h] at hj; simp at hj
  · cases e
    cases hs : l[j]? with
    | none => rw [hs] at hj; simp at hj
    | some s =>
      rw [hs] at hj
      simp at hj
      subst hj
      rw [add_plain]
      exact hc j s hs
theorem StrsAt.take {w : World} {a : Option Addr} {l : List ByteArray} (h : StrsAt w a l) (n : Nat) : StrsAt w a (l.take n) := by
  rcases h with h | ⟨b, o, e, hlt, hc⟩
  · exact .inl (by rw [h]; simp)
  · refine .inr ⟨b, o, e, hlt, fun i s hs => hc i s ?_⟩
    rw [List.getElem?_take] at hs
    split at hs
    · exact hs
    · cases hs
theorem below_of_grown {w w' : World} (h : w.grownBy w' none) : Below w.heap.size w w' := (Below.refl _ _).grown h (Nat.le_refl _) (fun k h => by cases h)
/-- the first cells of the block g are these strings -/
def SB (g : Nat) (l : List ByteArray) (w : World) : Prop := ∃ cur, w.heap[g]? = some (.cells cur 9 (0, 0)) ∧ ∀ (i : Nat) (s : ByteArray), l[i]? = some s → cur[i]? = some (Value.string s)
theorem SB.lt {g : Nat} {l : List ByteArray} {w : World} (h : SB g l w) : g < w.heap.size := by obtain ⟨cur, h, _⟩ := h; exact lt_of_block h
theorem SB.cell {g : Nat} {l : List ByteArray} {w : World} (h : SB g l w) {i : Nat} {s : ByteArray} (hs : l[i]? = some s) : w.cell? ⟨g, i, none⟩ = some (.string s) := by
  obtain ⟨cur, h, hc⟩ := h
  rw [cell_of_block h]
  exact hc i s hs
theorem SB.free {g : Nat} {l : List ByteArray} {w : World} (h : SB g l w) (i : Nat) : w.frozen? ⟨g, i, none⟩ = false := by obtain ⟨cur, h, _⟩ := h; exact free_of_block h
theorem SB.strs {g : Nat} {l : List ByteArray} {w : World} (h : SB g l w) : StrsAt w (some ⟨g, 0, none⟩) l := .inr ⟨g, 0, rfl, h.lt, fun i s hs => by rw [Nat.zero_add]; exact h.cell hs⟩
theorem SB.below {g B : Nat} {l : List ByteArray} {w w' : World} (h : SB g l w) (hb : Below B w w') (hB : g < B) : SB g l w' := by
  obtain ⟨cur, h, hc⟩ := h
  exact ⟨cur, (hb.block g hB).trans h, hc⟩
theorem SB.set {g : Nat} {l : List ByteArray} {w : World} (h : SB g l w) (p : Nat) (x : ByteArray) : SB g (l.set p x) (w.setCell ⟨g, p, none⟩ (.string x)) := by
  obtain ⟨cur, h, hc⟩ := h
  refine ⟨_, block_setCell _ h, fun i s hs => ?_⟩
  rw [List.getElem?_set] at hs
  by_cases e : p = i
  · subst e
    rw [if_pos rfl] at hs
    split at hs
    · next hlt =>
      cases hs
      have : p < cur.size := by
        have := hc p l[p] (List.getElem?_eq_getElem hlt)
        exact (Array.getElem?_eq_some_iff.1 this).1
      rw [Array.getElem?_setIfInBounds, if_pos rfl, if_pos this]
    · cases hs
  · rw [if_neg e] at hs
    rw [Array.getElem?_setIfInBounds, if_neg e]
    exact hc i s hs
/-- an own row that is not empty -/
theorem row_sb {w : World} {base n : Nat} {v : Value} {l : List ByteArray} (h : w.ownsRow base 9 1 v n (stV l)) (hn : l.length = n) (h0 : n ≠ 0) : ∃ g cap, v = .slice (some ⟨g, 0, none⟩) n cap ∧ base ≤ g ∧ n ≤ cap ∧ cap ≤ 9223372036854775807 ∧ SB g l w := by
  obtain ⟨hl, ⟨rfl, e⟩ | ⟨g, cap, cur, rfl, hB, hg, hc, hm, hs, ht⟩⟩ := h
  · exact absurd e h0
  · unfold maxLen at hm
    refine ⟨g, cap, rfl, hB, hc, hm, cur, hg, fun i s hs => ?_⟩
    have h1 : (stV l)[i]? = some (.string s) := by unfold stV; rw [List.getElem?_map, hs]; exact rfl
    rw [← ht, List.getElem?_take] at h1
    split at h1
    · rw [← h1, Array.getElem?_toList]
    · cases h1
theorem came_str_cap {w : World} {a : Option Addr} {l c : Nat} (h : Came 22 w a l c) : l ≤ c ∧ c ≤ 9223372036854775807 := by
  obtain ⟨H, enc, d, ps, fuel, hf⟩ := h
  rcases Go.ChangeShapes.open_strings Try.underlying22 Try.underlying9 (by kernel_rfl) hf with ⟨hcs, _⟩ | ⟨x, l', c', ss, hcs, _, hl, hm, _⟩
  · simp [Value.cells] at hcs
    obtain ⟨rfl, rfl, rfl⟩ := hcs
    omega
  · simp [Value.cells] at hcs
    obtain ⟨rfl, rfl, rfl⟩ := hcs
    unfold maxLen at hm
    omega
end Go.Proofs.Ytaiafbihcfbglaa
