/- Blocks of one-cell values in memory, told by a function. No function of the program and no type's number stands here. (For seats without field.Table: in the place of Mem's second part.) -/
import Derived.Test.YtlpibpkbgmcclaaDoorBase
import Derived.Deep.MidRow
namespace Go.Proofs.YtlpibpkbgmcclaaDoor
open Go.RowKit
/-- a store into a block of cells -/
theorem block_setCell {w : World} {b i : Nat} {c : Array Value} {t : TypeId} (u : Value) (h : w.heap[b]? = some (.cells c t (0, 0))) :
    (w.setCell ⟨b, i, none⟩ u).heap[b]? = some (.cells (c.setIfInBounds i u) t (0, 0)) := by
  have hlt := lt_of_block h
  have h' : w.heap[b] = .cells c t (0, 0) := by simpa [Array.getElem?_eq_getElem hlt] using h
  show (w.heap.modify b _)[b]? = _
  rw [Array.getElem?_eq_getElem (by simpa using hlt), Array.getElem_modify_self, h']
  rfl
theorem free_of_block {w : World} {b i : Nat} {c : Array Value} {t : TypeId} (h : w.heap[b]? = some (.cells c t (0, 0))) : w.frozen? ⟨b, i, none⟩ = false := by simp [World.frozen?, h]
theorem cell_of_block {w : World} {b i : Nat} {c : Array Value} {t : TypeId} (h : w.heap[b]? = some (.cells c t (0, 0))) : w.cell? ⟨b, i, none⟩ = c[i]? := by simp [World.cell?, h]
/-- n one-cell values in a block of their own -/
def fnC (n : Nat) (g : Nat → Value) : Array Value := Array.ofFn (n := n) fun i => g i.val
theorem fnC_size (n : Nat) (g : Nat → Value) : (fnC n g).size = n := by simp [fnC]
theorem fnC_at {n : Nat} (g : Nat → Value) {p : Nat} (hp : p < n) : (fnC n g)[p]? = some (g p) := by simp [fnC, hp]
theorem fnC_none {n : Nat} (g : Nat → Value) {p : Nat} (hp : ¬ p < n) : (fnC n g)[p]? = none := by simp [fnC, hp]
theorem fnC_set {n : Nat} (g : Nat → Value) (p : Nat) (x : Value) : (fnC n g).setIfInBounds p x = fnC n (fun q => if q = p then x else g q) := by
  apply Array.ext_getElem?
  intro i
  rw [Array.getElem?_setIfInBounds, fnC_size]
  by_cases hi : i < n
  · rw [fnC_at _ hi, fnC_at _ hi]
    by_cases e : p = i
    · subst e; rw [if_pos rfl, if_pos hi, if_pos rfl]
    · rw [if_neg e, if_neg (fun h => e h.symm)]
  · rw [fnC_none _ hi, fnC_none _ hi]
    by_cases e : p = i
    · rw [if_pos e, if_neg (by omega)]
    · rw [if_neg e]
theorem fnC_congr {n : Nat} {g g' : Nat → Value} (e : ∀ p, p < n → g p = g' p) : fnC n g = fnC n g' := by
  unfold fnC; congr 1; funext i; rw [e i.val i.isLt]
theorem fnC_made (n : Nat) (z : Value) : madeCells #[z] n = fnC n (fun _ => z) := by
  apply Array.ext
  · simp [fnC, size_madeCells]
  · intro i h1 h2
    simp [madeCells, fnC, Nat.mod_one]
theorem fnC_rep (n : Nat) (z : Value) : Array.replicate n z = fnC n (fun _ => z) := by
  apply Array.ext
  · simp [fnC]
  · intro i h1 h2
    simp [fnC]
theorem fnC_one {n : Nat} {g : Nat → Value} (h : ∀ p, p < n → (g p).oneCell' = true) : (fnC n g).all (·.oneCell') = true := by
  rw [Array.all_eq_true]
  intro i hi
  have hi' : i < n := by simpa [fnC] using hi
  simpa [fnC] using h i hi'
def FnAt (w : World) (b : Nat) (t : TypeId) (n : Nat) (g : Nat → Value) : Prop := w.heap[b]? = some (.cells (fnC n g) t (0, 0))
theorem FnAt.cell {w : World} {b : Nat} {t : TypeId} {n : Nat} {g : Nat → Value} (h : FnAt w b t n g) {p : Nat} (hp : p < n) : w.cell? ⟨b, p, none⟩ = some (g p) := (cell_of_block h).trans (fnC_at g hp)
theorem FnAt.free {w : World} {b : Nat} {t : TypeId} {n : Nat} {g : Nat → Value} (h : FnAt w b t n g) (p : Nat) : w.frozen? ⟨b, p, none⟩ = false := free_of_block h
theorem FnAt.set {w : World} {b : Nat} {t : TypeId} {n : Nat} {g : Nat → Value} (h : FnAt w b t n g) (p : Nat) (x : Value) : FnAt (w.setCell ⟨b, p, none⟩ x) b t n (fun q => if q = p then x else g q) := by
  unfold FnAt; rw [block_setCell _ h, fnC_set]
theorem FnAt.congr {w : World} {b : Nat} {t : TypeId} {n : Nat} {g g' : Nat → Value} (h : FnAt w b t n g) (e : ∀ p, p < n → g p = g' p) : FnAt w b t n g' := by
  unfold FnAt at *; rw [h, fnC_congr e]
theorem FnAt.other {w : World} {b : Nat} {t : TypeId} {n : Nat} {g : Nat → Value} (h : FnAt w b t n g) {a : Addr} (hne : b ≠ a.block) (u : Value) : FnAt (w.setCell a u) b t n g := by
  unfold FnAt at *; rw [Below.heap_setCell _ _ _ _ hne]; exact h
theorem FnAt.alloc {w : World} {b : Nat} {t : TypeId} {n : Nat} {g : Nat → Value} (h : FnAt w b t n g) (o : Obj) : FnAt (w.alloc o) b t n g := by
  unfold FnAt at *; rw [Below.heap_alloc _ _ _ (lt_of_block h)]; exact h
theorem FnAt.below {w w' : World} {b B : Nat} {t : TypeId} {n : Nat} {g : Nat → Value} (h : FnAt w b t n g) (hb : Below B w w') (hB : b < B) : FnAt w' b t n g := by
  unfold FnAt at *; rw [hb.block b hB]; exact h
theorem FnAt.drewN {w : World} {b : Nat} {t : TypeId} {n : Nat} {g : Nat → Value} (h : FnAt w b t n g) (k : Nat) : FnAt (w.drewN k) b t n g := h
theorem FnAt.lt {w : World} {b : Nat} {t : TypeId} {n : Nat} {g : Nat → Value} (h : FnAt w b t n g) : b < w.heap.size := lt_of_block h
theorem FnAt.put {w : World} {b : Nat} {t : TypeId} {n : Nat} {g : Nat → Value} (h : FnAt w b t n g) (g' : Nat → Value) : FnAt (w.setRow b (fnC n g')) b t n g' := setRow_heap w b _ _ _ _ h
theorem FnAt.putOther {w : World} {b c : Nat} {t : TypeId} {n : Nat} {g : Nat → Value} (h : FnAt w b t n g) (hne : b ≠ c) (cs : Array Value) : FnAt (w.setRow c cs) b t n g := by
  unfold FnAt at *; rw [setRow_other _ _ _ _ hne]; exact h
end Go.Proofs.YtlpibpkbgmcclaaDoor
