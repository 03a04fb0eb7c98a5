/- Ranges over functions whose rounds write into boxes and own rows: what every such walk uses. No function of the program stands here. -/
import Derived.RangeFuncBox
import Derived.RangeFuncLeaves
import Derived.RangeFuncNested
import Derived.Shelf.Abstract
import Derived.WalkKit
import Derived.OwnWalkIn
import Derived.TacticsInMore
import Derived.LoopNIn
import Derived.LoopIn
import Derived.Stop.RegionWithIn
import Derived.Test.YtlpibpkbgmcclaaDoorRow
namespace Go.Proofs.YtlpibpkbgmcclaaDoor
open Go.RowKit Go.Shelf
set_option linter.unusedVariables false
attribute [local go_sem] Oper.semAt_some
/-- what a round keeps: all blocks below n₀ but one -/
def Kp (n₀ bi : Nat) (W W' : World) : Prop := W.heap.size ≤ W'.heap.size ∧ ∀ k, k < n₀ → k ≠ bi → W'.heap[k]? = W.heap[k]?
theorem Kp.refl (n₀ bi : Nat) (W : World) : Kp n₀ bi W W := ⟨Nat.le_refl _, fun _ _ _ => rfl⟩
theorem Kp.trans {n₀ bi : Nat} {A B C : World} (h : Kp n₀ bi A B) (k : Kp n₀ bi B C) : Kp n₀ bi A C :=
  ⟨Nat.le_trans h.1 k.1, fun i hi h1 => (k.2 i hi h1).trans (h.2 i hi h1)⟩
theorem Kp.cell {n₀ bi : Nat} {W W' : World} (h : Kp n₀ bi W W') {p : Addr} (h0 : p.block < n₀) (h1 : p.block ≠ bi) : W'.cell? p = W.cell? p :=
  World.cell?_of_block (h.2 p.block h0 h1)
theorem kp_put {n₀ bi : Nat} {w : World} (hn : n₀ ≤ w.heap.size) (W : World) (l : Nat) (o o' : Obj) (hl : w.heap.size ≤ l) (_ : W.heap[l]? = some o) (_ : o.isCells = false) (_ : o.isWalk = false) : Kp n₀ bi W (W.putObj l o') :=
  ⟨by simp, fun k hk _ => World.putObj_heap_other (by omega)⟩
theorem own_kept {W W' : World} {B z n : Nat} {e : TypeId} {v : Value} {xs : List Value} {row : Option Nat} (h : W.ownsRow B e z v n xs) (hg : W.grownBy W' row) (hr : ∀ r, row = some r → ∃ o : Obj, W.heap[r]? = some o ∧ o.isCells = false) : W'.ownsRow B e z v n xs := by
  refine h.kept hg ?_
  obtain ⟨_, ⟨rfl, rfl⟩ | ⟨g, cap, cur, rfl, _, hgg, _⟩⟩ := h
  · exact .inl rfl
  · right
    intro e
    obtain ⟨o, ho, hc⟩ := hr g e.symm
    rw [hgg] at ho
    cases ho
    cases hc
theorem below_grown {w W W' : World} {B : Nat} {row : Option Nat} (h : Below w.heap.size w W) (hg : W.grownBy W' row) (hr : ∀ r, row = some r → B ≤ r) (hB : w.heap.size ≤ B) (hz : B ≤ W.heap.size) : Below w.heap.size w W' :=
  ⟨hg.os.trans h.os, hg.tape.trans h.tape, hg.output.trans h.output, Nat.le_trans h.size hg.size, fun k hk => (hg.block k (by omega) fun e => by have := hr k e.symm; omega).trans (h.block k hk)⟩
theorem keeps_alloc (B : Nat) (W : World) (o : Obj) : KeepsFrom B W (W.alloc o) := ⟨by simp, fun k o' _ hk _ => (Below.heap_alloc _ _ _ (Array.getElem?_eq_some_iff.1 hk).1).trans hk⟩
theorem keeps_set (B : Nat) (W : World) {rb : Nat} (hrb : rb < B) (v : Value) : KeepsFrom B W (W.setCell ⟨rb, 0, none⟩ v) := ⟨by simp [World.setCell], fun k o' hB hk _ => (Below.heap_setCell _ _ _ _ (by show k ≠ rb; omega)).trans hk⟩
/-- Q, but nothing at a panic -/
def Calm (Q : Exit → Act → World → Prop) : Exit → Act → World → Prop
  | .panic _, _, _ => False
  | e, a, w => Q e a w
theorem calm_imp {Q : Exit → Act → World → Prop} : ∀ (e : Exit) (a : Act) (w : World), Calm Q e a w → Q e a w := fun e a w h => by
  cases e <;> first | exact h | exact (h : False).elim
theorem wpIn_calm {F : Fence} {n : Nat} {P : Program} {c : Code} {Q : Exit → Act → World → Prop} {a : Act} {w : World} (h : c.wpIn F n P (Calm Q) a w) : c.wpIn F n P Q a w :=
  wpIn_mono h calm_imp
theorem calm_normal {Q : Exit → Act → World → Prop} {a : Act} {w : World} (h : Q .normal a w) : Calm Q .normal a w := h
/-- what 'v = append(v, ..)' on a variable in a box leaves -/
structure Appd (W W' : World) (bi : Nat) (v : Value) : Prop where
  os : W'.os = W.os
  tape : W'.tape = W.tape
  output : W'.output = W.output
  size : W.heap.size ≤ W'.heap.size
  others : KeepsOthers W W'
  block : ∀ k, k < W.heap.size → some k ≠ v.ownBlock → k ≠ bi → W'.heap[k]? = W.heap[k]?
theorem appd {W w1 : World} {n₀ bi z : Nat} {t e : TypeId} {v v' : Value} {k m : Nat} {xs ys : List Value} {tmp : Obj}
    (hv : Boxed W bi t v) (hte : t ≠ e) (hrow : W.ownsRow n₀ e z v k xs) (hown' : w1.ownsRow n₀ e z v' m ys) (hgrow : (W.alloc tmp).grownBy w1 v.ownBlock) :
    Boxed w1 bi t v ∧ Boxed (w1.setCell ⟨bi, 0, none⟩ v') bi t v' ∧ (w1.setCell ⟨bi, 0, none⟩ v').ownsRow n₀ e z v' m ys ∧ Appd W (w1.setCell ⟨bi, 0, none⟩ v') bi v := by
  have hv1 : Boxed w1 bi t v := (hv.alloc tmp).kept hgrow (hv.not_row hte hrow)
  have hsz := hgrow.size
  rw [World.size_alloc] at hsz
  refine ⟨hv1, hv1.set v', hown'.kept (grownBy_setCell' w1 bi v') (.inr (hv1.not_row hte hown').symm), hgrow.os, hgrow.tape, hgrow.output, ?_, ?_, ?_⟩
  · simp [World.setCell]; omega
  · refine ((KeepsOthers.alloc W tmp).trans (KeepsOthers.of_grownBy hgrow fun j o ej hj => ?_)).trans (KeepsOthers.setCell _ _ _)
    rcases (hrow.alloc tmp).2 with ⟨rfl, _⟩ | ⟨g, cap, cur, rfl, _, hgb, _⟩
    · simp [Value.ownBlock] at ej
    · obtain rfl : g = j := by simpa [Value.ownBlock] using ej
      rw [hgb] at hj; cases hj; rfl
  · intro j hj h1 h2
    rw [Below.heap_setCell _ _ _ _ (by simpa using h2), hgrow.block j (by simp; omega) h1]
    exact Below.heap_alloc _ _ _ hj
theorem Appd.low {W W' : World} {bi n₀ z k : Nat} {e : TypeId} {v : Value} {xs : List Value} (h : Appd W W' bi v) (hr : W.ownsRow n₀ e z v k xs) (hn : n₀ ≤ W.heap.size) {j : Nat} (hj : j < n₀) (hne : j ≠ bi) : W'.heap[j]? = W.heap[j]? :=
  h.block j (by omega) (fun e' => by have := row_base hr e'.symm; omega) hne
theorem cell_put {W : World} {k l : Nat} {v : Value} {t : TypeId} {o : Obj} (h : W.heap[k]? = some (.cells #[v] t (0, 0))) (hne : k ≠ l) : (W.putObj l o).cell? ⟨k, 0, none⟩ = some v :=
  cell_of_block (c := #[v]) ((World.putObj_heap_other hne).trans h)
theorem own_same {W W' : World} {B z n : Nat} {e : TypeId} {v : Value} {xs : List Value} (h : W.ownsRow B e z v n xs) (hk : ∀ g cur t fr, B ≤ g → W.heap[g]? = some (.cells cur t fr) → W'.heap[g]? = W.heap[g]?) : W'.ownsRow B e z v n xs := by
  obtain ⟨hl, ⟨rfl, rfl⟩ | ⟨g, cap, cur, rfl, hB, hg, hc, hm, hs, ht⟩⟩ := h
  · exact ⟨hl, .inl ⟨rfl, rfl⟩⟩
  · exact ⟨hl, .inr ⟨g, cap, cur, rfl, hB, (hk g _ _ _ hB hg).trans hg, hc, hm, hs, ht⟩⟩
theorem grown_none {W W' : World} (h : Below W.heap.size W W') : W.grownBy W' none := ⟨h.os, h.tape, h.output, h.size, fun k hk _ => h.block k hk⟩
theorem new_at (w : World) (o : Obj) {k : Nat} (h : w.heap.size = k) : (w.alloc o).heap[k]? = some o := by rw [← h]; exact heap_alloc_new w o
theorem old_at {w : World} (o : Obj) {k : Nat} {x : Obj} (h : w.heap[k]? = some x) : (w.alloc o).heap[k]? = some x := (Below.heap_alloc _ _ _ (Array.getElem?_eq_some_iff.1 h).1).trans h
end Go.Proofs.YtlpibpkbgmcclaaDoor
