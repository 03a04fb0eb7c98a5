/- The document's disks in memory. -/
import Derived.Test.YtnpioaidbmllkaaDkMath
namespace Go.Proofs.Ytnpioaidbmllkaa
open Go.RowKit
set_option linter.unusedVariables false
/-- a disk of the document's: its block, its sectors' block, the slice of what waits, what it has -/
structure Rk where
  p : Nat
  g : Nat
  wv : Value
  ct : Ct
def rkC (x : Rk) : Array Value := #[.slice (some ⟨x.g, 0, none⟩) 112 112, x.wv, .bool x.ct.lost]
/-- its blocks -/
def RkF (x : Rk) (k : Nat) : Prop := k = x.p ∨ k = x.g ∨ x.wv.ownBlock = some k
structure RkAt (w : World) (x : Rk) : Prop where
  blk : w.heap[x.p]? = some (.cells (rkC x) 61 (0, 0))
  sec : FnAt w x.g 9 112 (fun n => .string (x.ct.sec n))
  row : w.ownsRow 0 69 2 x.wv x.ct.ws.length (wtV x.ct.ws)
  wsl : ∀ y ∈ x.ct.ws, y.1 < 112
  d1 : x.p ≠ x.g
  d2 : x.wv.ownBlock ≠ some x.p
  d3 : x.wv.ownBlock ≠ some x.g
theorem RkAt.lt {w : World} {x : Rk} (h : RkAt w x) {k : Nat} (hk : RkF x k) : k < w.heap.size := by
  rcases hk with rfl | rfl | hk
  · exact lt_of_block h.blk
  · exact h.sec.lt
  · exact row_lt h.row hk
theorem RkAt.keep {w w' : World} {x : Rk} (h : RkAt w x) (hs : ∀ k, RkF x k → w'.heap[k]? = w.heap[k]?) : RkAt w' x :=
  ⟨by rw [hs _ (.inl rfl)]; exact h.blk, by unfold FnAt; rw [hs _ (.inr (.inl rfl))]; exact h.sec, row_keep h.row fun g hg => hs g (.inr (.inr hg)), h.wsl, h.d1, h.d2, h.d3⟩
/-- the first k disks, as pointers -/
def ptV (R : Nat → Rk) (k : Nat) : List Value := (List.range k).map fun e => .pointer (some ⟨(R e).p, 0, none⟩)
theorem ptV_len (R : Nat → Rk) (k : Nat) : (ptV R k).length = k := by simp [ptV]
theorem ptV_at (R : Nat → Rk) {k e : Nat} (h : e < k) : (ptV R k)[e]? = some (.pointer (some ⟨(R e).p, 0, none⟩)) := by simp [ptV, h]
theorem ptV_succ (R : Nat → Rk) (k : Nat) : ptV R (k + 1) = ptV R k ++ [.pointer (some ⟨(R k).p, 0, none⟩)] := by unfold ptV; rw [List.range_succ, List.map_append]; rfl
theorem ptV_congr {R R' : Nat → Rk} {k : Nat} (h : ∀ e, e < k → (R' e).p = (R e).p) : ptV R' k = ptV R k := by
  unfold ptV
  exact List.map_congr_left fun e he => by rw [h e (List.mem_range.1 he)]
structure RB (w : World) (rb : Nat) (v : Value) (k : Nat) (R : Nat → Rk) : Prop where
  blk : w.heap[rb]? = some (.cells #[v] 56 (0, 0))
  row : w.ownsRow 0 57 1 v k (ptV R k)
  dk : ∀ e, e < k → RkAt w (R e)
  ap : ∀ e e' q, e < k → e' < k → RkF (R e) q → RkF (R e') q → e = e'
  a1 : v.ownBlock ≠ some rb
  a2 : ∀ e, e < k → ∀ q, RkF (R e) q → q ≠ rb ∧ v.ownBlock ≠ some q
def RFoot (rb : Nat) (v : Value) (k : Nat) (R : Nat → Rk) (q : Nat) : Prop := q = rb ∨ v.ownBlock = some q ∨ ∃ e, e < k ∧ RkF (R e) q
theorem RB.lt {w : World} {rb k : Nat} {v : Value} {R : Nat → Rk} (h : RB w rb v k R) {q : Nat} (hq : RFoot rb v k R q) : q < w.heap.size := by
  rcases hq with rfl | hq | ⟨e, he, hq⟩
  · exact lt_of_block h.blk
  · exact row_lt h.row hq
  · exact (h.dk e he).lt hq
theorem RB.keep {w w' : World} {rb k : Nat} {v : Value} {R : Nat → Rk} (h : RB w rb v k R) (hs : ∀ q, RFoot rb v k R q → w'.heap[q]? = w.heap[q]?) : RB w' rb v k R :=
  ⟨by rw [hs _ (.inl rfl)]; exact h.blk, row_keep h.row fun g hg => hs g (.inr (.inl hg)), fun e he => (h.dk e he).keep fun q hq => hs q (.inr (.inr ⟨e, he, hq⟩)), h.ap, h.a1, h.a2⟩
theorem RB.below {w w' : World} {rb k : Nat} {v : Value} {R : Nat → Rk} (h : RB w rb v k R) (hb : Below w.heap.size w w') : RB w' rb v k R := h.keep fun q hq => hb.block q (h.lt hq)
structure RStep (rb : Nat) (v : Value) (k : Nat) (R : Nat → Rk) (w : World) (R' : Nat → Rk) (w' : World) : Prop where
  os : w'.os = w.os
  tape : w'.tape = w.tape
  output : w'.output = w.output
  size : w.heap.size ≤ w'.heap.size
  block : ∀ q, q < w.heap.size → ¬ RFoot rb v k R q → w'.heap[q]? = w.heap[q]?
  foot : ∀ q, RFoot rb v k R' q → RFoot rb v k R q ∨ w.heap.size ≤ q
theorem RStep.refl (rb : Nat) (v : Value) (k : Nat) (R : Nat → Rk) (w : World) : RStep rb v k R w R w := ⟨rfl, rfl, rfl, Nat.le_refl _, fun _ _ _ => rfl, fun _ h => .inl h⟩
theorem RStep.trans {rb : Nat} {v : Value} {k : Nat} {R S T : Nat → Rk} {u x w : World} (h : RStep rb v k R u S x) (g : RStep rb v k S x T w) : RStep rb v k R u T w :=
  ⟨g.os.trans h.os, g.tape.trans h.tape, g.output.trans h.output, Nat.le_trans h.size g.size,
   fun i hi hn => (g.block i (Nat.lt_of_lt_of_le hi h.size) fun hf => (h.foot i hf).elim hn (fun hx => by omega)).trans (h.block i hi hn),
   fun i hf => (g.foot i hf).elim (h.foot i) fun hx => .inr (Nat.le_trans h.size hx)⟩
theorem RStep.of_below {rb : Nat} {v : Value} {k : Nat} {R : Nat → Rk} {w w' : World} (hb : Below w.heap.size w w') : RStep rb v k R w R w' := ⟨hb.os, hb.tape, hb.output, hb.size, fun q hq _ => hb.block q hq, fun _ h => .inl h⟩
theorem RStep.below {rb B : Nat} {v : Value} {k : Nat} {R R' : Nat → Rk} {w w' : World} (h : RStep rb v k R w R' w') (hB : B ≤ w.heap.size) (hf : ∀ q, RFoot rb v k R q → B ≤ q) : Below B w w' :=
  ⟨h.os, h.tape, h.output, h.size, fun q hq => h.block q (by omega) fun hx => by have := hf q hx; omega⟩
def updR (R : Nat → Rk) (e : Nat) (x : Rk) : Nat → Rk := fun q => if q = e then x else R q
theorem updR_at (R : Nat → Rk) (e : Nat) (x : Rk) : updR R e x e = x := if_pos rfl
theorem updR_ne {R : Nat → Rk} {e q : Nat} {x : Rk} (h : q ≠ e) : updR R e x q = R q := if_neg h
theorem updR_upd (R : Nat → Rk) (e : Nat) (x y : Rk) : updR (updR R e x) e y = updR R e y := by funext q; unfold updR; split <;> rfl
theorem updR_same (R : Nat → Rk) (e : Nat) : updR R e (R e) = R := by funext q; unfold updR; split <;> simp_all
/-- a disk is another one -/
theorem RB.change {w w' : World} {rb : Nat} {v : Value} {k : Nat} {R : Nat → Rk} (h : RB w rb v k R) {e : Nat} (he : e < k) (x : Rk) (hx : RkAt w' x) (hrow : w'.ownsRow 0 57 1 v k (ptV (updR R e x) k))
    (hnew : ∀ q, RkF x q → RkF (R e) q ∨ w.heap.size ≤ q) (hoth : ∀ q, q < w.heap.size → v.ownBlock ≠ some q → ¬ RkF (R e) q → w'.heap[q]? = w.heap[q]?)
    (hos : w'.os = w.os) (htape : w'.tape = w.tape) (hout : w'.output = w.output) (hsize : w.heap.size ≤ w'.heap.size) : RB w' rb v k (updR R e x) ∧ RStep rb v k R w (updR R e x) w' := by
  have hrb : rb < w.heap.size := lt_of_block h.blk
  have hin : ∀ q i, i < k → RkF (updR R e x i) q → RkF (R i) q ∨ (i = e ∧ w.heap.size ≤ q) := by
    intro q i hi hq
    by_cases c : i = e
    · subst c; rw [updR_at] at hq; exact (hnew q hq).imp id fun hh => ⟨rfl, hh⟩
    · rw [updR_ne c] at hq; exact .inl hq
  refine ⟨⟨?_, hrow, ?_, ?_, h.a1, ?_⟩, hos, htape, hout, hsize, ?_, ?_⟩
  · rw [hoth rb hrb h.a1 fun hf => (h.a2 e he rb hf).1 rfl]; exact h.blk
  · intro i hi
    by_cases c : i = e
    · subst c; rw [updR_at]; exact hx
    · rw [updR_ne c]
      exact (h.dk i hi).keep fun q hq => hoth q ((h.dk i hi).lt hq) (h.a2 i hi q hq).2 fun hf => c (h.ap i e q hi he hq hf)
  · intro i i' q hi hi' hq hq'
    rcases hin q i hi hq with h1 | ⟨h1, h2⟩
    · rcases hin q i' hi' hq' with h3 | ⟨h3, h4⟩
      · exact h.ap i i' q hi hi' h1 h3
      · have := (h.dk i hi).lt h1; omega
    · rcases hin q i' hi' hq' with h3 | ⟨h3, h4⟩
      · have := (h.dk i' hi').lt h3; omega
      · rw [h1, h3]
  · intro i hi q hq
    rcases hin q i hi hq with h1 | ⟨h1, h2⟩
    · exact h.a2 i hi q h1
    · refine ⟨by omega, fun hv => ?_⟩
      have := row_lt h.row hv
      omega
  · intro q hq hn
    exact hoth q hq (fun hv => hn (.inr (.inl hv))) fun hf => hn (.inr (.inr ⟨e, he, hf⟩))
  · intro q hq
    rcases hq with rfl | hq | ⟨i, hi, hq⟩
    · exact .inl (.inl rfl)
    · exact .inl (.inr (.inl hq))
    · rcases hin q i hi hq with h1 | ⟨h1, h2⟩
      · exact .inl (.inr (.inr ⟨i, hi, h1⟩))
      · exact .inr h2
/-- .. in its own block -/
theorem RB.alter {w w' : World} {rb : Nat} {v : Value} {k : Nat} {R : Nat → Rk} (h : RB w rb v k R) {e : Nat} (he : e < k) (x : Rk) (hp : x.p = (R e).p) (hx : RkAt w' x)
    (hnew : ∀ q, RkF x q → RkF (R e) q ∨ w.heap.size ≤ q) (hoth : ∀ q, q < w.heap.size → ¬ RkF (R e) q → w'.heap[q]? = w.heap[q]?)
    (hos : w'.os = w.os) (htape : w'.tape = w.tape) (hout : w'.output = w.output) (hsize : w.heap.size ≤ w'.heap.size) : RB w' rb v k (updR R e x) ∧ RStep rb v k R w (updR R e x) w' := by
  refine h.change he x hx ?_ hnew (fun q hq _ hn => hoth q hq hn) hos htape hout hsize
  rw [ptV_congr (R := R) fun i _ => by
    by_cases c : i = e
    · subst c; rw [updR_at, hp]
    · rw [updR_ne c]]
  exact row_keep h.row fun g hg => hoth g (row_lt h.row hg) fun hf => (h.a2 e he g hf).2 hg
/-- what is read of a disk -/
theorem RB.at {w : World} {rb : Nat} {v : Value} {k : Nat} {R : Nat → Rk} (h : RB w rb v k R) {e : Nat} (he : e < k) : ∃ gd cap, v = .slice (some ⟨gd, 0, none⟩) k cap ∧ k ≤ cap ∧ cap ≤ 9223372036854775807 ∧ w.cell? ⟨rb, 0, none⟩ = some v ∧ w.cell? ⟨gd, e, none⟩ = some (.pointer (some ⟨(R e).p, 0, none⟩)) ∧ w.frozen? ⟨gd, e, none⟩ = false := by
  have hb : w.cell? ⟨rb, 0, none⟩ = some v := cell_of_block h.blk
  obtain ⟨hl, ⟨h1, h2⟩ | ⟨g, cap, cur, hv, hbb, hg, hc, hm, hz, ht⟩⟩ := h.row
  · omega
  · refine ⟨g, cap, hv, hc, hm, hb, ?_, free_of_block hg⟩
    rw [cell_of_block hg]
    have := ptV_at R he
    rw [← ht, List.getElem?_take, if_pos (by omega), Array.getElem?_toList] at this
    exact this
theorem RkAt.c0 {w : World} {x : Rk} (h : RkAt w x) : w.cell? ⟨x.p, 0, none⟩ = some (.slice (some ⟨x.g, 0, none⟩) 112 112) := cell_of_block h.blk
theorem RkAt.c1 {w : World} {x : Rk} (h : RkAt w x) : w.cell? ⟨x.p, 1, none⟩ = some x.wv := cell_of_block h.blk
theorem RkAt.c2 {w : World} {x : Rk} (h : RkAt w x) : w.cell? ⟨x.p, 2, none⟩ = some (.bool x.ct.lost) := cell_of_block h.blk
theorem RkAt.fr {w : World} {x : Rk} (h : RkAt w x) (q : Nat) : w.frozen? ⟨x.p, q, none⟩ = false := free_of_block h.blk
theorem RkAt.cs {w : World} {x : Rk} (h : RkAt w x) {n : Nat} (hn : n < 112) : w.cell? ⟨x.g, n, none⟩ = some (.string (x.ct.sec n)) := h.sec.cell hn
theorem RkAt.fs {w : World} {x : Rk} (h : RkAt w x) (q : Nat) : w.frozen? ⟨x.g, q, none⟩ = false := h.sec.free q
/-- a sector is set -/
def rSec (x : Rk) (n : Nat) (s : ByteArray) : Rk := ⟨x.p, x.g, x.wv, ⟨x.ct.lost, fun m => if m = n then s else x.ct.sec m, x.ct.ws⟩⟩
theorem RB.setSec {w : World} {rb : Nat} {v : Value} {k : Nat} {R : Nat → Rk} (h : RB w rb v k R) {e : Nat} (he : e < k) {n : Nat} (s : ByteArray) :
    RB (w.setCell ⟨(R e).g, n, none⟩ (.string s)) rb v k (updR R e (rSec (R e) n s)) ∧ RStep rb v k R w (updR R e (rSec (R e) n s)) (w.setCell ⟨(R e).g, n, none⟩ (.string s)) := by
  have hd := h.dk e he
  refine h.alter he (rSec (R e) n s) rfl ⟨?_, ?_, ?_, hd.wsl, hd.d1, hd.d2, hd.d3⟩ (fun q hq => .inl hq) (fun q hq hn => Below.heap_setCell _ _ _ _ fun e' => hn (.inr (.inl e'))) rfl rfl rfl (by simp [World.setCell])
  · exact (Below.heap_setCell _ _ _ _ hd.d1).trans hd.blk
  · refine (hd.sec.set n (.string s)).congr fun q hq => ?_
    show (if q = n then Value.string s else _) = Value.string (if q = n then s else _)
    split <;> rfl
  · exact row_keep hd.row fun g hg => Below.heap_setCell _ _ _ _ fun e' => hd.d3 (Eq.trans hg (congrArg some e'))
/-- what waits is set -/
def rWait (x : Rk) (v : Value) (l : List (Nat × ByteArray)) : Rk := ⟨x.p, x.g, v, ⟨x.ct.lost, x.ct.sec, l⟩⟩
theorem RB.setWait {w w2 : World} {rb : Nat} {v : Value} {k : Nat} {R : Nat → Rk} (h : RB w rb v k R) {e : Nat} (he : e < k) (v' : Value) (l : List (Nat × ByteArray)) (hl : ∀ y ∈ l, y.1 < 112) (hrow : w2.ownsRow 0 69 2 v' l.length (wtV l)) (hgr : w.grownBy w2 (R e).wv.ownBlock) (hat : ∀ q, v'.ownBlock = some q → (R e).wv.ownBlock = some q ∨ w.heap.size ≤ q) :
    RB (w2.setCell ⟨(R e).p, 1, none⟩ v') rb v k (updR R e (rWait (R e) v' l)) ∧ RStep rb v k R w (updR R e (rWait (R e) v' l)) (w2.setCell ⟨(R e).p, 1, none⟩ v') := by
  have hd := h.dk e he
  have hpl : (R e).p < w.heap.size := lt_of_block hd.blk
  have hgl : (R e).g < w.heap.size := hd.sec.lt
  have hp2 : w2.heap[(R e).p]? = _ := (hgr.block _ hpl fun e' => hd.d2 e'.symm).trans hd.blk
  have hg2 : w2.heap[(R e).g]? = w.heap[(R e).g]? := hgr.block _ hgl fun e' => hd.d3 e'.symm
  have hvp : v'.ownBlock ≠ some (R e).p := fun hv => (hat _ hv).elim (fun hx => hd.d2 hx) fun hx => by omega
  have hvg : v'.ownBlock ≠ some (R e).g := fun hv => (hat _ hv).elim (fun hx => hd.d3 hx) fun hx => by omega
  refine h.alter he (rWait (R e) v' l) rfl ⟨?_, ?_, ?_, hl, hd.d1, hvp, hvg⟩ ?_ (fun q hq hn => (Below.heap_setCell _ _ _ _ fun e' => hn (.inl e')).trans (hgr.block q hq fun e' => hn (.inr (.inr e'.symm)))) hgr.os hgr.tape hgr.output (by show _ ≤ (w2.heap.modify _ _).size; rw [Array.size_modify]; exact hgr.size)
  · exact block_setCell _ hp2
  · show FnAt _ (R e).g _ _ _
    unfold FnAt
    rw [Below.heap_setCell _ _ _ _ (fun e' => hd.d1 e'.symm), hg2]
    exact hd.sec
  · exact row_keep hrow fun g hg => Below.heap_setCell _ _ _ _ fun e' => hvp (Eq.trans hg (congrArg some e'))
  · intro q hq
    rcases hq with hq | hq | hq
    · exact .inl (.inl hq)
    · exact .inl (.inr (.inl hq))
    · exact (hat q hq).imp (fun hx => .inr (.inr hx)) id
/-- what the document's disks have -/
def ContR (R : Nat → Rk) (C : Nat → Ct) : Prop := ∀ e, e < 12 → (R e).ct = C e
theorem ContR.upd {R : Nat → Rk} {C : Nat → Ct} (h : ContR R C) (e : Nat) (x : Rk) : ContR (updR R e x) (updC C e x.ct) := fun q hq => by
  unfold updC
  by_cases c : q = e
  · subst c; rw [updR_at, if_pos rfl]
  · rw [updR_ne c, if_neg c]; exact h q hq
end Go.Proofs.Ytnpioaidbmllkaa
