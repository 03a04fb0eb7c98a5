/- Rows of volumes that grow in a loop, side by side. -/
import Derived.Test.YtonhmihmnkicdaaGreatPnVol
namespace Go.Proofs.YtonhmihmnkicdaaGreat
open Go.RowKit
set_option linter.unusedVariables false
/-- a row of volumes in blocks that are new since w0 -/
structure Gv (B : Nat) (w0 wr : World) (v : Value) (L : List VD) : Prop where
  row : RowV B wr v L
  new : ∀ i, v.ownBlock = some i → w0.heap.size ≤ i
theorem Gv.nil (B : Nat) (w0 wr : World) : Gv B w0 wr (.slice none 0 0) [] := ⟨RowV.nil _ _, fun i hi => by cases hi⟩
theorem Gv.below {B : Nat} {w0 wr w' : World} {v : Value} {L : List VD} (h : Gv B w0 wr v L) (hb : Below wr.heap.size wr w') : Gv B w0 w' v L := ⟨h.row.below hb, h.new⟩
theorem app_mds {B : Nat} {W w1 : World} {v v' : Value} {n : Nat} {xs : List Value} {o : Obj} (hB : B ≤ W.heap.size) (hrow : W.ownsRow B 36 4 v n xs) (hgr : (W.alloc o).grownBy w1 v.ownBlock) (hat : v'.ownBlock = v.ownBlock ∨ v'.ownBlock = some (W.alloc o).heap.size) :
    Mds B (fun i => v.ownBlock = some i) W (fun i => v'.ownBlock = some i) w1 := by
  have hb : ∀ i, i < W.heap.size → v.ownBlock ≠ some i → w1.heap[i]? = W.heap[i]? := fun i hi hn => (hgr.block i (by rw [World.size_alloc]; omega) (fun e => hn e.symm)).trans (Below.heap_alloc _ _ _ hi)
  have hsz : W.heap.size ≤ w1.heap.size := by have := hgr.size; rw [World.size_alloc] at this; omega
  refine ⟨⟨hgr.os, hgr.tape, hgr.output, hsz, fun k hk => hb k (by omega) (fun e => by have := (own_at hrow e).1; omega)⟩, hsz, fun i hi hn => hb i hi hn, fun i cur fr hc => hb i (lt_of_block hc) (fun e => ?_), fun i hi => ?_⟩
  · obtain ⟨_, _, cur2, hc2⟩ := own_at hrow e
    rw [hc2] at hc; injection hc with hc; injection hc with _ q; exact absurd q (by decide)
  · rcases hat with q | q
    · exact .inl (q ▸ hi)
    · have e' : v'.ownBlock = some i := hi
      rw [q] at e'; cases e'; right; rw [World.size_alloc]; omega
theorem Gv.push {B : Nat} {w0 W : World} (hB : B ≤ w0.heap.size) (hbel : Below w0.heap.size w0 W) {v : Value} {L : List VD} (hg : ∀ i, v.ownBlock = some i → w0.heap.size ≤ i) {vs : List Vo} (hv1 : vs.map Vo.d = L) (hv2 : W.ownsRow B 36 4 v vs.length (voV vs)) (hv3 : ∀ x ∈ vs, LocsK B W x.a x.d.ls) (x : Vo) (hx : LocsK B W x.a x.d.ls) {o : Obj} {w1 : World} {v' : Value}
    (hown : w1.ownsRow B 36 4 v' (vs.length + 1) (voV vs ++ voC x)) (hgr : (W.alloc o).grownBy w1 v.ownBlock) (hat : v'.ownBlock = v.ownBlock ∨ v'.ownBlock = some (W.alloc o).heap.size) :
    Gv B w0 w1 v' (L ++ [x.d]) ∧ Below w0.heap.size w0 w1 ∧ ∀ u M, Gv B w0 W u M → (∀ i, u.ownBlock = some i → v.ownBlock ≠ some i) → Gv B w0 w1 u M ∧ ∀ i, u.ownBlock = some i → v'.ownBlock ≠ some i := by
  have hM := app_mds (Nat.le_trans hB hbel.size) hv2 hgr hat
  refine ⟨⟨RowV.push vs hv1 hv3 hx hv2 hown hgr, fun i hi => ?_⟩, ?_, fun u M hu hne => ⟨⟨hu.row.mod hM hne, hu.new⟩, fun i hi e => ?_⟩⟩
  · rcases hat with q | q
    · exact hg i (q ▸ hi)
    · rw [q] at hi; cases hi; rw [World.size_alloc]; have := hbel.size; omega
  · refine ⟨hM.bel.os.trans hbel.os, hM.bel.tape.trans hbel.tape, hM.bel.output.trans hbel.output, Nat.le_trans hbel.size hM.size, fun k hk => ?_⟩
    exact (hM.blk k (Nat.lt_of_lt_of_le hk hbel.size) (fun e => by have := hg k e; omega)).trans (hbel.block k hk)
  · have hlt := (hu.row.at hi).2.1
    rcases hat with q | q
    · exact hne i hi (q ▸ e)
    · rw [q] at e; cases e; rw [World.size_alloc] at hlt; omega
end Go.Proofs.YtonhmihmnkicdaaGreat
