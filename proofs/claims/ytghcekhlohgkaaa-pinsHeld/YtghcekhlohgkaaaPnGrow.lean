/- Rows of volumes that grow in a loop, side by side; the pins' row is another one. -/
import Derived.Test.YtghcekhlohgkaaaPnRetire
namespace Go.Proofs.Ytghcekhlohgkaaa
open Go.RowKit
set_option linter.unusedVariables false
/-- a row of volumes in blocks that are new since w0 -/
structure Gv (B : Nat) (w0 wr : World) (v : Value) (L : List VD) : Prop where
  row : RowV B wr v L
  new : ∀ i, v.ownBlock = some i → w0.heap.size ≤ i
theorem Gv.nil (B : Nat) (w0 wr : World) : Gv B w0 wr (.slice none 0 0) [] := ⟨RowV.nil _ _, fun i hi => by cases hi⟩
theorem Gv.below {B : Nat} {w0 wr w' : World} {v : Value} {L : List VD} (h : Gv B w0 wr v L) (hb : Below wr.heap.size wr w') : Gv B w0 w' v L := ⟨h.row.below hb, h.new⟩
theorem app_mds {B : Nat} {W w1 : World} {v v' : Value} {n : Nat} {xs : List Value} {o : Obj} (hB : B ≤ W.heap.size) (hrow : W.ownsRow B 33 4 v n xs) (hgr : (W.alloc o).grownBy w1 v.ownBlock) (hat : v'.ownBlock = v.ownBlock ∨ v'.ownBlock = some (W.alloc o).heap.size) :
    Mds B (fun i => v.ownBlock = some i) W (fun i => v'.ownBlock = some i) w1 := by
  have hb : ∀ i, i < W.heap.size → v.ownBlock ≠ some i → w1.heap[i]? = W.heap[i]? := fun i hi hn => (hgr.block i (by rw [World.size_alloc]; omega) (fun e => hn e.symm)).trans (Below.heap_alloc _ _ _ hi)
  have hsz : W.heap.size ≤ w1.heap.size := by have := hgr.size; rw [World.size_alloc] at this; omega
  refine ⟨⟨hgr.os, hgr.tape, hgr.output, hsz, fun k hk => hb k (by omega) (fun e => by have := (own_at hrow e).1; omega)⟩, hsz, fun i hi hn => hb i hi hn, fun i cur fr hc => hb i (lt_of_block hc) (fun e => ?_), fun i hi => ?_⟩
  · obtain ⟨_, _, cur2, hc2⟩ := own_at hrow e
    rw [hc2] at hc; injection hc with hc; injection hc with _ q; exact absurd q (by decide)
  · rcases hat with q | q
    · exact .inl (q ▸ hi)
    · have e' : v'.ownBlock = some i := hi
      rw [q] at e'; cases e'; right; rw [World.size_alloc]; omega
theorem Gv.push {B : Nat} {w0 W : World} (hB : B ≤ w0.heap.size) (hbel : Below w0.heap.size w0 W) {v : Value} {L : List VD} (hg : ∀ i, v.ownBlock = some i → w0.heap.size ≤ i) {vs : List Vo} (hv1 : vs.map Vo.d = L) (hv2 : W.ownsRow B 33 4 v vs.length (voV vs)) (hv3 : ∀ x ∈ vs, LocsK B W x.a x.d.ls) (x : Vo) (hx : LocsK B W x.a x.d.ls) {o : Obj} {w1 : World} {v' : Value}
    (hown : w1.ownsRow B 33 4 v' (vs.length + 1) (voV vs ++ voC x)) (hgr : (W.alloc o).grownBy w1 v.ownBlock) (hat : v'.ownBlock = v.ownBlock ∨ v'.ownBlock = some (W.alloc o).heap.size) :
    Gv B w0 w1 v' (L ++ [x.d]) ∧ Below w0.heap.size w0 w1 ∧ ∀ u M, Gv B w0 W u M → (∀ i, u.ownBlock = some i → v.ownBlock ≠ some i) → Gv B w0 w1 u M ∧ ∀ i, u.ownBlock = some i → v'.ownBlock ≠ some i := by
  have hM := app_mds (Nat.le_trans hB hbel.size) hv2 hgr hat
  refine ⟨⟨RowV.push vs hv1 hv3 hx hv2 hown hgr, fun i hi => ?_⟩, ?_, fun u M hu hne => ⟨⟨hu.row.mod hM hne, hu.new⟩, fun i hi e => ?_⟩⟩
  · rcases hat with q | q
    · exact hg i (q ▸ hi)
    · rw [q] at hi; cases hi; rw [World.size_alloc]; have := hbel.size; omega
  · refine ⟨hM.bel.os.trans hbel.os, hM.bel.tape.trans hbel.tape, hM.bel.output.trans hbel.output, Nat.le_trans hbel.size hM.size, fun k hk => ?_⟩
    exact (hM.blk k (Nat.lt_of_lt_of_le hk hbel.size) (fun e => by have := hg k e; omega)).trans (hbel.block k hk)
  · have hlt := (hu.row.at hi).2.1
    rcases hat with q | q
    · exact hne i hi (q ▸ e)
    · rw [q] at e; cases e; rw [World.size_alloc] at hlt; omega
/-- what waits is another row now -/
theorem PnAt.setw {B : Nat} {w w1 : World} {P : Pn} {R : Int × Int → Nat} {L L2 : List VD} (h : PnAt B w P R L) (hb : Below w.heap.size w w1) {v : Value} (hv : Gv B w w1 v L2) :
    (w1.cell? ⟨P.pb, 1, none⟩ = some P.v ∧ w1.frozen? ⟨P.pb, 1, none⟩ = false) ∧ PnAt B (w1.setCell ⟨P.pb, 1, none⟩ v) ⟨P.pb, P.mb, P.n, v⟩ R L2 ∧ Mds B P.own w (Pn.own ⟨P.pb, P.mb, P.n, v⟩) (w1.setCell ⟨P.pb, 1, none⟩ v) ∧
      ∀ u M, Gv B w w1 u M → (∀ i, u.ownBlock = some i → v.ownBlock ≠ some i) → RowV B (w1.setCell ⟨P.pb, 1, none⟩ v) u M ∧ ∀ i, u.ownBlock = some i → w.heap.size ≤ i ∧ ¬ Pn.own ⟨P.pb, P.mb, P.n, v⟩ i := by
  have hpl := h.lt (.inl rfl)
  have hml := h.lt (.inr (.inl rfl))
  have hne := h.ne
  have hpb : w1.heap[P.pb]? = some (.cells #[.map (some P.mb), P.v] 48 (0, 0)) := (hb.block _ hpl).trans h.box
  have hset : ∀ k, k ≠ P.pb → (w1.setCell ⟨P.pb, 1, none⟩ v).heap[k]? = w1.heap[k]? := fun k hk => Below.heap_setCell _ _ _ _ hk
  have hM : Mds B P.own w (Pn.own ⟨P.pb, P.mb, P.n, v⟩) (w1.setCell ⟨P.pb, 1, none⟩ v) := by
    refine ⟨⟨hb.os, hb.tape, hb.output, by simp [World.setCell]; exact hb.size, fun k hk => (hset k (by have := h.lpb; omega)).trans (hb.block k (by have := h.lpb; omega))⟩, by simp [World.setCell]; exact hb.size, fun i hi hn => (hset i (fun e => hn (.inl e))).trans (hb.block i hi), fun i cur fr hc => (hset i (fun e => ?_)).trans (hb.block i (lt_of_block hc)), fun i hi => ?_⟩
    · rw [e, h.box] at hc; injection hc with hc; injection hc with _ q; exact absurd q (by decide)
    · rcases hi with e | e | e
      · exact .inl (.inl e)
      · exact .inl (.inr (.inl e))
      · exact .inr (hv.new i e)
  have hrow : ∀ u M, Gv B w w1 u M → RowV B (w1.setCell ⟨P.pb, 1, none⟩ v) u M := fun u M hu => by
    obtain ⟨vs, q1, q2, q3⟩ := hu.row
    refine ⟨vs, q1, row_keep q2 fun i hi => hset i (by have := hu.new i hi; omega), fun y hy => ?_⟩
    rcases q3 y hy with q | ⟨b, o', e1, e2, e3, e4⟩
    · exact .inl q
    · have hbn : b ≠ P.pb := fun e => by
        rcases e3 with q | ⟨cur, fr, q⟩
        · have := h.lpb; omega
        · rw [e, hpb] at q; injection q with q; injection q with _ q; exact absurd q (by decide)
      have hc : ∀ p, (w1.setCell ⟨P.pb, 1, none⟩ v).cell? ⟨b, p, none⟩ = w1.cell? ⟨b, p, none⟩ := fun p => by unfold World.cell?; rw [hset b hbn]
      refine .inr ⟨b, o', e1, by simp [World.setCell]; omega, ?_, fun i z hz => ⟨(hc _).trans (e4 i z hz).1, (hc _).trans (e4 i z hz).2⟩⟩
      rcases e3 with q | ⟨cur, fr, q⟩
      · exact .inl q
      · exact .inr ⟨cur, fr, (hset b hbn).trans q⟩
  refine ⟨⟨cell_of_block hpb, free_of_block hpb⟩, ⟨block_setCell (c := #[.map (some P.mb), P.v]) v hpb, ?_, hrow v L2 hv, h.lpb, h.lmb, h.few⟩, hM, fun u M hu hd => ⟨hrow u M hu, fun i hi => ⟨hu.new i hi, fun q => ?_⟩⟩⟩
  · exact h.map.keep ((hset _ (fun e => hne.1 e.symm)).trans (hb.block _ hml))
  · have := hu.new i hi
    rcases q with e | e | e
    · simp only at e; omega
    · simp only at e; omega
    · exact hd i hi e
end Go.Proofs.Ytghcekhlohgkaaa
