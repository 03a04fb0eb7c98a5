/- Volumes that are laid one behind the other by append, each with a row of places of its own. -/
import Derived.Test.YtleknjjfmklkcaaCameVol
namespace Go.Proofs.Ytleknjjfmklkcaa
open Go.RowKit
set_option linter.unusedVariables false
theorem vol_info : (Try.prog.info? 36).map (fun i => (i.zero, i.size, i.bytes)) = some (some (.agg #[.int .i64 0, .int .i64 0, .int .i64 0, .slice none 0 0]), 4, 48) := by kernel_rfl
def volC (x : Vol) : List Value := [.int .i64 x.id, .int .i64 x.gen, .int .i64 x.len, .slice x.a x.n x.c]
def vlV (l : List Vol) : List Value := l.flatMap volC
theorem vlV_snoc (l : List Vol) (x : Vol) : vlV (l ++ [x]) = vlV l ++ volC x := by simp [vlV]
theorem vlV_at : ∀ {l : List Vol} {i : Nat} {x : Vol}, l[i]? = some x → ∀ j v, (volC x)[j]? = some v → (vlV l)[i * 4 + j]? = some v
  | [], i, x, h, _, _, _ => by simp at h
  | y :: l, 0, x, h, j, v, hv => by
    simp at h; subst h
    show (volC y ++ vlV l)[0 * 4 + j]? = some v
    rw [Nat.zero_mul, Nat.zero_add, List.getElem?_append_left (List.getElem?_eq_some_iff.1 hv).1]
    exact hv
  | y :: l, i + 1, x, h, j, v, hv => by
    have := vlV_at (l := l) (i := i) (x := x) (by simpa using h) j v hv
    show (volC y ++ vlV l)[(i + 1) * 4 + j]? = some v
    rw [show (i + 1) * 4 + j = i * 4 + j + 4 by omega]
    exact this
/-- a row of volumes of one's own, each with a row of places of one's own -/
structure VR (w wr : World) (v : Value) (vs : List Vol) : Prop where
  row : GR w wr 36 4 v vs.length (vlV vs)
  each : ∀ x ∈ vs, x.ls.length = x.n ∧ x.n ≤ 1000 ∧ wr.ownsRow w.heap.size 45 2 (.slice x.a x.n x.c) x.n (lcV x.ls)
theorem VR.nil {w wr : World} (h : Below w.heap.size w wr) : VR w wr (.slice none 0 0) [] := ⟨GR.nil _ _ _ _ h, fun x hx => by simp at hx⟩
theorem VR.below {w wr w' : World} {v : Value} {vs : List Vol} (h : VR w wr v vs) (hb : Below wr.heap.size wr w') : VR w w' v vs := ⟨h.row.below hb, fun x hx => ⟨(h.each x hx).1, (h.each x hx).2.1, own_below (h.each x hx).2.2 hb⟩⟩
theorem own_locs {w : World} {B : Nat} {x : Vol} (h : w.ownsRow B 45 2 (.slice x.a x.n x.c) x.n (lcV x.ls)) (hl : x.ls.length = x.n) : LocsAt w x.a x.ls := by
  obtain ⟨hl2, ⟨h1, h2⟩ | ⟨g, cap, cur, h1, hB, hg, hc, hm, hs, ht⟩⟩ := h
  · exact .inl (List.length_eq_zero_iff.1 (by omega))
  · injection h1 with h1 h3 h4
    have key : ∀ j v, (lcV x.ls)[j]? = some v → w.cell? ⟨g, 0 + j, none⟩ = some v := fun j v hv => by
      rw [Nat.zero_add, cell_of_block hg]
      rw [← ht, List.getElem?_take] at hv
      split at hv
      · rw [← hv, Array.getElem?_toList]
      · cases hv
    exact .inr ⟨g, 0, h1, lt_of_block hg, fun i y hy => ⟨key _ _ (lcV_at hy).1, by rw [Nat.add_assoc]; exact key _ _ (lcV_at hy).2⟩⟩
theorem VR.at {w wr : World} {v : Value} {vs : List Vol} (h : VR w wr v vs) : ∃ a c, v = .slice a vs.length c ∧ VolsAt wr a vs := by
  obtain ⟨a, c, e1, hc, _, h0 | ⟨g, rfl, _, hlt, hcell⟩⟩ := h.row.form
  · exact ⟨a, c, e1, .inl (List.length_eq_zero_iff.1 h0)⟩
  · refine ⟨_, c, e1, .inr ⟨g, 0, rfl, hlt, fun i x hx => ?_⟩⟩
    have hm := List.mem_of_getElem? hx
    obtain ⟨h1, h2, h3⟩ := h.each x hm
    refine ⟨⟨?_, ?_, ?_, ?_⟩, ⟨h1, by omega, own_locs h3 h1⟩⟩
    · have := hcell _ _ (vlV_at hx 0 _ rfl); exact this
    · have := hcell _ _ (vlV_at hx 1 _ rfl); rw [Nat.add_assoc]; exact this
    · have := hcell _ _ (vlV_at hx 2 _ rfl); rw [Nat.add_assoc]; exact this
    · have := hcell _ _ (vlV_at hx 3 _ rfl); rw [Nat.add_assoc]; exact this
theorem rows_apart {w : World} {B1 B2 z1 z2 n1 n2 : Nat} {e1 e2 : TypeId} {v1 v2 : Value} {xs ys : List Value} (h1 : w.ownsRow B1 e1 z1 v1 n1 xs) (h2 : w.ownsRow B2 e2 z2 v2 n2 ys) (hne : e1 ≠ e2) : v1.ownBlock = none ∨ v1.ownBlock ≠ v2.ownBlock := by
  obtain ⟨_, ⟨rfl, _⟩ | ⟨g, cap, cur, rfl, _, hg, _⟩⟩ := h1
  · exact .inl rfl
  · right
    intro e
    obtain ⟨_, ⟨rfl, _⟩ | ⟨g2, cap2, cur2, rfl, _, hg2, _⟩⟩ := h2
    · simp [Value.ownBlock] at e
    · obtain rfl : g = g2 := by simpa [Value.ownBlock] using e
      rw [hg] at hg2
      simp at hg2
      exact hne hg2.2
theorem own_grown {W W' : World} {B1 B2 z1 z2 n1 n2 : Nat} {e1 e2 : TypeId} {v1 v2 : Value} {xs ys : List Value} {o : Obj} (h1 : W.ownsRow B1 e1 z1 v1 n1 xs) (h2 : W.ownsRow B2 e2 z2 v2 n2 ys) (hne : e1 ≠ e2) (hg : (W.alloc o).grownBy W' v2.ownBlock) : W'.ownsRow B1 e1 z1 v1 n1 xs :=
  (h1.alloc o).kept hg (rows_apart h1 h2 hne)
/-- one more volume -/
theorem VR.step {w wr w1 : World} {v v' : Value} {vs : List Vol} {x : Vol} {o : Obj} (h : VR w wr v vs) (hl : x.ls.length = x.n) (hn : x.n ≤ 1000) (hr : wr.ownsRow w.heap.size 45 2 (.slice x.a x.n x.c) x.n (lcV x.ls))
    (hown : w1.ownsRow w.heap.size 36 4 v' (vs.length + 1) (vlV vs ++ volC x)) (hgr : (wr.alloc o).grownBy w1 v.ownBlock) : VR w w1 v' (vs ++ [x]) := by
  refine ⟨?_, fun y hy => ?_⟩
  · rw [vlV_snoc, List.length_append]
    exact h.row.step hown hgr
  · rcases List.mem_append.1 hy with q | q
    · obtain ⟨h1, h2, h3⟩ := h.each y q
      exact ⟨h1, h2, own_grown h3 h.row.1 (by decide) hgr⟩
    · rw [List.mem_singleton.1 q]
      exact ⟨hl, hn, own_grown hr h.row.1 (by decide) hgr⟩
/-- a volume in a box, whose places grow -/
structure BX (w0 wr : World) (id gen len : Int) (u : Value) (ls : List (Int × Int)) : Prop where
  bel : Below w0.heap.size w0 wr
  box : wr.heap[w0.heap.size]? = some (.cells #[.int .i64 id, .int .i64 gen, .int .i64 len, u] 36 (0, 0))
  row : wr.ownsRow (w0.heap.size + 1) 45 2 u ls.length (lcV ls)
theorem BX.lt {w0 wr : World} {id gen len : Int} {u : Value} {ls : List (Int × Int)} (h : BX w0 wr id gen len u ls) : w0.heap.size < wr.heap.size := lt_of_block h.box
theorem BX.start (w0 : World) (id gen len : Int) : BX w0 (w0.alloc (.cells #[.int .i64 id, .int .i64 gen, .int .i64 len, .slice none 0 0] 36)) id gen len (.slice none 0 0) [] :=
  ⟨(Below.refl _ _).alloc (Nat.le_refl _) _, heap_alloc_new _ _, World.ownsRow_nil _ _ _ _⟩
theorem BX.below {w0 wr w' : World} {id gen len : Int} {u : Value} {ls : List (Int × Int)} (h : BX w0 wr id gen len u ls) (hb : Below wr.heap.size wr w') : BX w0 w' id gen len u ls :=
  ⟨h.bel.trans (hb.mono h.bel.size), (hb.block _ h.lt).trans h.box, own_below h.row hb⟩
/-- what an append to the places leaves, up to the store into the box -/
theorem BX.mid {w0 wr w1 : World} {id gen len : Int} {u : Value} {ls : List (Int × Int)} {o : Obj} (h : BX w0 wr id gen len u ls) (hgr : (wr.alloc o).grownBy w1 u.ownBlock) : w1.heap[w0.heap.size]? = some (.cells #[.int .i64 id, .int .i64 gen, .int .i64 len, u] 36 (0, 0)) ∧ Below w0.heap.size w0 w1 := by
  have hlt := h.lt
  have hne : ∀ k, k ≤ w0.heap.size → some k ≠ u.ownBlock := fun k hk e => by have := row_base h.row e.symm; omega
  refine ⟨(hgr.block _ (by rw [World.size_alloc]; omega) (hne _ (Nat.le_refl _))).trans ((Below.heap_alloc _ _ _ hlt).trans h.box), ?_⟩
  exact h.bel.trans ⟨hgr.os, hgr.tape, hgr.output, by have := hgr.size; rw [World.size_alloc] at this; omega, fun k hk => (hgr.block k (by rw [World.size_alloc]; omega) (hne k (by omega))).trans (Below.heap_alloc _ _ _ (by omega))⟩
theorem BX.step {w0 wr w1 : World} {id gen len : Int} {u u' : Value} {ls : List (Int × Int)} {y : Int × Int} {o : Obj} (h : BX w0 wr id gen len u ls) (hown : w1.ownsRow (w0.heap.size + 1) 45 2 u' (ls.length + 1) (lcV ls ++ [.int .i64 y.1, .int .i64 y.2])) (hgr : (wr.alloc o).grownBy w1 u.ownBlock) :
    BX w0 (w1.setCell ⟨w0.heap.size, 3, none⟩ u') id gen len u' (ls ++ [y]) := by
  obtain ⟨h1, h2⟩ := h.mid hgr
  refine ⟨h2.setCell (p := ⟨w0.heap.size, 3, none⟩) (Nat.le_refl _) _, block_setCell (c := #[.int .i64 id, .int .i64 gen, .int .i64 len, u]) u' h1, ?_⟩
  rw [lcV_snoc, List.length_append]
  obtain ⟨hl, ⟨rfl, hz⟩ | ⟨g, cap, cur, rfl, hB, hg, hc, hm, hs, ht⟩⟩ := hown
  · exact ⟨hl, .inl ⟨rfl, hz⟩⟩
  · exact ⟨hl, .inr ⟨g, cap, cur, rfl, hB, (Below.heap_setCell _ _ _ _ (by show g ≠ w0.heap.size; omega)).trans hg, hc, hm, hs, ht⟩⟩
theorem BX.cells {w0 wr : World} {id gen len : Int} {u : Value} {ls : List (Int × Int)} (h : BX w0 wr id gen len u ls) : wr.cell? ⟨w0.heap.size, 0, none⟩ = some (.int .i64 id) ∧ wr.cell? ⟨w0.heap.size, 1, none⟩ = some (.int .i64 gen) ∧ wr.cell? ⟨w0.heap.size, 2, none⟩ = some (.int .i64 len) ∧ wr.cell? ⟨w0.heap.size, 3, none⟩ = some u ∧ wr.frozen? ⟨w0.heap.size, 3, none⟩ = false :=
  ⟨cell_of_block h.box, cell_of_block h.box, cell_of_block h.box, cell_of_block h.box, free_of_block h.box⟩
theorem BX.form {w0 wr : World} {id gen len : Int} {u : Value} {ls : List (Int × Int)} (h : BX w0 wr id gen len u ls) : ∃ a c, u = .slice a ls.length c ∧ ls.length ≤ c ∧ c ≤ 9223372036854775807 := by
  obtain ⟨hl, ⟨rfl, h2⟩ | ⟨g, cap, cur, rfl, hB, hg, hc, hm, hs, ht⟩⟩ := h.row
  · rw [h2]; exact ⟨none, 0, rfl, Nat.le_refl _, by omega⟩
  · unfold maxLen at hm; exact ⟨_, cap, rfl, hc, hm⟩
theorem cell_four_new (w : World) (x : Vol) (t : TypeId) : ∀ j u, (volC x)[j]? = some u → (w.alloc (.cells #[.int .i64 x.id, .int .i64 x.gen, .int .i64 x.len, .slice x.a x.n x.c] t)).cell? ((⟨w.heap.size, 0, none⟩ : Addr).add j) = some u := by
  intro j u hj
  rw [add_plain, cell_of_block (heap_alloc_new w (.cells #[.int .i64 x.id, .int .i64 x.gen, .int .i64 x.len, .slice x.a x.n x.c] t)), Nat.zero_add]
  match j, hj with
  | 0, hj => exact hj
  | 1, hj => exact hj
  | 2, hj => exact hj
  | 3, hj => exact hj
end Go.Proofs.Ytleknjjfmklkcaa
