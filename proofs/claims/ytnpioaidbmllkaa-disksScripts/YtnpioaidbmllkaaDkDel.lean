/- What slices.DeleteFunc answers of writes: those that are not for a sector. -/
import Derived.Test.YtnpioaidbmllkaaDkIndex
namespace Go.Proofs.Ytnpioaidbmllkaa
open Go.RowKit
set_option linter.unusedVariables false
theorem wtV_set : ∀ (M : List (Nat × ByteArray)) (i : Nat) (x : Nat × ByteArray), wtV (M.set i x) = ((wtV M).set (i * 2) (.int .i64 (x.1 : Int))).set (i * 2 + 1) (.string x.2)
  | [], _, _ => rfl
  | y :: l, 0, x => rfl
  | y :: l, i + 1, x => by
    have := wtV_set l i x
    rw [show (i + 1) * 2 = i * 2 + 1 + 1 by omega]
    show _ :: _ :: wtV (l.set i x) = _ :: _ :: _
    rw [this]
theorem take_set {l : List Value} {n p : Nat} (v : Value) : (l.set p v).take n = (l.take n).set p v := by
  apply List.ext_getElem?
  intro j
  rw [List.getElem?_take, List.getElem?_set, List.getElem?_set, List.getElem?_take, List.length_take]
  by_cases hj : j < n
  · rw [if_pos hj, if_pos hj]
    by_cases e : p = j
    · subst e
      rw [if_pos rfl, if_pos rfl]
      by_cases hl : p < l.length
      · rw [if_pos hl, if_pos (by omega)]
      · rw [if_neg hl, if_neg (by omega)]
    · rw [if_neg e, if_neg e]
  · rw [if_neg hj, if_neg hj]
    by_cases e : p = j
    · subst e
      rw [if_pos rfl, if_neg (by omega)]
    · rw [if_neg e]
theorem row_set {w : World} {base g L c p : Nat} {xs : List Value} (h : w.ownsRow base 72 2 (.slice (some ⟨g, 0, none⟩) L c) L xs) (v : Value) : (w.setCell ⟨g, p, none⟩ v).ownsRow base 72 2 (.slice (some ⟨g, 0, none⟩) L c) L (xs.set p v) := by
  obtain ⟨hl, ⟨h1, h2⟩ | ⟨g', cap, cur, hv, hb, hg, hc, hm, hz, ht⟩⟩ := h
  · cases h1
  · cases hv
    refine ⟨by rw [List.length_set]; exact hl, .inr ⟨g, c, _, rfl, hb, block_setCell _ hg, hc, hm, by rw [Array.size_setIfInBounds]; exact hz, ?_⟩⟩
    rw [← ht, Array.toList_setIfInBounds, take_set]
theorem row_put {w : World} {base g L c i : Nat} {M : List (Nat × ByteArray)} (h : w.ownsRow base 72 2 (.slice (some ⟨g, 0, none⟩) L c) L (wtV M)) (x : Nat × ByteArray) : ((w.setCell ⟨g, i * 2, none⟩ (.int .i64 (x.1 : Int))).setCell ⟨g, i * 2 + 1, none⟩ (.string x.2)).ownsRow base 72 2 (.slice (some ⟨g, 0, none⟩) L c) L (wtV (M.set i x)) := by
  rw [wtV_set]; exact row_set (row_set h _) _
/-- a row's cells from o on are set -/
theorem block_setCells {g : Nat} {t : TypeId} : ∀ (vs : List Value) (o : Nat) (w : World) (cur : Array Value), w.heap[g]? = some (.cells cur t (0, 0)) → ∃ cur', (w.setCells g o vs).heap[g]? = some (.cells cur' t (0, 0)) ∧ cur'.size = cur.size ∧ ∀ k, k ≤ o → cur'.toList.take k = cur.toList.take k
  | [], _, _, cur, h => ⟨cur, h, rfl, fun _ _ => rfl⟩
  | v :: vs, o, w, cur, h => by
    obtain ⟨cur', h1, h2, h3⟩ := block_setCells vs (o + 1) (w.setCell ⟨g, o, none⟩ v) _ (block_setCell v h)
    refine ⟨cur', h1, by rw [h2, Array.size_setIfInBounds], fun k hk => ?_⟩
    rw [h3 k (by omega), Array.toList_setIfInBounds, take_set]
    apply List.ext_getElem?
    intro j
    rw [List.getElem?_set]
    by_cases e : o = j
    · subst e
      rw [if_pos rfl, List.length_take, if_neg (by omega), List.getElem?_take, if_neg (by omega)]
    · rw [if_neg e]
theorem wtV_take : ∀ (M : List (Nat × ByteArray)) (i : Nat), (wtV M).take (i * 2) = wtV (M.take i)
  | [], i => by simp [wtV]
  | x :: l, 0 => rfl
  | x :: l, i + 1 => by
    rw [show (i + 1) * 2 = i * 2 + 1 + 1 by omega]
    show _ :: _ :: (wtV l).take (i * 2) = _
    rw [wtV_take l i]
    rfl
/-- a row that is cleared from place i on, and cut there -/
theorem row_cut {w : World} {base g L c i : Nat} {M : List (Nat × ByteArray)} (h : w.ownsRow base 72 2 (.slice (some ⟨g, 0, none⟩) L c) L (wtV M)) (hi : i ≤ L) (vs : List Value) : (w.setCells g (i * 2) vs).ownsRow base 72 2 (.slice (some ⟨g, 0, none⟩) i c) i (wtV (M.take i)) := by
  obtain ⟨hl, ⟨h1, h2⟩ | ⟨g', cap, cur, hv, hb, hg, hc, hm, hz, ht⟩⟩ := h
  · cases h1
  · cases hv
    rw [wtV_len] at hl
    obtain ⟨cur', h1, h2, h3⟩ := block_setCells vs (i * 2) w cur hg
    refine ⟨by rw [wtV_len, List.length_take]; omega, .inr ⟨g, c, cur', rfl, hb, h1, by omega, hm, by omega, ?_⟩⟩
    rw [h3 _ (Nat.le_refl _), ← wtV_take, ← ht, List.take_take, Nat.min_eq_left (by omega)]
theorem clear_any {w : World} {base g L c i : Nat} {M : List (Nat × ByteArray)} (h : w.ownsRow base 72 2 (.slice (some ⟨g, 0, none⟩) L c) L (wtV M)) (hi : i ≤ L) (ty : TypeId) (q : Nat) : ∃ vs, (Builtin.clear_ #[48] ty #[.slice (some ⟨g, i * 2, none⟩) (L - i) q]).run Try.prog w = .ok (.tuple #[]) (w.setCells g (i * 2) vs) := by
  by_cases h0 : L - i = 0
  · exact ⟨[], by rw [h0]; simp [Builtin.clear_, run_underlying Try.underlying48]; rfl⟩
  · obtain ⟨hl, ⟨h1, h2⟩ | ⟨g', cap, cur, hv, hb, hg, hc, hm, hz, ht⟩⟩ := h
    · cases h1
    · cases hv
      have hsz : (Builtin.zeroCells #[.int .i64 0, .string ⟨#[]⟩] (L - i)).toList.length = (L - i) * 2 := by simp [Builtin.zeroCells]
      refine ⟨(Builtin.zeroCells #[.int .i64 0, .string ⟨#[]⟩] (L - i)).toList, ?_⟩
      have hst := run_storeCells_cells (P := Try.prog) g (i * 2) (Builtin.zeroCells #[.int .i64 0, .string ⟨#[]⟩] (L - i)).toList 0 w
        (fun j hj => by rw [hsz] at hj; rw [cell_of_block hg, Array.getElem?_eq_getElem (by omega)]; rfl) (fun j _ => free_of_block hg)
        (fun v hv => by
          simp [Builtin.zeroCells] at hv
          obtain ⟨j, _, rfl⟩ := hv
          rcases Nat.mod_two_eq_zero_or_one j with e | e <;> rw [e] <;> rfl)
      rw [Nat.add_zero] at hst
      obtain ⟨m, hm2⟩ : ∃ m, L - i = m + 1 := ⟨L - i - 1, by omega⟩
      rw [hm2] at hst ⊢
      simp [Builtin.clear_, run_underlying Try.underlying48, Value.cells, hst]
theorem grown_refl (w : World) (r : Option Nat) : w.grownBy w r := ⟨rfl, rfl, rfl, Nat.le_refl _, fun _ _ _ => rfl⟩
theorem grown_trans {u v w : World} {r : Option Nat} (h : u.grownBy v r) (k : v.grownBy w r) : u.grownBy w r :=
  ⟨k.os.trans h.os, k.tape.trans h.tape, k.output.trans h.output, Nat.le_trans h.size k.size, fun i hi hn => (k.block i (Nat.lt_of_lt_of_le hi h.size) hn).trans (h.block i hi hn)⟩
theorem grown_below {u v : World} (r : Option Nat) (h : Below u.heap.size u v) : u.grownBy v r := ⟨h.os, h.tape, h.output, h.size, fun i hi _ => h.block i hi⟩
theorem grown_set {u : World} {g p : Nat} (v : Value) : u.grownBy (u.setCell ⟨g, p, none⟩ v) (some g) := ⟨rfl, rfl, rfl, by simp [World.setCell], fun i _ hn => Below.heap_setCell _ _ _ _ (fun e => hn (by rw [e]))⟩
theorem grown_sets {u : World} {g p : Nat} (vs : List Value) : u.grownBy (u.setCells g p vs) (some g) := by
  obtain ⟨h1, h2, h3⟩ := same_setCells g vs p u
  exact ⟨h1, h2, h3, by rw [size_setCells]; exact Nat.le_refl _, fun i _ hn => heap_setCells (fun e => hn (by rw [e])) _ _ _⟩
/-- what stands in the row, in the midst of a deletion -/
structure DelMid (w wr : World) (v : Value) (L n i j : Nat) (ws M : List (Nat × ByteArray)) : Prop where
  row : wr.ownsRow 0 72 2 v L (wtV M)
  ij : i ≤ j
  jL : j ≤ L
  done : M.take i = (ws.take j).filter fun x => x.1 != n
  rest : M.drop j = ws.drop j
  grown : w.grownBy wr v.ownBlock
theorem DelMid.at {w wr : World} {v : Value} {L n i j : Nat} {ws M : List (Nat × ByteArray)} (h : DelMid w wr v L n i j ws M) : M[j]? = ws[j]? := by
  have := congrArg (fun l => l[0]?) h.rest
  simpa [List.getElem?_drop] using this
theorem DelMid.skip {w wr : World} {v : Value} {L n i j : Nat} {ws M : List (Nat × ByteArray)} (h : DelMid w wr v L n i j ws M) {x : Nat × ByteArray} (hx : ws[j]? = some x) (hL : ws.length = L) (he : x.1 = n) {w1 : World} (hb : Below wr.heap.size wr w1) : DelMid w w1 v L n i (j + 1) ws M := by
  have hj : j < ws.length := (List.getElem?_eq_some_iff.1 hx).1
  refine ⟨row_keep h.row fun g hg => hb.block g (row_lt h.row hg), Nat.le_succ_of_le h.ij, by omega, ?_, ?_, grown_trans h.grown (grown_below _ hb)⟩
  · rw [h.done, List.take_add_one, hx, List.filter_append]
    simp [he]
  · have := congrArg (List.drop 1) h.rest
    rw [List.drop_drop, List.drop_drop] at this
    exact this
theorem DelMid.take {w wr : World} {g c L n i j : Nat} {ws M : List (Nat × ByteArray)} (h : DelMid w wr (.slice (some ⟨g, 0, none⟩) L c) L n i j ws M) {x : Nat × ByteArray} (hx : ws[j]? = some x) (hL : ws.length = L) (he : x.1 ≠ n) {w1 : World} (hb : Below wr.heap.size wr w1) : DelMid w ((w1.setCell ⟨g, i * 2, none⟩ (.int .i64 (x.1 : Int))).setCell ⟨g, i * 2 + 1, none⟩ (.string x.2)) (.slice (some ⟨g, 0, none⟩) L c) L n (i + 1) (j + 1) ws (M.set i x) := by
  have hj : j < ws.length := (List.getElem?_eq_some_iff.1 hx).1
  have hij := h.ij
  have hML : M.length = L := row_len h.row
  refine ⟨row_put (row_keep h.row fun g hg => hb.block g (row_lt h.row hg)) x, by omega, by omega, ?_, ?_, grown_trans h.grown (grown_trans (grown_below _ hb) (grown_trans (grown_set _) (grown_set _)))⟩
  · rw [List.take_add_one, List.take_add_one, hx, List.filter_append, ← h.done, List.take_set_of_le (Nat.le_refl _), List.getElem?_set_self (by omega)]
    simp [he]
  · have := congrArg (List.drop 1) h.rest
    rw [List.drop_drop, List.drop_drop] at this
    rw [List.drop_set_of_lt (by omega)]
    exact this
end Go.Proofs.Ytnpioaidbmllkaa
