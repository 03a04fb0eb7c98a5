/- The needles of a text: the memory of needle.All. -/
import Derived.Test.YtomcdajoeakhdaaDoorNeEach
import Derived.Stop.RegionWithIn
import Derived.RangeFuncNested
namespace Go.Proofs.YtomcdajoeakhdaaDoor
open Go.RowKit Go.Shelf
set_option linter.unusedVariables false
attribute [local go_sem] Oper.semAt_some
def aW (w : World) (s : ByteArray) : World := (((((w.alloc (.cells #[.slice none 0 0] 38)).alloc (.cells #[.slice none 0 0] 39)).alloc (.cells #[.int .i64 0] 25)).alloc (.cells #[.slice none 0 0] 38)).alloc (.cells #[.slice none 0 0] 39)).alloc (.cells #[.string s] 9)
theorem aW_size (w : World) (s : ByteArray) : (aW w s).heap.size = w.heap.size + 6 := by unfold aW; simp only [World.size_alloc]
theorem aW_below (w : World) (s : ByteArray) : Below w.heap.size w (aW w s) := by
  unfold aW
  exact ((((((Below.refl _ w).alloc (Nat.le_refl _) _).alloc (by simp only [World.size_alloc]; omega) _).alloc (by simp only [World.size_alloc]; omega) _).alloc (by simp only [World.size_alloc]; omega) _).alloc (by simp only [World.size_alloc]; omega) _).alloc (by simp only [World.size_alloc]; omega) _
theorem new_at (w : World) (o : Obj) {k : Nat} (h : w.heap.size = k) : (w.alloc o).heap[k]? = some o := by rw [← h]; exact heap_alloc_new w o
theorem old_at {w : World} (o : Obj) {k : Nat} {x : Obj} (h : w.heap[k]? = some x) : (w.alloc o).heap[k]? = some x := (Below.heap_alloc _ _ _ (Array.getElem?_eq_some_iff.1 h).1).trans h
theorem aW_0 (w : World) (s : ByteArray) : (aW w s).heap[w.heap.size]? = some (.cells #[.slice none 0 0] 38 (0, 0)) := by
  unfold aW; exact old_at _ (old_at _ (old_at _ (old_at _ (old_at _ (new_at w _ rfl)))))
theorem aW_1 (w : World) (s : ByteArray) : (aW w s).heap[w.heap.size + 1]? = some (.cells #[.slice none 0 0] 39 (0, 0)) := by
  unfold aW; exact old_at _ (old_at _ (old_at _ (old_at _ (new_at _ _ (by simp only [World.size_alloc])))))
theorem aW_2 (w : World) (s : ByteArray) : (aW w s).heap[w.heap.size + 2]? = some (.cells #[.int .i64 0] 25 (0, 0)) := by
  unfold aW; exact old_at _ (old_at _ (old_at _ (new_at _ _ (by simp only [World.size_alloc]))))
theorem aW_3 (w : World) (s : ByteArray) : (aW w s).heap[w.heap.size + 3]? = some (.cells #[.slice none 0 0] 38 (0, 0)) := by
  unfold aW; exact old_at _ (old_at _ (new_at _ _ (by simp only [World.size_alloc])))
theorem aW_4 (w : World) (s : ByteArray) : (aW w s).heap[w.heap.size + 4]? = some (.cells #[.slice none 0 0] 39 (0, 0)) := by
  unfold aW; exact old_at _ (new_at _ _ (by simp only [World.size_alloc]))
theorem aW_5 (w : World) (s : ByteArray) : (aW w s).heap[w.heap.size + 5]? = some (.cells #[.string s] 9 (0, 0)) := by
  unfold aW; exact new_at _ _ (by simp only [World.size_alloc])
def itV (l : List It) : List Value := ndV (l.map It.nd)
def iaV (l : List It) : List Value := inV (l.map fun x => (x.at_ : Int))
theorem itV_snoc (l : List It) (x : It) : itV (l ++ [x]) = itV l ++ [.string x.nd.k, .string x.nd.v] := by unfold itV; rw [List.map_append]; exact ndV_snoc _ _
theorem iaV_snoc (l : List It) (x : It) : iaV (l ++ [x]) = iaV l ++ [.int .i64 (x.at_ : Int)] := by unfold iaV inV; simp
/-- the invariant of the rounds -/
structure AI (w : World) (s : ByteArray) (pre : List It) (W : World) : Prop where
  ok : ∀ x ∈ pre, x.f = 0
  bel : Below w.heap.size w W
  size : w.heap.size + 6 ≤ W.heap.size
  r0 : W.heap[w.heap.size]? = some (.cells #[.slice none 0 0] 38 (0, 0))
  r1 : W.heap[w.heap.size + 1]? = some (.cells #[.slice none 0 0] 39 (0, 0))
  r2 : W.heap[w.heap.size + 2]? = some (.cells #[.int .i64 0] 25 (0, 0))
  sB : W.heap[w.heap.size + 5]? = some (.cells #[.string s] 9 (0, 0))
  rows : ∃ v v2, W.heap[w.heap.size + 3]? = some (.cells #[v] 38 (0, 0)) ∧ W.heap[w.heap.size + 4]? = some (.cells #[v2] 39 (0, 0)) ∧ W.ownsRow (w.heap.size + 6) 28 2 v pre.length (itV pre) ∧ W.ownsRow (w.heap.size + 6) 3 1 v2 pre.length (iaV pre)
theorem own_kept {W W' : World} {B z n : Nat} {e : TypeId} {v : Value} {xs : List Value} {row : Option Nat} (h : W.ownsRow B e z v n xs) (hg : W.grownBy W' row) (hr : ∀ r, row = some r → ∃ o : Obj, W.heap[r]? = some o ∧ o.isCells = false) : W'.ownsRow B e z v n xs := by
  refine h.kept hg ?_
  obtain ⟨_, ⟨rfl, rfl⟩ | ⟨g, cap, cur, rfl, _, hgg, _⟩⟩ := h
  · exact .inl rfl
  · right
    intro e
    obtain ⟨o, ho, hc⟩ := hr g e.symm
    rw [hgg] at ho
    cases ho
    cases hc
theorem below_grown {w W W' : World} {B : Nat} {row : Option Nat} (h : Below w.heap.size w W) (hg : W.grownBy W' row) (hr : ∀ r, row = some r → B ≤ r) (hB : w.heap.size ≤ B) (hz : B ≤ W.heap.size) : Below w.heap.size w W' :=
  ⟨hg.os.trans h.os, hg.tape.trans h.tape, hg.output.trans h.output, Nat.le_trans h.size hg.size, fun k hk => (hg.block k (by omega) fun e => by have := hr k e.symm; omega).trans (h.block k hk)⟩
theorem ai_own (w : World) (s : ByteArray) : OwnFrom (w.heap.size + 6) (AI w s) := fun pre W W' row h hg hr => by
  have hk : ∀ k, k < w.heap.size + 6 → W'.heap[k]? = W.heap[k]? := fun k hk => hg.block k (by have := h.size; omega) fun e => by have := (hr k e.symm).1; omega
  obtain ⟨v, v2, h3, h4, h5, h6⟩ := h.rows
  exact ⟨h.ok, below_grown h.bel hg (fun r e => (hr r e).1) (by omega) h.size, Nat.le_trans h.size hg.size, (hk _ (by omega)).trans h.r0, (hk _ (by omega)).trans h.r1, (hk _ (by omega)).trans h.r2, (hk _ (by omega)).trans h.sB, v, v2, (hk _ (by omega)).trans h3, (hk _ (by omega)).trans h4, own_kept h5 hg (fun r e => (hr r e).2), own_kept h6 hg (fun r e => (hr r e).2)⟩
theorem ai_alloc {w : World} {s : ByteArray} {pre : List It} {W : World} (h : AI w s pre W) (o : Obj) : AI w s pre (W.alloc o) := by
  refine ai_own w s pre W _ none h ⟨rfl, rfl, rfl, by rw [World.size_alloc]; omega, fun k hk _ => Below.heap_alloc _ _ _ hk⟩ (fun r e => by cases e)
theorem ai_start (w : World) (s : ByteArray) : AI w s [] (aW w s) :=
  ⟨fun x hx => by simp at hx, aW_below w s, by rw [aW_size]; omega, aW_0 w s, aW_1 w s, aW_2 w s, aW_5 w s, _, _, aW_3 w s, aW_4 w s, World.ownsRow_nil _ _ _ _, World.ownsRow_nil _ _ _ _⟩
/-- behind a round that met a fault -/
def AX (w : World) (c : Code) (pre : List It) (W : World) : Prop := c = .ret ∧ (∃ x pre', pre = pre' ++ [x] ∧ x.f ≠ 0 ∧ (∀ y ∈ pre', y.f = 0) ∧ W.heap[w.heap.size]? = some (.cells #[.slice none 0 0] 38 (0, 0)) ∧ W.heap[w.heap.size + 1]? = some (.cells #[.slice none 0 0] 39 (0, 0)) ∧ W.heap[w.heap.size + 2]? = some (.cells #[.int .i64 x.f] 25 (0, 0))) ∧ Below w.heap.size w W ∧ w.heap.size + 6 ≤ W.heap.size
theorem ax_own (w : World) (c : Code) : OwnFrom (w.heap.size + 6) (AX w c) := fun pre W W' row h hg hr => by
  obtain ⟨hc, ⟨x, pre', h1, h2, h3, h4, h5, h6⟩, hb, hz⟩ := h
  have hk : ∀ k, k < w.heap.size + 6 → W'.heap[k]? = W.heap[k]? := fun k hk => hg.block k (by omega) fun e => by have := (hr k e.symm).1; omega
  exact ⟨hc, ⟨x, pre', h1, h2, h3, (hk _ (by omega)).trans h4, (hk _ (by omega)).trans h5, (hk _ (by omega)).trans h6⟩, below_grown hb hg (fun r e => (hr r e).1) (by omega) hz, Nat.le_trans hz hg.size⟩
theorem kr_put {n₀ Bs : Nat} {w : World} (hn : n₀ ≤ w.heap.size) (hB : Bs < w.heap.size) (W : World) (l : Nat) (o o' : Obj) (hl : w.heap.size ≤ l) (_ : W.heap[l]? = some o) (_ : o.isCells = false) (_ : o.isWalk = false) : Kr n₀ Bs W (W.putObj l o') :=
  ⟨by simp, fun k hk => World.putObj_heap_other (by omega), World.putObj_heap_other (by omega)⟩
theorem keeps_alloc (B : Nat) (W : World) (o : Obj) : KeepsFrom B W (W.alloc o) := ⟨by simp, fun k o' _ hk _ => (Below.heap_alloc _ _ _ (Array.getElem?_eq_some_iff.1 hk).1).trans hk⟩
theorem keeps_set (B : Nat) (W : World) {rb : Nat} (hrb : rb < B) (v : Value) : KeepsFrom B W (W.setCell ⟨rb, 0, none⟩ v) := ⟨by simp [World.setCell], fun k o' hB hk _ => (Below.heap_setCell _ _ _ _ (by show k ≠ rb; omega)).trans hk⟩
/-- Q, but nothing at a panic -/
def Calm (Q : Exit → Act → World → Prop) : Exit → Act → World → Prop
  | .panic _, _, _ => False
  | e, a, w => Q e a w
theorem calm_imp {Q : Exit → Act → World → Prop} : ∀ (e : Exit) (a : Act) (w : World), Calm Q e a w → Q e a w := fun e a w h => by
  cases e <;> first | exact h | exact (h : False).elim
theorem wpIn_calm {F : Fence} {n : Nat} {P : Program} {c : Code} {Q : Exit → Act → World → Prop} {a : Act} {w : World} (h : c.wpIn F n P (Calm Q) a w) : c.wpIn F n P Q a w :=
  wpIn_mono h calm_imp
theorem calm_normal {Q : Exit → Act → World → Prop} {a : Act} {w : World} (h : Q .normal a w) : Calm Q .normal a w := h
/-- what 'v = append(v, ..)' on a variable in a box leaves -/
structure Appd (W W' : World) (bi : Nat) (v : Value) : Prop where
  os : W'.os = W.os
  tape : W'.tape = W.tape
  output : W'.output = W.output
  size : W.heap.size ≤ W'.heap.size
  others : KeepsOthers W W'
  block : ∀ k, k < W.heap.size → some k ≠ v.ownBlock → k ≠ bi → W'.heap[k]? = W.heap[k]?
theorem appd {W w1 : World} {n₀ bi z : Nat} {t e : TypeId} {v v' : Value} {k m : Nat} {xs ys : List Value} {tmp : Obj}
    (hv : Boxed W bi t v) (hte : t ≠ e) (hrow : W.ownsRow n₀ e z v k xs) (hown' : w1.ownsRow n₀ e z v' m ys) (hgrow : (W.alloc tmp).grownBy w1 v.ownBlock) :
    Boxed w1 bi t v ∧ Boxed (w1.setCell ⟨bi, 0, none⟩ v') bi t v' ∧ (w1.setCell ⟨bi, 0, none⟩ v').ownsRow n₀ e z v' m ys ∧ Appd W (w1.setCell ⟨bi, 0, none⟩ v') bi v := by
  have hv1 : Boxed w1 bi t v := (hv.alloc tmp).kept hgrow (hv.not_row hte hrow)
  have hsz := hgrow.size
  rw [World.size_alloc] at hsz
  refine ⟨hv1, hv1.set v', hown'.kept (grownBy_setCell' w1 bi v') (.inr (hv1.not_row hte hown').symm), hgrow.os, hgrow.tape, hgrow.output, ?_, ?_, ?_⟩
  · simp [World.setCell]; omega
  · refine ((KeepsOthers.alloc W tmp).trans (KeepsOthers.of_grownBy hgrow fun j o ej hj => ?_)).trans (KeepsOthers.setCell _ _ _)
    rcases (hrow.alloc tmp).2 with ⟨rfl, _⟩ | ⟨g, cap, cur, rfl, _, hgb, _⟩
    · simp [Value.ownBlock] at ej
    · obtain rfl : g = j := by simpa [Value.ownBlock] using ej
      rw [hgb] at hj; cases hj; rfl
  · intro j hj h1 h2
    rw [Below.heap_setCell _ _ _ _ (by simpa using h2), hgrow.block j (by simp; omega) h1]
    exact Below.heap_alloc _ _ _ hj
theorem Appd.low {W W' : World} {bi n₀ z k : Nat} {e : TypeId} {v : Value} {xs : List Value} (h : Appd W W' bi v) (hr : W.ownsRow n₀ e z v k xs) (hn : n₀ ≤ W.heap.size) {j : Nat} (hj : j < n₀) (hne : j ≠ bi) : W'.heap[j]? = W.heap[j]? :=
  h.block j (by omega) (fun e' => by have := row_base hr e'.symm; omega) hne
theorem Appd.row {W W' : World} {bi : Nat} {v : Value} (h : Appd W W' bi v) {n₀ k z z2 : Nat} {t e e2 : TypeId} {xs : List Value} (hr : W.ownsRow n₀ e z v k xs) {u w0 : Value} {k2 : Nat} {ys : List Value} (hr2 : W.ownsRow n₀ e2 z2 u k2 ys) (hb : Boxed W bi t w0) (hee : e ≠ e2) (hte : t ≠ e2) : W'.ownsRow n₀ e2 z2 u k2 ys := by
  have hap := rows_apart hr2 hr (fun q => hee q.symm)
  obtain ⟨hl, ⟨rfl, rfl⟩ | ⟨g, cap, cur, rfl, hB, hg, hc, hm, hs, ht⟩⟩ := hr2
  · exact ⟨hl, .inl ⟨rfl, rfl⟩⟩
  · refine ⟨hl, .inr ⟨g, cap, cur, rfl, hB, ?_, hc, hm, hs, ht⟩⟩
    refine (h.block g (lt_of_block hg) (fun e' => ?_) (fun e' => ?_)).trans hg
    · rcases hap with q | q
      · cases q
      · exact q e'
    · subst e'
      have := (show W.heap[g]? = _ from hb).symm.trans hg
      simp at this; exact hte this.2
theorem its_ok {s : ByteArray} {k : Nat} (h : ∀ x ∈ its s k, x.f = 0) (hl : LeftN s k) : GoN s k := fun j hj => ⟨hl j hj, h (itm s j) (by unfold its; exact List.mem_map.2 ⟨j, List.mem_range.2 hj, rfl⟩)⟩
theorem its_nds (s : ByteArray) (k : Nat) : itV (its s k) = ndV (ndsN s k) := by unfold itV its ndsN; rw [List.map_map]; rfl
theorem its_off (s : ByteArray) (k : Nat) : iaV (its s k) = inV (offN s k) := by unfold iaV its offN; rw [List.map_map]; rfl
theorem its_stop {s : ByteArray} {k : Nat} {x : It} {pre : List It} (h : pre ++ [x] = its s k) (hl : LeftN s k) (hx : x.f ≠ 0) (hp : ∀ y ∈ pre, y.f = 0) : ∃ j, EndN s j ∧ (stL s j).size ≠ 0 ∧ nrE (stL s j) = x.f := by
  cases k with
  | zero => simp [its] at h
  | succ j =>
    rw [its_succ] at h
    obtain ⟨h1, h2⟩ := List.append_inj' h rfl
    have hxe : x = itm s j := List.cons.inj h2 |>.1
    refine ⟨j, ⟨its_ok (by rw [← h1]; exact hp) fun i hi => hl i (by omega), .inr ?_⟩, hl j (by omega), by rw [hxe]; rfl⟩
    rw [hxe] at hx
    exact hx
def alA (w : World) (s : ByteArray) (x : It) (bx : Nat) : Act := { tmps := #[.string s, undef, .pointer (some ⟨w.heap.size, 0, none⟩), .pointer (some ⟨w.heap.size + 1, 0, none⟩), .pointer (some ⟨w.heap.size + 2, 0, none⟩), .pointer (some ⟨w.heap.size + 3, 0, none⟩), .pointer (some ⟨w.heap.size + 4, 0, none⟩), .int .i64 (x.at_ : Int), .pointer (some ⟨bx, 0, none⟩), .string s, .func (.func 59) #[] #[.pointer (some ⟨w.heap.size + 5, 0, none⟩)], .int .i64 (x.at_ : Int), .agg #[.string x.nd.k, .string x.nd.v, .int .i64 x.f], undef, undef, undef, undef, undef, undef, undef, undef, undef, undef, undef, undef, undef, undef, undef, undef], defers := [] }
def AxA (w : World) (s : ByteArray) (x : It) (a' : Act) (W : World) : Prop := ∃ bx, a' = alA w s x bx ∧ w.heap.size + 6 ≤ bx ∧ FBx bx x.nd x.f W
theorem axA_own (w : World) (s : ByteArray) (B : Nat) (x : It) (a' : Act) : OwnFrom B (fun (_ : Unit) W => AxA w s x a' W) := fun _ W W' row hs hg hr => by
  obtain ⟨bx, h1, h2, h3⟩ := hs
  refine ⟨bx, h1, h2, (hg.block bx (lt_of_block h3) fun e => ?_).trans h3⟩
  obtain ⟨_, o, ho, hoc⟩ := hr bx e.symm
  rw [show W.heap[bx]? = _ from h3] at ho
  cases ho
  cases hoc
theorem res_all (tmps : Array Value) (w : World) (g0 g1 g2 : Nat) (v v2 : Value) (E : Int) (h0 : tmps.getD 2 undef = .pointer (some ⟨g0, 0, none⟩)) (h1 : tmps.getD 3 undef = .pointer (some ⟨g1, 0, none⟩)) (h2 : tmps.getD 4 undef = .pointer (some ⟨g2, 0, none⟩)) (c0 : w.cell? ⟨g0, 0, none⟩ = some v) (c1 : w.cell? ⟨g1, 0, none⟩ = some v2) (c2 : w.cell? ⟨g2, 0, none⟩ = some (.int .i64 E)) : (results Tryd.f17 tmps).run Tryd.prog w = .ok (.tuple #[v, v2, .int .i64 E]) w := by
  have h0' : tmps[2]?.getD undef = .pointer (some ⟨g0, 0, none⟩) := by simpa using h0
  have h1' : tmps[3]?.getD undef = .pointer (some ⟨g1, 0, none⟩) := by simpa using h1
  have h2' : tmps[4]?.getD undef = .pointer (some ⟨g2, 0, none⟩) := by simpa using h2
  simp [results, go_sem, h0', h1', h2', loadVar, isAgg, run_underlying Tryd.underlying38, run_underlying Tryd.underlying39, run_underlying Tryd.underlying25, c0, c1, c2]
theorem cell_put {W : World} {k l : Nat} {v : Value} {t : TypeId} {o : Obj} (h : W.heap[k]? = some (.cells #[v] t (0, 0))) (hne : k ≠ l) : (W.putObj l o).cell? ⟨k, 0, none⟩ = some v :=
  cell_of_block (c := #[v]) ((World.putObj_heap_other hne).trans h)
theorem own_mono {W : World} {B B' z n : Nat} {e : TypeId} {v : Value} {xs : List Value} (h : W.ownsRow B e z v n xs) (hb : B' ≤ B) : W.ownsRow B' e z v n xs := by
  obtain ⟨hl, ⟨rfl, rfl⟩ | ⟨g, cap, cur, rfl, hB, hg, hc, hm, hs, ht⟩⟩ := h
  · exact ⟨hl, .inl ⟨rfl, rfl⟩⟩
  · exact ⟨hl, .inr ⟨g, cap, cur, rfl, by omega, hg, hc, hm, hs, ht⟩⟩
theorem ax_fault {w : World} {s : ByteArray} {pre : List It} {W : World} (h : AI w s pre W) (x : It) (hx : x.f ≠ 0) :
    KeepsFrom (aW w s).heap.size W (((W.setCell ⟨w.heap.size, 0, none⟩ (.slice none 0 0)).setCell ⟨w.heap.size + 1, 0, none⟩ (.slice none 0 0)).setCell ⟨w.heap.size + 2, 0, none⟩ (.int .i64 x.f)).drew ∧
    AX w .ret (pre ++ [x]) (((W.setCell ⟨w.heap.size, 0, none⟩ (.slice none 0 0)).setCell ⟨w.heap.size + 1, 0, none⟩ (.slice none 0 0)).setCell ⟨w.heap.size + 2, 0, none⟩ (.int .i64 x.f)).drew := by
  have hz := aW_size w s
  have k1 := keeps_set (rb := w.heap.size) (aW w s).heap.size W (by omega) (.slice none 0 0)
  have k2 := keeps_set (rb := w.heap.size + 1) (aW w s).heap.size (W.setCell ⟨w.heap.size, 0, none⟩ (.slice none 0 0)) (by omega) (.slice none 0 0)
  have k3 := keeps_set (rb := w.heap.size + 2) (aW w s).heap.size ((W.setCell ⟨w.heap.size, 0, none⟩ (.slice none 0 0)).setCell ⟨w.heap.size + 1, 0, none⟩ (.slice none 0 0)) (by omega) (.int .i64 x.f)
  have kk := (k1.trans k2).trans k3
  refine ⟨⟨kk.size, kk.same⟩, rfl, ⟨x, pre, rfl, hx, h.ok, ?_, ?_, block_setCell (c := #[.int .i64 0]) (.int .i64 x.f) ((Below.heap_setCell _ _ _ _ (by simp)).trans ((Below.heap_setCell _ _ _ _ (by simp)).trans h.r2))⟩, ?_, ?_⟩
  · exact (Below.heap_setCell _ _ _ _ (by simp)).trans ((Below.heap_setCell _ _ _ _ (by simp)).trans (block_setCell (c := #[.slice none 0 0]) (.slice none 0 0) h.r0))
  · exact (Below.heap_setCell _ _ _ _ (by simp)).trans (block_setCell (c := #[.slice none 0 0]) (.slice none 0 0) ((Below.heap_setCell _ _ _ _ (by simp)).trans h.r1))
  · exact (((h.bel.setCell (p := ⟨w.heap.size, 0, none⟩) (Nat.le_refl _) _).setCell (p := ⟨w.heap.size + 1, 0, none⟩) (by show _ ≤ w.heap.size + 1; omega) _).setCell (p := ⟨w.heap.size + 2, 0, none⟩) (by show _ ≤ w.heap.size + 2; omega) _).drew
  · have := h.size
    simp [World.setCell, World.drew]
    omega
theorem own_same {W W' : World} {B z n : Nat} {e : TypeId} {v : Value} {xs : List Value} (h : W.ownsRow B e z v n xs) (hk : ∀ g cur t fr, B ≤ g → W.heap[g]? = some (.cells cur t fr) → W'.heap[g]? = W.heap[g]?) : W'.ownsRow B e z v n xs := by
  obtain ⟨hl, ⟨rfl, rfl⟩ | ⟨g, cap, cur, rfl, hB, hg, hc, hm, hs, ht⟩⟩ := h
  · exact ⟨hl, .inl ⟨rfl, rfl⟩⟩
  · exact ⟨hl, .inr ⟨g, cap, cur, rfl, hB, (hk g _ _ _ hB hg).trans hg, hc, hm, hs, ht⟩⟩
theorem all_left {w W : World} {s : ByteArray} {k c c2 Dd : Nat} {a a2 : Option Addr} (hI : AI w s (its s k) W) (hr1 : W.ownsRow (w.heap.size + 6) 28 2 (.slice a k c) k (ndV (ndsN s k))) (hr2 : W.ownsRow (w.heap.size + 6) 3 1 (.slice a2 k c2) k (inV (offN s k))) (hD : w.heap.size + 6 ≤ Dd) (hK : W.heap[Dd]? = some (.deferred (some []))) :
    ((((W.setCell ⟨w.heap.size, 0, none⟩ (.slice a k c)).setCell ⟨w.heap.size + 1, 0, none⟩ (.slice a2 k c2)).setCell ⟨w.heap.size + 2, 0, none⟩ (.int .i64 0)).drew).heap[Dd]? = some (.deferred (some [])) ∧ ((((W.setCell ⟨w.heap.size, 0, none⟩ (.slice a k c)).setCell ⟨w.heap.size + 1, 0, none⟩ (.slice a2 k c2)).setCell ⟨w.heap.size + 2, 0, none⟩ (.int .i64 0)).drew).heap[w.heap.size]? = some (.cells #[.slice a k c] 38 (0, 0)) ∧ ((((W.setCell ⟨w.heap.size, 0, none⟩ (.slice a k c)).setCell ⟨w.heap.size + 1, 0, none⟩ (.slice a2 k c2)).setCell ⟨w.heap.size + 2, 0, none⟩ (.int .i64 0)).drew).heap[w.heap.size + 1]? = some (.cells #[.slice a2 k c2] 39 (0, 0)) ∧ ((((W.setCell ⟨w.heap.size, 0, none⟩ (.slice a k c)).setCell ⟨w.heap.size + 1, 0, none⟩ (.slice a2 k c2)).setCell ⟨w.heap.size + 2, 0, none⟩ (.int .i64 0)).drew).heap[w.heap.size + 2]? = some (.cells #[.int .i64 0] 25 (0, 0)) ∧
    Below w.heap.size w (((((W.setCell ⟨w.heap.size, 0, none⟩ (.slice a k c)).setCell ⟨w.heap.size + 1, 0, none⟩ (.slice a2 k c2)).setCell ⟨w.heap.size + 2, 0, none⟩ (.int .i64 0)).drew).putObj Dd (.deferred none)) ∧ NdsAt (((((W.setCell ⟨w.heap.size, 0, none⟩ (.slice a k c)).setCell ⟨w.heap.size + 1, 0, none⟩ (.slice a2 k c2)).setCell ⟨w.heap.size + 2, 0, none⟩ (.int .i64 0)).drew).putObj Dd (.deferred none)) a (ndsN s k) ∧ IntsAt (((((W.setCell ⟨w.heap.size, 0, none⟩ (.slice a k c)).setCell ⟨w.heap.size + 1, 0, none⟩ (.slice a2 k c2)).setCell ⟨w.heap.size + 2, 0, none⟩ (.int .i64 0)).drew).putObj Dd (.deferred none)) a2 (offN s k) := by
  have high : ∀ g, w.heap.size + 6 ≤ g → ((((W.setCell ⟨w.heap.size, 0, none⟩ (.slice a k c)).setCell ⟨w.heap.size + 1, 0, none⟩ (.slice a2 k c2)).setCell ⟨w.heap.size + 2, 0, none⟩ (.int .i64 0)).drew).heap[g]? = W.heap[g]? := fun g hg =>
    (Below.heap_setCell _ _ _ _ (by show g ≠ w.heap.size + 2; omega)).trans ((Below.heap_setCell _ _ _ _ (by show g ≠ w.heap.size + 1; omega)).trans (Below.heap_setCell _ _ _ _ (by show g ≠ w.heap.size; omega)))
  have hb : Below w.heap.size w ((((W.setCell ⟨w.heap.size, 0, none⟩ (.slice a k c)).setCell ⟨w.heap.size + 1, 0, none⟩ (.slice a2 k c2)).setCell ⟨w.heap.size + 2, 0, none⟩ (.int .i64 0)).drew) := (((hI.bel.setCell (p := ⟨w.heap.size, 0, none⟩) (Nat.le_refl _) _).setCell (p := ⟨w.heap.size + 1, 0, none⟩) (by show _ ≤ w.heap.size + 1; omega) _).setCell (p := ⟨w.heap.size + 2, 0, none⟩) (by show _ ≤ w.heap.size + 2; omega) _).drew
  have hbF : Below w.heap.size w (((((W.setCell ⟨w.heap.size, 0, none⟩ (.slice a k c)).setCell ⟨w.heap.size + 1, 0, none⟩ (.slice a2 k c2)).setCell ⟨w.heap.size + 2, 0, none⟩ (.int .i64 0)).drew).putObj Dd (.deferred none)) := ⟨hb.os, hb.tape, hb.output, by simpa using hb.size, fun j hj => (World.putObj_heap_other (by omega)).trans (hb.block j hj)⟩
  have same : ∀ g cur t fr, w.heap.size + 6 ≤ g → W.heap[g]? = some (.cells cur t fr) → (((((W.setCell ⟨w.heap.size, 0, none⟩ (.slice a k c)).setCell ⟨w.heap.size + 1, 0, none⟩ (.slice a2 k c2)).setCell ⟨w.heap.size + 2, 0, none⟩ (.int .i64 0)).drew).putObj Dd (.deferred none)).heap[g]? = W.heap[g]? := fun g cur t fr hg hc => by
    refine (World.putObj_heap_other fun e => ?_).trans (high g hg)
    rw [e, hK] at hc
    cases hc
  have hz := hI.size
  refine ⟨(high Dd hD).trans hK, ?_, ?_, ?_, hbF, ?_, ?_⟩
  · exact (Below.heap_setCell _ _ _ _ (by simp)).trans ((Below.heap_setCell _ _ _ _ (by simp)).trans (block_setCell (c := #[.slice none 0 0]) (.slice a k c) hI.r0))
  · exact (Below.heap_setCell _ _ _ _ (by simp)).trans (block_setCell (c := #[.slice none 0 0]) (.slice a2 k c2) ((Below.heap_setCell _ _ _ _ (by simp)).trans hI.r1))
  · exact block_setCell (c := #[.int .i64 0]) (.int .i64 0) ((Below.heap_setCell _ _ _ _ (by simp)).trans ((Below.heap_setCell _ _ _ _ (by simp)).trans hI.r2))
  · obtain ⟨a', c', e, h⟩ := GR.nds' (w := w) ⟨own_mono (own_same hr1 same) (by omega), hbF⟩
    injection e with e1
    subst e1; exact h
  · obtain ⟨a', c', e, h⟩ := GR.offs' (w := w) ⟨own_mono (own_same hr2 same) (by omega), hbF⟩
    injection e with e1
    subst e1; exact h
end Go.Proofs.YtomcdajoeakhdaaDoor
