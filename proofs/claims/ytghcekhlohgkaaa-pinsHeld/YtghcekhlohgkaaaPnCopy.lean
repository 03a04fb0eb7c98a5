/- What slices.Clone of places, pins.copied and pins.pinOf answer. -/
import Derived.Test.YtghcekhlohgkaaaPnVol
import Derived.Lib.SliceRun
namespace Go.Proofs.Ytghcekhlohgkaaa
open Go.RowKit
set_option linter.unusedVariables false
theorem loc_empty (w : World) (base : Nat) (hb : base ≤ w.heap.size) : (w.alloc (.cells #[] 58)).ownsRow base 58 2 (.slice (some ⟨w.heap.size, 0, none⟩) 0 0) 0 [] :=
  ⟨rfl, .inr ⟨w.heap.size, 0, #[], rfl, hb, heap_alloc_new _ _, Nat.le_refl _, Nat.zero_le _, rfl, rfl⟩⟩
theorem lcV_one (l : List (Int × Int)) : ∀ u ∈ lcV l, u.oneCell' = true := by
  intro u hu
  unfold lcV at hu
  obtain ⟨x, _, hx⟩ := List.mem_flatMap.1 hu
  simp at hx
  rcases hx with rfl | rfl <;> rfl
theorem lcV_len (l : List (Int × Int)) : (lcV l).length = l.length * 2 := by
  induction l with
  | nil => rfl
  | cons x l ih => simp [lcV] at ih ⊢; omega
set_option maxRecDepth 100000 in
set_option maxHeartbeats 4000000 in
theorem clone_locs (a : Option Addr) (n c : Nat) (l : List (Int × Int)) (w : World) (hl : l.length = n) (hn : n ≤ 8796093022208) (h : LocsAt w a l) :
    Calls Try.prog 25 #[.slice a n c] w fun e w' => ∃ v', e = .returned v' ∧ w'.ownsRow w.heap.size 58 2 v' n (lcV l) ∧ Below w.heap.size w w' := by
  have HO := hide (lcV_one l)
  have qN : ∀ (w : World) (n c : Nat), (binOp .eql 31 (.slice none n c) (.slice none 0 0)).run Try.prog w = .ok (.bool true) w := fun w n c => Lib.run_eql_slice_nil w _ _ none n c 0 0 Try.underlying31
  have qS : ∀ (w : World) (a : Addr) (n c : Nat), (binOp .eql 31 (.slice (some a) n c) (.slice none 0 0)).run Try.prog w = .ok (.bool false) w := fun w a n c => Lib.run_eql_slice_nil w _ _ (some a) n c 0 0 Try.underlying31
  cases a with
  | none =>
    have hx : l = [] := by
      rcases h with q | ⟨b, o, ha, _⟩
      · exact q
      · cases ha
    subst hx
    simp at hl
    subst hl
    clear h
    go_enter Try.func25, Try.ntmps25
    go_wp2_with fail
    try go_ret
    exact ⟨_, rfl, World.ownsRow_nil _ _ _ _, Below.refl _ _⟩
  | some ad =>
    obtain ⟨i0, hi0, hz0, hz1, hz2⟩ := info_parts loc_info
    have HI := hide hi0
    have HI0 := hide hz0
    have HI1 := hide hz1
    have HI2 := hide hz2
    have HLL : Hid ((lcV l).length = n * 2) := by unfold Hid; rw [lcV_len, hl]
    have HC : Hid (∀ j u, (lcV l)[j]? = some u → (w.alloc (.cells #[] 58)).cell? (ad.add j) = some u) := fun j u hj => by
      have hb1 : Below w.heap.size w (w.alloc (.cells #[] 58)) := (Below.refl _ _).alloc (Nat.le_refl _) _
      rcases h with q | ⟨b, o, ha, hlt, hc⟩
      · subst q; simp [lcV] at hj
      · cases ha
        have ha : (⟨b, o, none⟩ : Addr).add j = ⟨b, o + j, none⟩ := by unfold Addr.add; split <;> simp_all
        rw [ha]
        refine (hb1.cell (p := ⟨b, o + j, none⟩) hlt).trans ?_
        have hj2 : j < l.length * 2 := by have := (List.getElem?_eq_some_iff.1 hj).1; rw [lcV_len] at this; exact this
        obtain ⟨x, hx⟩ : ∃ x, l[j / 2]? = some x := ⟨_, List.getElem?_eq_getElem (by omega)⟩
        obtain ⟨e1, e2⟩ := lcV_at hx
        obtain ⟨c1, c2⟩ := hc _ x hx
        by_cases hj0 : j % 2 = 0
        · rw [show j / 2 * 2 = j by omega] at e1 c1
          rw [e1] at hj; cases hj; exact c1
        · rw [show j / 2 * 2 + 1 = j by omega] at e2
          rw [Nat.add_assoc, show j / 2 * 2 + 1 = j by omega] at c2
          rw [e2] at hj; cases hj; exact c2
    clear h hi0 hz0 hz1 hz2 hl
    go_enter Try.func25, Try.ntmps25
    go_wp2_with (first | (at_builtin; refine wpList_append_own _ rfl (.tmp 5) (.tmp 6) 31 rfl w.heap.size 58 i0 (.agg #[.int .i64 0, .int .i64 0]) 2 16 Try.underlying31 HI.out HI0.out HI1.out HI2.out rfl (by decide) _ 0 [] rfl (loc_empty _ _ (Nat.le_refl _)) ad n c (lcV l) rfl HLL.out HC.out HO.out (by unfold maxLen; omega) (by omega) (by rw [World.size_alloc]; omega) ?_; intro v' w3 hown hgr hnil; clear hnil; have HB : Hid (Below w.heap.size w w3) := Below.grown ((Below.refl _ w).alloc (Nat.le_refl _) _) hgr (by rw [World.size_alloc]; omega) (fun g' hg' => by cases hg'; exact Nat.le_refl _); rw [Nat.zero_add, List.nil_append] at hown; have HW := hide hown; clear hown hgr))
    try go_ret
    exact ⟨_, rfl, HW.out, HB.out⟩
theorem setRow_size (w : World) (g : Nat) (cs : Array Value) : (w.setRow g cs).heap.size = w.heap.size := by unfold World.setRow; simp
theorem own_slice {w : World} {B z n : Nat} {e : TypeId} {v : Value} {xs : List Value} (h : w.ownsRow B e z v n xs) : ∃ a c, v = .slice a n c ∧ n ≤ c ∧ c ≤ 9223372036854775807 := by
  obtain ⟨hl, ⟨rfl, h2⟩ | ⟨g, cap, cur, rfl, hB, hg, hc, hm, hs, ht⟩⟩ := h
  · exact ⟨none, 0, by rw [h2], by omega, by omega⟩
  · unfold maxLen at hm; exact ⟨_, cap, rfl, hc, hm⟩
theorem vol_one (i g n : Int) (a : Option Addr) (m c : Nat) : (#[Value.int .i64 i, .int .i64 g, .int .i64 n, .slice a m c] : Array Value).all (·.oneCell') = true := by simp [Value.oneCell']
theorem vol_size4 : (Try.prog.info? 33).map (·.size) = some 4 := by kernel_rfl
theorem vol_zero (w : World) : (zeroValue 33).run Try.prog w = .ok (.agg #[.int .i64 0, .int .i64 0, .int .i64 0, .slice none 0 0]) w := by kernel_rfl
theorem res_vol {fn : Func} {p : Tmp} (h : fn.results = #[.cell p 33]) (tmps : Array Value) (w : World) (g : Nat) (i gn n : Int) (v : Value) (hp : tmps.getD p undef = .pointer (some ⟨g, 0, none⟩)) (hr : w.heap[g]? = some (.cells #[.int .i64 i, .int .i64 gn, .int .i64 n, v] 33 (0, 0))) :
    (results fn tmps).run Try.prog w = .ok (.agg #[.int .i64 i, .int .i64 gn, .int .i64 n, v]) w :=
  results_cell_row h tmps w g 33 _ (0, 0) _ hp hr Try.underlying33 rfl vol_size4
set_option maxRecDepth 100000 in
set_option maxHeartbeats 4000000 in
theorem pinOf_any (i g n : Int) (v : Value) (w : World) : Calls Try.prog 22 #[.agg #[.int .i64 i, .int .i64 g, .int .i64 n, v]] w fun e w' => e = .returned (.agg #[.int .i64 i, .int .i64 g]) ∧ Below w.heap.size w w' := by
  go_enter Try.func22, Try.ntmps22
  go_wp2_with fail
  refine bodyPost_ret (results_cell_row rfl _ _ (w.heap.size + 1) 50 _ (0, 0) _ rfl (by rw [show w.heap.size + 1 = (w.alloc (.cells #[.int .i64 i, .int .i64 g, .int .i64 n, v] 33)).heap.size by rw [World.size_alloc]]; exact heap_alloc_new _ _) Try.underlying50 rfl (by kernel_rfl)) rfl ?_
  exact ⟨rfl, ((Below.refl _ _).alloc (Nat.le_refl _) _).alloc (by rw [World.size_alloc]; omega) _⟩
set_option maxRecDepth 100000 in
set_option maxHeartbeats 4000000 in
theorem copied_any (i g n : Int) (a : Option Addr) (m c : Nat) (l : List (Int × Int)) (w : World) (hl : l.length = m) (hm : m ≤ 8796093022208) (h : LocsAt w a l) : Calls Try.prog 23 #[.agg #[.int .i64 i, .int .i64 g, .int .i64 n, .slice a m c]] w fun e w' => ∃ a' c', e = .returned (.agg #[.int .i64 i, .int .i64 g, .int .i64 n, .slice a' m c']) ∧ (∀ B, LocsK B w' a' l) ∧ Below w.heap.size w w' := by
  have hb1 : Below w.heap.size w ((w.alloc (.cells #[.int .i64 i, .int .i64 g, .int .i64 n, .slice a m c] 33)).alloc (.cells #[.int .i64 0, .int .i64 0, .int .i64 0, .slice none 0 0] 33)) := ((Below.refl _ _).alloc (Nat.le_refl _) _).alloc (by rw [World.size_alloc]; omega) _
  have HC := hide (clone_locs a m c l _ hl hm (h.below hb1))
  have hz := vol_zero
  clear h hb1
  go_enter Try.func23, Try.ntmps23
  go_wp2_with fail
  refine HC.out.mono ?_
  rintro e w3 ⟨v', rfl, hown, hB⟩
  obtain ⟨a', c', rfl, _, _⟩ := own_slice hown
  have hs2 : ((w.alloc (.cells #[.int .i64 i, .int .i64 g, .int .i64 n, .slice a m c] 33)).alloc (.cells #[.int .i64 0, .int .i64 0, .int .i64 0, .slice none 0 0] 33)).heap.size = w.heap.size + 2 := by simp [World.size_alloc]
  have h1 : w3.heap[w.heap.size]? = some (.cells #[.int .i64 i, .int .i64 g, .int .i64 n, .slice a m c] 33 (0, 0)) := (hB.block _ (by rw [hs2]; omega)).trans ((Below.heap_alloc _ _ _ (by rw [World.size_alloc]; omega)).trans (heap_alloc_new _ _))
  have h2 : w3.heap[w.heap.size + 1]? = some (.cells #[.int .i64 0, .int .i64 0, .int .i64 0, .slice none 0 0] 33 (0, 0)) := (hB.block _ (by rw [hs2]; omega)).trans (by rw [show w.heap.size + 1 = (w.alloc (.cells #[.int .i64 i, .int .i64 g, .int .i64 n, .slice a m c] 33)).heap.size by rw [World.size_alloc]]; exact heap_alloc_new _ _)
  have hbw : Below w.heap.size w w3 := (((Below.refl _ w).alloc (Nat.le_refl _) _).alloc (by rw [World.size_alloc]; omega) _).trans (hB.mono (by rw [hs2]; omega))
  rw [hs2] at hown
  have f1 : w3.frozen? ⟨w.heap.size, 3, none⟩ = false := free_of_block h1
  have c1 : w3.cell? ⟨w.heap.size, 3, none⟩ = some (.slice a m c) := cell_of_block h1
  have h3 : (w3.setCell ⟨w.heap.size, 3, none⟩ (.slice a' m c')).heap[w.heap.size]? = some (.cells #[.int .i64 i, .int .i64 g, .int .i64 n, .slice a' m c'] 33 (0, 0)) := block_setCell (c := #[.int .i64 i, .int .i64 g, .int .i64 n, .slice a m c]) (.slice a' m c') h1
  have h4 : (w3.setCell ⟨w.heap.size, 3, none⟩ (.slice a' m c')).heap[w.heap.size + 1]? = some (.cells #[.int .i64 0, .int .i64 0, .int .i64 0, .slice none 0 0] 33 (0, 0)) := (Below.heap_setCell _ _ _ _ (by show w.heap.size + 1 ≠ w.heap.size; omega)).trans h2
  have hbS : Below w.heap.size w (w3.setCell ⟨w.heap.size, 3, none⟩ (.slice a' m c')) := hbw.setCell (Nat.le_refl _) _
  have hK : (w3.setCell ⟨w.heap.size, 3, none⟩ (.slice a' m c')).ownsRow (w.heap.size + 2) 58 2 (.slice a' m c') m (lcV l) := row_keep hown fun q hq => Below.heap_setCell _ _ _ _ (by have := (own_at hown hq).1; show q ≠ w.heap.size; omega)
  have H3 := hide h3
  have H4 := hide h4
  have HBS := hide hbS
  have HK := hide hK
  clear hB hown hs2 h1 h2 hbw h3 h4 hbS hK
  go_wp2_with (first | (refine wpList_load_row rfl 33 (.tmp 1) rfl w.heap.size rfl 33 #[.int .i64 i, .int .i64 g, .int .i64 n, .slice a' m c'] (0, 0) _ H3.out Try.underlying33 rfl vol_size4 ?_) | (refine wpList_store_row rfl 33 (.tmp 2) (.tmp 7) rfl (w.heap.size + 1) #[.int .i64 i, .int .i64 g, .int .i64 n, .slice a' m c'] rfl rfl 33 _ H4.out vol_size4 rfl (vol_one _ _ _ _ _ _) ?_))
  refine bodyPost_ret (res_vol rfl _ _ (w.heap.size + 1) _ _ _ _ rfl (setRow_heap _ _ _ _ _ _ H4.out)) rfl ?_
  have hoth : ∀ q, q ≠ w.heap.size + 1 → ∀ (W : World) cs, (W.setRow (w.heap.size + 1) cs).heap[q]? = W.heap[q]? := fun q hq W cs => setRow_other _ _ _ _ hq
  refine ⟨a', c', rfl, fun B => LocsK.own (B' := w.heap.size + 2) (c := c') (by rw [hl]; exact row_keep HK.out fun q hq => hoth q (by have := (own_at HK.out hq).1; omega) _ _), ?_⟩
  have hS := HBS.out
  exact ⟨hS.os, hS.tape, hS.output, by rw [setRow_size]; exact hS.size, fun k hk => (hoth k (by omega) _ _).trans (hS.block k hk)⟩
end Go.Proofs.Ytghcekhlohgkaaa
