/- What a disk's copied and Copy of the disks answer. -/
import Derived.Test.YtnpioaidbmllkaaDkLive
import Derived.Lib.SliceRun
namespace Go.Proofs.Ytnpioaidbmllkaa
open Go.RowKit
set_option linter.unusedVariables false
theorem wr_cells_one (l : List (Nat × ByteArray)) : ∀ u ∈ wtV l, u.oneCell' = true := wtV_one l
theorem row_cells {w : World} {base : Nat} {e : TypeId} {v : Value} {n : Nat} {xs : List Value} (h : w.ownsRow base e 2 v n xs) : v = .slice none 0 0 ∧ n = 0 ∧ xs = [] ∨ ∃ g c, v = .slice (some ⟨g, 0, none⟩) n c ∧ g < w.heap.size ∧ xs.length = n * 2 ∧ ∀ j u, xs[j]? = some u → w.cell? ((⟨g, 0, none⟩ : Addr).add j) = some u := by
  obtain ⟨hl, ⟨h1, h2⟩ | ⟨g, cap, cur, hv, hb, hg, hc, hm, hz, ht⟩⟩ := h
  · exact .inl ⟨h1, h2, List.eq_nil_of_length_eq_zero (by rw [hl, h2])⟩
  · refine .inr ⟨g, cap, hv, lt_of_block hg, hl, fun j u hj => ?_⟩
    have ha : (⟨g, 0, none⟩ : Addr).add j = ⟨g, j, none⟩ := by unfold Addr.add; split <;> simp_all
    have hjl : j < n * 2 := by have := (List.getElem?_eq_some_iff.1 hj).1; omega
    rw [ha, cell_of_block hg]
    rw [← ht, List.getElem?_take, if_pos hjl, Array.getElem?_toList] at hj
    exact hj
theorem own_empty (w : World) (base : Nat) (hb : base ≤ w.heap.size) : (w.alloc (.cells #[] 72)).ownsRow base 72 2 (.slice (some ⟨w.heap.size, 0, none⟩) 0 0) 0 [] :=
  ⟨rfl, .inr ⟨w.heap.size, 0, #[], rfl, hb, heap_alloc_new _ _, Nat.le_refl _, Nat.zero_le _, rfl, rfl⟩⟩
set_option maxRecDepth 100000 in
set_option maxHeartbeats 2000000 in
theorem clone_any (v : Value) (n : Nat) (l : List (Nat × ByteArray)) (w : World) (h : w.ownsRow 0 72 2 v n (wtV l)) (hn : n < 1000000) :
    Calls Try.prog 49 #[v] w fun e w' => ∃ v', e = .returned v' ∧ w'.ownsRow w.heap.size 72 2 v' n (wtV l) ∧ Below w.heap.size w w' := by
  have HO := hide (wtV_one l)
  have qN : ∀ w : World, (binOp .eql 48 (.slice none 0 0) (.slice none 0 0)).run Try.prog w = .ok (.bool true) w := fun w => Lib.run_eql_slice_nil w _ _ none 0 0 0 0 Try.underlying48
  have qS : ∀ (w : World) (a : Addr) (n c : Nat), (binOp .eql 48 (.slice (some a) n c) (.slice none 0 0)).run Try.prog w = .ok (.bool false) w := fun w a n c => Lib.run_eql_slice_nil w _ _ (some a) n c 0 0 Try.underlying48
  rcases row_cells h with ⟨rfl, rfl, hx⟩ | ⟨g, c, rfl, hg, hl, hc⟩
  · have HX := hide hx
    clear h hx
    go_enter Try.func49, Try.ntmps49
    go_wp2_with fail
    try go_ret
    exact ⟨_, rfl, by rw [HX.out]; exact World.ownsRow_nil _ _ _ _, Below.refl _ _⟩
  · obtain ⟨i0, hi0, hz0, hz1, hz2⟩ := info_parts wr_info
    have HI := hide hi0
    have HI0 := hide hz0
    have HI1 := hide hz1
    have HI2 := hide hz2
    have HC : Hid (∀ j u, (wtV l)[j]? = some u → (w.alloc (.cells #[] 72)).cell? ((⟨g, 0, none⟩ : Addr).add j) = some u) := fun j u hj => by
      have ha : (⟨g, 0, none⟩ : Addr).add j = ⟨g, j, none⟩ := by unfold Addr.add; split <;> simp_all
      have := hc j u hj
      rw [ha] at this ⊢
      exact (World.cell?_of_block (w := w) (a := ⟨g, j, none⟩) (Below.heap_alloc _ _ _ hg)).trans this
    have HL := hide hl
    clear h hc hi0 hz0 hz1 hz2 hl
    go_enter Try.func49, Try.ntmps49
    go_wp2_with (first | (at_builtin; refine wpList_append_own _ rfl (.tmp 5) (.tmp 6) 48 rfl w.heap.size 72 i0 (.agg #[.int .i64 0, .string ByteArray.empty]) 2 24 Try.underlying48 HI.out HI0.out HI1.out HI2.out rfl (by decide) _ 0 [] rfl (own_empty _ _ (Nat.le_refl _)) ⟨g, 0, none⟩ n c (wtV l) rfl HL.out HC.out HO.out (by unfold maxLen; omega) (by omega) (by rw [World.size_alloc]; omega) ?_; intro v' w3 hown hgr hnil; clear hnil; have HB : Hid (Below w.heap.size w w3) := Below.grown ((Below.refl _ w).alloc (Nat.le_refl _) _) hgr (by rw [World.size_alloc]; omega) (fun g' hg' => by cases hg'; exact Nat.le_refl _); rw [Nat.zero_add, List.nil_append] at hown; have HW := hide hown; clear hown hgr))
    try go_ret
    exact ⟨_, rfl, HW.out, HB.out⟩
theorem Bk.range {w : World} {b : Nat} {D : Nat → Dk} (h : Bk w b D) {d : Nat} (hd : d < 12) : w.rangeAt b (d * 114) (fnC 114 (dkV (D d))).toList := fun j v hv => by
  rw [Array.getElem?_toList] at hv
  by_cases hj : j < 114
  · rw [fnC_at _ hj] at hv
    rw [h.mem.cell (by omega), ← hv]
    unfold bkV
    rw [show (d * 114 + j) / 114 = d by omega, show (d * 114 + j) % 114 = j by omega]
  · rw [fnC_none _ hj] at hv; cases hv
theorem wait_put (x : Dk) (v : Value) : (fnC 114 (dkV x)).setIfInBounds 113 v = fnC 114 (dkV ⟨x.lost, x.sec, v, x.ws⟩) := by
  rw [fnC_set]
  refine fnC_congr fun q _ => ?_
  unfold dkV
  by_cases c : q = 113
  · subst c; rw [if_pos rfl, if_neg (by decide), if_pos rfl]
  · rw [if_neg c]
    by_cases c0 : q = 0
    · rw [if_pos c0, if_pos c0]
    · rw [if_neg c0, if_neg c0, if_neg c, if_neg c]
theorem row_one {w : World} {base : Nat} {e : TypeId} {size : Nat} {v : Value} {n : Nat} {xs : List Value} (h : w.ownsRow base e size v n xs) : v.oneCell' = true := by
  obtain ⟨_, ⟨rfl, rfl⟩ | ⟨g, cap, cur, rfl, _⟩⟩ := h <;> rfl
set_option maxRecDepth 100000 in
theorem res_disk (tmps : Array Value) (w : World) (g : Nat) (C : Array Value) (t : TypeId) (hp : tmps.getD 2 undef = .pointer (some ⟨g, 0, none⟩)) (hg : w.heap[g]? = some (.cells C t (0, 0))) (hi : (Try.prog.info? 50).map (·.size) = some C.size) : (results Try.f39 tmps).run Try.prog w = .ok (.agg C) w := by
  exact results_cell_row rfl tmps w g t C (0, 0) _ hp hg Try.underlying50 rfl hi
theorem row_weak {w : World} {base base' : Nat} {e : TypeId} {size : Nat} {v : Value} {n : Nat} {xs : List Value} (h : w.ownsRow base e size v n xs) (hb : base' ≤ base) : w.ownsRow base' e size v n xs := by
  obtain ⟨x1, x2 | ⟨g, cap, cur, q1, q2, q3⟩⟩ := h
  · exact ⟨x1, .inl x2⟩
  · exact ⟨x1, .inr ⟨g, cap, cur, q1, by omega, q3⟩⟩
/-- the world in which a disk's copy lies, ahead of Clone -/
def cpW (w : World) (Z C : Array Value) : World := ((w.alloc (.cells Z 50)).alloc (.cells Z 50)).setRow (w.heap.size + 1) C
theorem two_block (w : World) (Z : Array Value) (t : TypeId) : ((w.alloc (.cells Z t)).alloc (.cells Z t)).heap[w.heap.size + 1]? = some (.cells Z t (0, 0)) := by
  have := heap_alloc_new (w.alloc (.cells Z t)) (.cells Z t)
  rw [World.size_alloc] at this
  exact this
theorem setRow_size (w : World) (g : Nat) (cs : Array Value) : (w.setRow g cs).heap.size = w.heap.size := by unfold World.setRow; simp
theorem cpW_size (w : World) (Z C : Array Value) : (cpW w Z C).heap.size = w.heap.size + 2 := by unfold cpW; rw [setRow_size, World.size_alloc, World.size_alloc]
theorem cpW_below (w : World) (Z C : Array Value) : Below w.heap.size w (cpW w Z C) := by
  have h : Below w.heap.size w ((w.alloc (.cells Z 50)).alloc (.cells Z 50)) := ((Below.refl _ _).alloc (Nat.le_refl _) _).alloc (by rw [World.size_alloc]; omega) _
  exact ⟨h.os, h.tape, h.output, by rw [cpW_size]; omega, fun k hk => (setRow_other _ _ _ _ (by omega)).trans (h.block k hk)⟩
theorem cpW_n (w : World) (Z C : Array Value) : (cpW w Z C).heap[w.heap.size]? = some (.cells Z 50 (0, 0)) := by
  unfold cpW
  rw [setRow_other _ _ _ _ (by omega), Below.heap_alloc _ _ _ (by rw [World.size_alloc]; omega)]
  exact heap_alloc_new _ _
theorem cpW_m (w : World) (Z C : Array Value) : (cpW w Z C).heap[w.heap.size + 1]? = some (.cells C 50 (0, 0)) := setRow_heap _ _ _ _ _ _ (two_block w Z _)
set_option maxRecDepth 100000 in
set_option maxHeartbeats 2000000 in
theorem copied_any (b d : Nat) (D : Nat → Dk) (w : World) (h : Bk w b D) (hd : d < 12) (hn : (D d).ws.length < 1000000) :
    Calls Try.prog 39 #[.pointer (some ⟨b, d * 114, none⟩)] w fun e w' => ∃ v', e = .returned (.agg (fnC 114 (dkV ⟨(D d).lost, (D d).sec, v', (D d).ws⟩))) ∧ w'.ownsRow w.heap.size 72 2 v' (D d).ws.length (wtV (D d).ws) ∧ Below w.heap.size w w' := by
  have hz := zero_disk
  have hzs : (fnC 114 (dkV dk0)).size = 114 := fnC_size _ _
  have HZ : Hid ((Try.prog.info? 50).map (·.size) = some (fnC 114 (dkV dk0)).size) := disk_size' _
  generalize fnC 114 (dkV dk0) = Z at *
  have hb0 : Below w.heap.size w (w.alloc (.cells Z 50)) := (Below.refl _ _).alloc (Nat.le_refl _) _
  have HR := hide ((h.below hb0).range hd)
  have HSI := hide (disk_size' (D d))
  have HO := hide (dkV_one (D d) (row_one (h.rows d hd)))
  have H := hide h
  have hcs : (fnC 114 (dkV (D d))).size = 114 := fnC_size _ _
  have HP := hide (wait_put (D d))
  have HLS : Hid ((Try.prog.info? 50).map (·.size) = some (fnC 114 (dkV (D d))).toList.length) := by show _ = _; rw [Array.length_toList]; exact HSI.out
  clear h hb0
  generalize fnC 114 (dkV (D d)) = C at *
  have hne : ¬ Z = #[] := by intro e; subst e; simp at hzs
  go_enter Try.func39, Try.ntmps39
  go_wp2_with (first | (refine wpList_load_mid rfl 50 (.tmp 5) rfl b (d * 114) rfl C.toList _ HR.out Try.underlying50 rfl HLS.out ?_; rw [Array.toArray_toList]) | (refine wpList_store_row rfl 50 (.tmp 3) (.tmp 6) rfl (w.heap.size + 1) C rfl rfl 50 Z (two_block w Z _) HSI.out (by rw [hzs, hcs]) HO.out ?_; have hW1 := cpW_size w Z C; have hW2 := cpW_below w Z C; have hW3 := cpW_n w Z C; have hW4 := cpW_m w Z C; change wpList _ _ _ _ _ (cpW w Z C); generalize cpW w Z C = W at *; have HW1 := hide hW1; have HW2 := hide hW2; have HW3 := hide hW3; have HW4 := hide hW4; have hcw := (H.out.below hW2).wait hd; clear hW1 hW2 hW3 hW4))
  refine (clone_any _ _ _ _ (row_keep (H.out.rows d hd) fun g hg => HW2.out.block g (row_lt (H.out.rows d hd) hg)) hn).mono ?_
  rintro e W3 ⟨v', rfl, hown, hB⟩
  have hw := HW1.out
  have h3 := (hB.block w.heap.size (by omega)).trans HW3.out
  have h4 := (hB.block (w.heap.size + 1) (by omega)).trans HW4.out
  have hc4 : W3.cell? ⟨w.heap.size + 1, 113, none⟩ = C[113]? := cell_of_block h4
  obtain ⟨c9, hc9⟩ : ∃ c, C[113]? = some c := ⟨C[113], Array.getElem?_eq_getElem (by omega)⟩
  rw [hc9] at hc4
  have hf4 : W3.frozen? ⟨w.heap.size + 1, 113, none⟩ = false := free_of_block h4
  have hS : Below w.heap.size w (W3.setCell ⟨w.heap.size + 1, 113, none⟩ v') := (HW2.out.trans (hB.mono (by omega))).setCell (by show w.heap.size ≤ w.heap.size + 1; omega) _
  have h3' : (W3.setCell ⟨w.heap.size + 1, 113, none⟩ v').heap[w.heap.size]? = some (.cells Z 50 (0, 0)) := (Below.heap_setCell _ _ _ _ (by show w.heap.size ≠ w.heap.size + 1; omega)).trans h3
  have h4' : (W3.setCell ⟨w.heap.size + 1, 113, none⟩ v').heap[w.heap.size + 1]? = some (.cells (fnC 114 (dkV ⟨(D d).lost, (D d).sec, v', (D d).ws⟩)) 50 (0, 0)) := by rw [← HP.out v']; exact block_setCell _ h4
  rw [hw] at hown
  have hown' : (W3.setCell ⟨w.heap.size + 1, 113, none⟩ v').ownsRow (w.heap.size + 2) 72 2 v' (D d).ws.length (wtV (D d).ws) :=
    row_keep (w' := W3.setCell ⟨w.heap.size + 1, 113, none⟩ v') hown fun g hg => Below.heap_setCell _ _ _ _ (by have := row_low hown hg; show g ≠ w.heap.size + 1; omega)
  obtain ⟨a9, l9, hv9⟩ := row_form hown
  subst hv9
  have HS := hide hS
  have H3 := hide h3'
  have H4 := hide h4'
  have HOW := hide hown'
  have HSI2 := hide (disk_size' ⟨(D d).lost, (D d).sec, .slice a9 (D d).ws.length l9, (D d).ws⟩)
  have HO2 := hide (dkV_one ⟨(D d).lost, (D d).sec, .slice a9 (D d).ws.length l9, (D d).ws⟩ rfl)
  have hE : (fnC 114 (dkV ⟨(D d).lost, (D d).sec, .slice a9 (D d).ws.length l9, (D d).ws⟩)).size = 114 := fnC_size _ _
  clear hown hB h3 h4 hS h3' h4' hown' hc9 HP HW3 HW4
  generalize hEE : fnC 114 (dkV ⟨(D d).lost, (D d).sec, .slice a9 (D d).ws.length l9, (D d).ws⟩) = E at *
  have HEE := hide hEE
  clear hEE
  go_wp2_with (first | (refine wpList_load_row rfl 50 (.tmp 3) rfl (w.heap.size + 1) rfl 50 E (0, 0) _ H4.out Try.underlying50 rfl HSI2.out ?_) | (refine wpList_store_row rfl 50 (.tmp 2) (.tmp 13) rfl w.heap.size E rfl rfl 50 Z H3.out HSI2.out (by rw [hzs, hE]) HO2.out ?_))
  refine bodyPost_ret (res_disk _ _ w.heap.size E 50 rfl (setRow_heap _ _ _ _ _ _ H3.out) HSI2.out) rfl ?_
  refine ⟨_, by rw [HEE.out], row_weak (row_keep HOW.out fun g hg => ?_) (by omega), ?_⟩
  · exact setRow_other _ _ _ _ (by have := row_low HOW.out hg; omega)
  · have hS := HS.out
    exact ⟨hS.os, hS.tape, hS.output, by rw [setRow_size]; exact hS.size, fun k hk => (setRow_other _ _ _ _ (by omega)).trans (hS.block k hk)⟩
end Go.Proofs.Ytnpioaidbmllkaa
