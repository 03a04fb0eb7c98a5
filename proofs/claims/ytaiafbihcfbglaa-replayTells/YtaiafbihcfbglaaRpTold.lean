/- What law 12's told and own answer: the same records, in a row of one's own. -/
import Derived.Test.YtaiafbihcfbglaaRpLists
import Derived.Test.YtaiafbihcfbglaaRcAlone
namespace Go.Proofs.Ytaiafbihcfbglaa
open Go.RowKit
set_option linter.unusedVariables false
theorem rec_full : (Try.prog.info? 55).map (fun i => (i.zero, i.size, i.bytes)) = some (some (.agg (rcs Rc.zero none 0)), 14, 152) := by kernel_rfl
theorem ref_full : (Try.prog.info? 33).map (fun i => (i.zero, i.size, i.bytes)) = some (some (.agg (rcs Rc.zero none 0)), 14, 152) := by kernel_rfl
theorem cell_rec_new (w : World) (x : RT) (t : TypeId) : ∀ j u, (rtC x).toList[j]? = some u → (w.alloc (.cells (rtC x) t)).cell? ((⟨w.heap.size, 0, none⟩ : Addr).add j) = some u := by
  intro j u hj
  rw [add_plain, cell_of_block (heap_alloc_new w (.cells (rtC x) t)), Nat.zero_add, ← Array.getElem?_toList]
  exact hj
theorem rtC_one (x : RT) : ∀ u ∈ (rtC x).toList, u.oneCell' = true := by
  intro u hu
  simp [rtC, rcs] at hu
  rcases hu with rfl | rfl | rfl | rfl | rfl | rfl | rfl | rfl | rfl | rfl | rfl | rfl | rfl | rfl <;> rfl
theorem rt_step {l : List RT} {k : Nat} {x : RT} (h : l[k]? = some x) : rtV (l.take (k + 1)) = rtV (l.take k) ++ (rtC x).toList := by rw [List.take_add_one, h]; exact rtV_snoc _ _
set_option maxRecDepth 100000 in
set_option maxHeartbeats 8000000 in
theorem rtold_any (a : Option Addr) (c n : Nat) (l : List RT) (w : World) (hl : l.length = n) (hn : n ≤ 100000) (h : RecsAt w a l) : Calls Try.prog 15 #[.slice a n c] w fun e w' => ∃ a' c', e = .returned (.slice a' n c') ∧ n ≤ c' ∧ RecsAt w' a' l ∧ Below w.heap.size w w' := by
  have HL := hide hl
  have HR := hide h
  obtain ⟨i0, hi, hz0, hz1, hz2⟩ := info_parts ref_full
  have HI := hide hi
  have HI0 := hide hz0
  have HI1 := hide hz1
  have HI2 := hide hz2
  clear hl h hi hz0 hz1 hz2
  go_enter Try.func15, Try.ntmps15
  go_wp2_with fail
  go_loopw [3, 4] (fun x y wr => ∃ k : Nat, k ≤ n ∧ y = .int .i64 k ∧ GR w wr 33 14 x k (rtV (l.take k))) (fun _ y _ => n - (intOf y).toNat)
  case atStart => exact ⟨0, by omega, rfl, by simpa [rtV] using GR.nil w w 33 14 (Below.refl _ _)⟩
  case round =>
    obtain ⟨k, hk, rfl, hg⟩ := hrel
    have HG := hide hg
    clear hg
    by_cases hlt : k < n
    · have hd : decide ((k : Int) < (n : Int)) = true := by simp; omega
      have hdi : (k : Int) < (n : Int) := by omega
      have hd0 : (0 : Int) ≤ (k : Int) := by omega
      obtain ⟨⟨x, xa, xc⟩, hx⟩ : ∃ x, l[k]? = some x := ⟨_, List.getElem?_eq_getElem (by have := HL.out; omega)⟩
      obtain ⟨b1, o1, rfl, hb1, p1, q1⟩ := (HR.out.below HG.out.2).nth hx
      have HX := hide (rt_step hx)
      have P1 := hide p1
      have hal1 : Below wr.heap.size wr (wr.alloc (.cells #[.int .i64 0, .int .i64 0, .int .i64 0, .int .i64 0, .int .i64 0, .slice none 0 0, .string { data := #[] }, .int .i64 0, .int .i64 0, .int .i64 0, .string { data := #[] }, .string { data := #[] }, .int .i64 0, .int .i64 0] 55)) := (Below.refl _ _).alloc (Nat.le_refl _) _
      have hrow1 := below_setRow hal1 (Nat.le_refl _) (rcs x xa xc)
      have N1 : Hid (RBx wr.heap.size 55 Rc.zero none 0 (wr.alloc (.cells #[.int .i64 0, .int .i64 0, .int .i64 0, .int .i64 0, .int .i64 0, .slice none 0 0, .string { data := #[] }, .int .i64 0, .int .i64 0, .int .i64 0, .string { data := #[] }, .string { data := #[] }, .int .i64 0, .int .i64 0] 55))) := rbx_new 55 Rc.zero none 0 wr
      have X1 : Hid (RBx wr.heap.size 55 x xa xc ((wr.alloc (.cells #[.int .i64 0, .int .i64 0, .int .i64 0, .int .i64 0, .int .i64 0, .slice none 0 0, .string { data := #[] }, .int .i64 0, .int .i64 0, .int .i64 0, .string { data := #[] }, .string { data := #[] }, .int .i64 0, .int .i64 0] 55)).setRow wr.heap.size (rcs x xa xc))) := N1.out.row x xa xc
      have G1 : Hid (GR w ((wr.alloc (.cells #[.int .i64 0, .int .i64 0, .int .i64 0, .int .i64 0, .int .i64 0, .slice none 0 0, .string { data := #[] }, .int .i64 0, .int .i64 0, .int .i64 0, .string { data := #[] }, .string { data := #[] }, .int .i64 0, .int .i64 0] 55)).setRow wr.heap.size (rcs x xa xc)) 33 14 u3 k (rtV (l.take k))) := HG.out.below hrow1
      clear hx p1 q1 hal1 hrow1 HG
      go_wp2_with (first | (refine wpList_load_mid rfl 55 (.tmp 14) rfl b1 (o1 + k * 14) rfl (rtC (x, xa, xc)).toList _ P1.out Try.underlying55 rfl rec_info ?_; rw [show (rtC (x, xa, xc)).toList.toArray = rcs x xa xc from rfl]) | (refine wpList_store_row rfl 55 (.tmp 5) (.tmp 15) rfl wr.heap.size (rcs x xa xc) rfl rfl 55 (rcs Rc.zero none 0) N1.out rec_info rfl (rcs_one _ _ _) ?_; generalize (wr.alloc (.cells #[.int .i64 0, .int .i64 0, .int .i64 0, .int .i64 0, .int .i64 0, .slice none 0 0, .string { data := #[] }, .int .i64 0, .int .i64 0, .int .i64 0, .string { data := #[] }, .string { data := #[] }, .int .i64 0, .int .i64 0] 55)).setRow wr.heap.size (rcs x xa xc) = W1 at *; generalize wr.heap.size = bb1 at *; obtain ⟨c0, c1, c2, c3, c4, c5, c6, c7, c8, c9, c10, c11, c12, c13⟩ := X1.out.cells) | (at_builtin; refine wpList_append_own _ rfl (.tmp 16) (.tmp 32) 23 rfl w.heap.size 33 i0 (.agg (rcs Rc.zero none 0)) 14 152 Try.underlying23 HI.out HI0.out HI1.out HI2.out rfl (by decide) u3 k (rtV (l.take k)) rfl (own_alloc G1.out.1 _) ⟨W1.heap.size, 0, none⟩ 1 1 (rtC (x, xa, xc)).toList rfl rfl (cell_rec_new W1 (x, xa, xc) 33) (rtC_one _) (by unfold maxLen; omega) (by omega) (by rw [World.size_alloc]; have := G1.out.2.size; omega) ?_; intro v' w3 hown hgr hnil; clear hnil; have G3 := hide (G1.out.step hown hgr); clear hown hgr))
      rw [← HX.out] at G3
      exact ⟨⟨k + 1, by omega, by go_num, G3.out⟩, by simp [intOf]; omega⟩
    · have hd : decide ((k : Int) < (n : Int)) = false := by simp; omega
      have hdi : ¬ (k : Int) < (n : Int) := by omega
      have HT : Hid (l.take k = l) := List.take_of_length_le (by have := HL.out; omega)
      rw [HT.out] at HG
      obtain rfl : k = n := by omega
      have hgl := HG.out.1
      rw [← HL.out] at hgl
      obtain ⟨a', c', e1, hc', hrec⟩ := recs_own hgl (fun x hx => (HR.out.2 x hx).below HG.out.2)
      rw [HL.out] at e1 hc'
      have HF := hide hrec
      have HB := hide HG.out.2
      clear hgl hrec HG HT
      subst e1
      go_wp2_with fail
      try go_ret
      exact ⟨a', c', rfl, hc', HF.out, HB.out⟩
set_option maxRecDepth 100000 in
set_option maxHeartbeats 8000000 in
theorem rown_any (a : Option Addr) (c n : Nat) (l : List RT) (w : World) (hl : l.length = n) (hn : n ≤ 100000) (h : RecsAt w a l) : Calls Try.prog 17 #[.slice a n c] w fun e w' => ∃ a' c', e = .returned (.slice a' n c') ∧ n ≤ c' ∧ RecsAt w' a' l ∧ Below w.heap.size w w' := by
  have HL := hide hl
  have HR := hide h
  obtain ⟨i0, hi, hz0, hz1, hz2⟩ := info_parts rec_full
  have HI := hide hi
  have HI0 := hide hz0
  have HI1 := hide hz1
  have HI2 := hide hz2
  clear hl h hi hz0 hz1 hz2
  go_enter Try.func17, Try.ntmps17
  go_wp2_with fail
  go_loopw [3, 4] (fun x y wr => ∃ k : Nat, k ≤ n ∧ y = .int .i64 k ∧ GR w wr 55 14 x k (rtV (l.take k))) (fun _ y _ => n - (intOf y).toNat)
  case atStart => exact ⟨0, by omega, rfl, by simpa [rtV] using GR.nil w w 55 14 (Below.refl _ _)⟩
  case round =>
    obtain ⟨k, hk, rfl, hg⟩ := hrel
    have HG := hide hg
    clear hg
    by_cases hlt : k < n
    · have hd : decide ((k : Int) < (n : Int)) = true := by simp; omega
      have hdi : (k : Int) < (n : Int) := by omega
      have hd0 : (0 : Int) ≤ (k : Int) := by omega
      obtain ⟨⟨x, xa, xc⟩, hx⟩ : ∃ x, l[k]? = some x := ⟨_, List.getElem?_eq_getElem (by have := HL.out; omega)⟩
      obtain ⟨b1, o1, rfl, hb1, p1, q1⟩ := (HR.out.below HG.out.2).nth hx
      have HX := hide (rt_step hx)
      have P1 := hide p1
      have hal1 : Below wr.heap.size wr (wr.alloc (.cells #[.int .i64 0, .int .i64 0, .int .i64 0, .int .i64 0, .int .i64 0, .slice none 0 0, .string { data := #[] }, .int .i64 0, .int .i64 0, .int .i64 0, .string { data := #[] }, .string { data := #[] }, .int .i64 0, .int .i64 0] 33)) := (Below.refl _ _).alloc (Nat.le_refl _) _
      have hrow1 := below_setRow hal1 (Nat.le_refl _) (rcs x xa xc)
      have N1 : Hid (RBx wr.heap.size 33 Rc.zero none 0 (wr.alloc (.cells #[.int .i64 0, .int .i64 0, .int .i64 0, .int .i64 0, .int .i64 0, .slice none 0 0, .string { data := #[] }, .int .i64 0, .int .i64 0, .int .i64 0, .string { data := #[] }, .string { data := #[] }, .int .i64 0, .int .i64 0] 33))) := rbx_new 33 Rc.zero none 0 wr
      have X1 : Hid (RBx wr.heap.size 33 x xa xc ((wr.alloc (.cells #[.int .i64 0, .int .i64 0, .int .i64 0, .int .i64 0, .int .i64 0, .slice none 0 0, .string { data := #[] }, .int .i64 0, .int .i64 0, .int .i64 0, .string { data := #[] }, .string { data := #[] }, .int .i64 0, .int .i64 0] 33)).setRow wr.heap.size (rcs x xa xc))) := N1.out.row x xa xc
      have G1 : Hid (GR w ((wr.alloc (.cells #[.int .i64 0, .int .i64 0, .int .i64 0, .int .i64 0, .int .i64 0, .slice none 0 0, .string { data := #[] }, .int .i64 0, .int .i64 0, .int .i64 0, .string { data := #[] }, .string { data := #[] }, .int .i64 0, .int .i64 0] 33)).setRow wr.heap.size (rcs x xa xc)) 55 14 u3 k (rtV (l.take k))) := HG.out.below hrow1
      clear hx p1 q1 hal1 hrow1 HG
      go_wp2_with (first | (refine wpList_load_mid rfl 33 (.tmp 14) rfl b1 (o1 + k * 14) rfl (rtC (x, xa, xc)).toList _ P1.out Try.underlying33 rfl ref_info ?_; rw [show (rtC (x, xa, xc)).toList.toArray = rcs x xa xc from rfl]) | (refine wpList_store_row rfl 33 (.tmp 5) (.tmp 15) rfl wr.heap.size (rcs x xa xc) rfl rfl 33 (rcs Rc.zero none 0) N1.out ref_info rfl (rcs_one _ _ _) ?_; generalize (wr.alloc (.cells #[.int .i64 0, .int .i64 0, .int .i64 0, .int .i64 0, .int .i64 0, .slice none 0 0, .string { data := #[] }, .int .i64 0, .int .i64 0, .int .i64 0, .string { data := #[] }, .string { data := #[] }, .int .i64 0, .int .i64 0] 33)).setRow wr.heap.size (rcs x xa xc) = W1 at *; generalize wr.heap.size = bb1 at *; obtain ⟨c0, c1, c2, c3, c4, c5, c6, c7, c8, c9, c10, c11, c12, c13⟩ := X1.out.cells) | (at_builtin; refine wpList_append_own _ rfl (.tmp 16) (.tmp 32) 34 rfl w.heap.size 55 i0 (.agg (rcs Rc.zero none 0)) 14 152 Try.underlying34 HI.out HI0.out HI1.out HI2.out rfl (by decide) u3 k (rtV (l.take k)) rfl (own_alloc G1.out.1 _) ⟨W1.heap.size, 0, none⟩ 1 1 (rtC (x, xa, xc)).toList rfl rfl (cell_rec_new W1 (x, xa, xc) 55) (rtC_one _) (by unfold maxLen; omega) (by omega) (by rw [World.size_alloc]; have := G1.out.2.size; omega) ?_; intro v' w3 hown hgr hnil; clear hnil; have G3 := hide (G1.out.step hown hgr); clear hown hgr))
      rw [← HX.out] at G3
      exact ⟨⟨k + 1, by omega, by go_num, G3.out⟩, by simp [intOf]; omega⟩
    · have hd : decide ((k : Int) < (n : Int)) = false := by simp; omega
      have hdi : ¬ (k : Int) < (n : Int) := by omega
      have HT : Hid (l.take k = l) := List.take_of_length_le (by have := HL.out; omega)
      rw [HT.out] at HG
      obtain rfl : k = n := by omega
      have hgl := HG.out.1
      rw [← HL.out] at hgl
      obtain ⟨a', c', e1, hc', hrec⟩ := recs_own hgl (fun x hx => (HR.out.2 x hx).below HG.out.2)
      rw [HL.out] at e1 hc'
      have HF := hide hrec
      have HB := hide HG.out.2
      clear hgl hrec HG HT
      subst e1
      go_wp2_with fail
      try go_ret
      exact ⟨a', c', rfl, hc', HF.out, HB.out⟩
end Go.Proofs.Ytaiafbihcfbglaa
