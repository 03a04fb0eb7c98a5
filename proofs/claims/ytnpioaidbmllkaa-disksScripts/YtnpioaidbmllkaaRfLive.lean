/- What the document's Live and Ints answer. -/
import Derived.Test.YtnpioaidbmllkaaRfNew
namespace Go.Proofs.Ytnpioaidbmllkaa
open Go.RowKit
set_option linter.unusedVariables false
theorem thereL_succ (f : Nat → Bool) (k : Nat) : thereL f (k + 1) = if f k then thereL f k ++ [k] else thereL f k := rfl
set_option maxRecDepth 100000 in
set_option maxHeartbeats 2000000 in
theorem rLive_any (rb : Nat) (v : Value) (R : Nat → Rk) (C : Nat → Ct) (w : World) (h : RB w rb v 12 R) (hC : ContR R C) :
    Calls Try.prog 14 #[.pointer (some ⟨rb, 0, none⟩)] w fun e w' => ∃ u, e = .returned u ∧ NumsAt w' w.heap.size u (lvC C) ∧ Below w.heap.size w w' := by
  obtain ⟨i0, hi0, hz0, hz1, hz2⟩ := info_parts int_info
  have HI := hide hi0
  have HI0 := hide hz0
  have HI1 := hide hz1
  have HI2 := hide hz2
  have H := hide h
  have HC := hide hC
  clear hi0 hz0 hz1 hz2 h hC
  unfold lvC
  go_enter Try.func14, Try.ntmps14
  go_wp2_with fail
  go_loopw [3, 4] (fun u y wr => ∃ k : Nat, k ≤ 12 ∧ y = .int .i64 k ∧ NumsAt wr w.heap.size u (thereL (fun d => !(C d).lost) k) ∧ Below w.heap.size w wr) (fun _ y _ => 12 - (intOf y).toNat)
  case atStart => exact ⟨0, by omega, rfl, nums_nil _ _, Below.refl _ _⟩
  case round =>
    obtain ⟨k, hk, rfl, hN, hB⟩ := hrel
    have HN := hide hN
    have HB := hide hB
    have hsz := hB.size
    have hlen := thereL_len (fun d => !(C d).lost) k
    clear hN
    by_cases hlt : k < 12
    · obtain ⟨gd, cap, hv, hc12, hcm, cB, cP, -⟩ := (H.out.below hB).at hlt
      have cL := ((H.out.below hB).dk k hlt).c2
      rw [HC.out k hlt] at cL
      subst hv
      have hd1 : decide ((k : Int) < 12) = true := by simp; omega
      have g2 : (k : Int) < 12 := by omega
      have g3 : (0 : Int) ≤ (k : Int) := by omega
      have HT := hide (thereL_succ (fun d => !(C d).lost) k)
      generalize (R k).p = pp at *
      generalize thereL (fun d => !(C d).lost) k = l at *
      clear hB
      cases hl : (C k).lost
      · rw [hl] at cL
        have HT2 : Hid (thereL (fun d => !(C d).lost) (k + 1) = l ++ [k]) := by show thereL _ _ = _; rw [HT.out, hl]; rfl
        clear hl
        go_wp2_with (first | (at_builtin; refine wpList_append_own _ rfl (.tmp 20) (.tmp 22) 33 rfl w.heap.size 3 i0 (.int .i64 0) 1 8 Try.underlying33 HI.out HI0.out HI1.out HI2.out rfl (by decide) _ l.length (numV l) rfl (row_keep HN.out (fun g hg => Below.heap_alloc _ _ _ (row_lt HN.out hg))) ⟨wr.heap.size, 0, none⟩ 1 1 [.int .i64 (k : Int)] rfl rfl (one_new _ _ _) (by simp [Value.oneCell']) (by unfold maxLen; omega) (by omega) (by rw [World.size_alloc]; omega) ?_; intro v' w3 hown hgr hnil; clear hnil; have HS := hide (nums_step HN.out HB.out hown hgr); clear hown hgr))
        exact ⟨⟨k + 1, by omega, by go_num, by rw [HT2.out]; exact HS.out.1, HS.out.2⟩, by simp [intOf]; omega⟩
      · rw [hl] at cL
        have HT2 : Hid (thereL (fun d => !(C d).lost) (k + 1) = l) := by show thereL _ _ = _; rw [HT.out, hl]; rfl
        clear hl
        go_wp2_with fail
        exact ⟨⟨k + 1, by omega, by go_num, by rw [HT2.out]; exact HN.out, HB.out⟩, by simp [intOf]; omega⟩
    · have hk12 : k = 12 := by omega
      have hd1 : decide ((k : Int) < 12) = false := by simp; omega
      have HK := hide hk12
      clear hk12 hB
      go_wp2_with fail
      try go_ret
      exact ⟨_, rfl, by rw [← HK.out]; exact HN.out, HB.out⟩
theorem nums_at {w : World} {base : Nat} {v : Value} {l : List Nat} (h : NumsAt w base v l) {i x : Nat} (hx : l[i]? = some x) : ∃ g c, v = .slice (some ⟨g, 0, none⟩) l.length c ∧ w.cell? ⟨g, i, none⟩ = some (.int .i64 (x : Int)) := by
  have hi : i < l.length := (List.getElem?_eq_some_iff.1 hx).1
  obtain ⟨hl, ⟨h1, h2⟩ | ⟨g, cap, cur, hv, hb, hg, hc, hm, hz, ht⟩⟩ := h
  · rw [h2] at hi; omega
  · refine ⟨g, cap, hv, ?_⟩
    rw [cell_of_block hg]
    have h9 : (numV l)[i]? = some (.int .i64 (x : Int)) := by unfold numV; rw [List.getElem?_map, hx]; rfl
    rw [← ht, List.getElem?_take, if_pos (by omega), Array.getElem?_toList] at h9
    exact h9
set_option maxRecDepth 100000 in
set_option maxHeartbeats 2000000 in
theorem ints_same (v u : Value) (b1 b2 : Nat) (l : List Nat) (w : World) (h1 : NumsAt w b1 v l) (h2 : NumsAt w b2 u l) (hl : l.length ≤ 1000000) :
    Calls Try.prog 12 #[v, u] w fun e w' => e = .returned (.bool true) ∧ Below w.heap.size w w' := by
  obtain ⟨a, c, rfl⟩ := row_form h1
  obtain ⟨a2, c2, rfl⟩ := row_form h2
  have H1 := hide h1
  have H2 := hide h2
  generalize hL : l.length = L at *
  have HL := hide hL
  clear h1 h2 hL
  go_enter Try.func12, Try.ntmps12
  go_wp2_with fail
  go_loopw [5] (fun y wr => ∃ i : Nat, i ≤ L ∧ y = .int .i64 i ∧ wr.heap = w.heap ∧ Below w.heap.size w wr) (fun y _ => L - (intOf y).toNat)
  case atStart => exact ⟨0, by omega, rfl, rfl, Below.refl _ _⟩
  case round =>
    obtain ⟨i, hi, rfl, hm, hb⟩ := hrel
    have HM := hide hm
    have HB := hide hb
    clear hb
    by_cases hlt : i < L
    · obtain ⟨x, hx⟩ : ∃ x, l[i]? = some x := ⟨_, List.getElem?_eq_getElem (by have := HL.out; omega)⟩
      obtain ⟨g, cc, hv, hr1⟩ := nums_at H1.out hx
      obtain ⟨g', cc', hv', hr2⟩ := nums_at H2.out hx
      cases hv
      cases hv'
      have q1 : wr.cell? ⟨g, i, none⟩ = some (.int .i64 (x : Int)) := (World.cell?_of_block (w := w) (a := ⟨g, i, none⟩) (by rw [hm])).trans hr1
      have q2 : wr.cell? ⟨g', i, none⟩ = some (.int .i64 (x : Int)) := (World.cell?_of_block (w := w) (a := ⟨g', i, none⟩) (by rw [hm])).trans hr2
      have hd1 : decide ((i : Int) < (l.length : Int)) = true := by simp; omega
      have hdi : (i : Int) < (l.length : Int) := by omega
      have hni : (0 : Int) ≤ (i : Int) := by omega
      clear hm hr1 hr2 hx
      go_wp2_with fail
      go_quiet (fail)
      go_wp2_with fail
      exact ⟨⟨i + 1, by omega, by go_num, HM.out, ⟨HB.out.os, HB.out.tape, HB.out.output, HB.out.size, HB.out.block⟩⟩, by simp [intOf]; omega⟩
    · have hd1 : decide ((i : Int) < (L : Int)) = false := by simp; omega
      clear hm
      go_wp2_with fail
      try go_ret
      exact ⟨rfl, HB.out⟩
end Go.Proofs.Ytnpioaidbmllkaa
