/- The needles of a text: what needle.All answers. -/
import Derived.Test.YtomcdajoeakhdaaDoorNeAllA
namespace Go.Proofs.YtomcdajoeakhdaaDoor
open Go.RowKit Go.Shelf
set_option linter.unusedVariables false
attribute [local go_sem] Oper.semAt_some
set_option maxRecDepth 100000 in
set_option maxHeartbeats 1500000 in
theorem nall_any (s : ByteArray) (w : World) (hK : KAt w) (hs : s.size ≤ 10000) : Calls Tryd.prog 17 #[.string s] w (AllLeft s w) := by
  have HK := hide hK
  clear hK
  refine (callsIn_wide (n := 5)).1 ?_
  refine callsIn_of_wp_marks Tryd.func17 rfl trivial ?_ rfl
  simp only [Tryd.ntmps17, List.size_toArray, List.length_cons, List.length_nil, Nat.reduceAdd, Nat.reduceSub, Array.replicate_succ, Array.replicate_zero, List.push_toArray, List.append_toArray, List.nil_append, List.cons_append]
  gi_wp2_with (refine ⟨trivial, ?_⟩; gi_at_call 41; refine (each_in _ _ _).mono ?_; rintro e w' ⟨rfl, rfl⟩)
  have hsz := aW_size w s
  have hbW := aW_below w s
  obtain ⟨i0, hi0, hz0, hz1, hz2⟩ := info_parts pn_info
  obtain ⟨j0, hj0, hy0, hy1, hy2⟩ := info_parts int_info
  refine wpIn_rangeFunc_ownH (n := 5) (F := Fence.wide) rfl (by omega) (gf := 59) (lb := #[.pointer (some ⟨w.heap.size + 5, 0, none⟩)]) rfl trivial (enters_of Tryd.func59 (by kernel_rfl) rfl)
    (each_stops (5 - 1) (by omega) (w.heap.size + 5) w.heap.size s hs HK.out.1 (aW w s) (HK.out.below hbW) (by omega) (aW_5 w s))
    Kr.trans (kr_put (w := aW w s) (by omega) (by omega)) (Below.refl _ _) (fun _ => rfl) (AI w s) (AX w)
    (by have := ai_own w s; simpa using this) (by intro cc; have := ax_own w cc; simpa using this)
    (ai_start w s) (AxA w s) (fun x a' => axA_own w s _ x a') ?assign ?body ?done ?stop
  case assign =>
    intro l pre x W K hI hK
    simp only [encI]
    have hWs := hI.size
    gi_wp2
    exact hK _ _ (keeps_alloc _ _ _) ⟨by simp, fun k hk => Below.heap_alloc _ _ _ (by omega), Below.heap_alloc _ _ _ (by omega)⟩ (ai_alloc hI _) ⟨W.heap.size, rfl, hWs, heap_alloc_new _ _⟩
  case body =>
    rintro l pre x a' W hl hr hI ⟨bx, rfl, hbx, hcb⟩ hlt
    obtain ⟨⟨b0, b1, b2⟩, -⟩ := hcb.cells
    have HI := hide hI
    have hWs := hI.size
    clear hcb hr
    unfold alA
    obtain ⟨at_, ⟨K, V⟩, f⟩ := x
    simp only at b0 b1 b2 ⊢
    by_cases hf : f = 0
    · subst hf
      obtain ⟨v, v2, hv1, hv2, hr1, hr2⟩ := hI.rows
      have HV1 : Hid (Boxed W (w.heap.size + 3) 38 v) := hv1
      have HV2 : Hid (Boxed W (w.heap.size + 4) 39 v2) := hv2
      have HR1 := hide hr1
      have HR2 := hide hr2
      have hc := HV1.out.cell
      clear hv1 hv2 hr1 hr2 hI
      gi_wp2_with (first | (gi_at_builtin; refine wpListIn_append_own _ rfl (.tmp 18) (.tmp 21) 38 rfl (w.heap.size + 6) 28 i0 (.agg #[.string ByteArray.empty, .string ByteArray.empty]) 2 32 Tryd.underlying38 hi0 hz0 hz1 hz2 rfl (by decide) _ _ _ rfl (HR1.out.alloc _) ⟨W.heap.size, 0, none⟩ 1 1 [.string K, .string V] rfl rfl (cell_two_new _ _ _ _) (by simp [Value.oneCell']) (by unfold maxLen; omega) (by omega) (by rw [World.size_alloc]; omega) ?_; intro v' w1 hown' hgrow hn'; clear hn'; obtain ⟨g', cap', rfl⟩ := ownsRow_succ hown'; obtain ⟨q1, q2, q3, q4⟩ := appd HV1.out (by decide) HR1.out hown' hgrow; have hc1 := q1.cell; have hf1 := q1.frozen; have k2 : Boxed (w1.setCell ⟨w.heap.size + 3, 0, none⟩ (.slice (some ⟨g', 0, none⟩) (pre.length + 1) cap')) (w.heap.size + 4) 39 v2 := (q4.low HR1.out hWs (by omega) (by omega)).trans HV2.out; have k3 := q4.row HR1.out HR2.out HV1.out (by decide) (by decide); have hc2 := k2.cell; have hs1 := q4.size) | (gi_at_builtin; refine wpListIn_append_own _ rfl (.tmp 23) (.tmp 25) 39 rfl (w.heap.size + 6) 3 j0 (.int .i64 0) 1 8 Tryd.underlying39 hj0 hy0 hy1 hy2 rfl (by decide) _ _ _ rfl (k3.alloc _) ⟨w1.heap.size, 0, none⟩ 1 1 [.int .i64 (at_ : Int)] rfl rfl (by have := cell_one_new (w1.setCell ⟨w.heap.size + 3, 0, none⟩ (.slice (some ⟨g', 0, none⟩) (pre.length + 1) cap')) (.int .i64 (at_ : Int)) 3; simpa using this) (by simp [Value.oneCell']) (by unfold maxLen; omega) (by omega) (by simp at hs1; simp; omega) ?_; intro v'' w2 hown2 hgrow2 hn2; clear hn2; obtain ⟨g2, cap2, rfl⟩ := ownsRow_succ hown2; obtain ⟨r1, r2, r3, r4⟩ := appd k2 (by decide) k3 hown2 hgrow2; have hc3 := r1.cell; have hf3 := r1.frozen))
      have hn6 := hs1
      have low : ∀ j, j < w.heap.size + 6 → j ≠ w.heap.size + 3 → j ≠ w.heap.size + 4 → (w2.setCell ⟨w.heap.size + 4, 0, none⟩ (.slice (some ⟨g2, 0, none⟩) (pre.length + 1) cap2)).heap[j]? = W.heap[j]? := fun j hj h3 h4 =>
        (r4.low k3 (Nat.le_trans hWs q4.size) hj h4).trans (q4.low HR1.out hWs hj h3)
      have hI := HI.out
      refine ⟨(q4.others.trans r4.others).from _, ⟨Nat.le_trans q4.size r4.size, fun j hj => low j (by omega) (by omega) (by omega), low _ (by omega) (by omega) (by omega)⟩, ⟨fun y hy => ?_, ?_, Nat.le_trans hWs (Nat.le_trans q4.size r4.size), (low _ (by omega) (by omega) (by omega)).trans hI.r0, (low _ (by omega) (by omega) (by omega)).trans hI.r1, (low _ (by omega) (by omega) (by omega)).trans hI.r2, (low _ (by omega) (by omega) (by omega)).trans hI.sB, _, _, (r4.low k3 (Nat.le_trans hWs q4.size) (by omega) (by omega)).trans q2, r2, ?_, ?_⟩⟩
      · rcases List.mem_append.1 hy with c | c
        · exact hI.ok y c
        · rw [List.mem_singleton.1 c]
      · exact ⟨r4.os.trans (q4.os.trans hI.bel.os), r4.tape.trans (q4.tape.trans hI.bel.tape), r4.output.trans (q4.output.trans hI.bel.output), Nat.le_trans hI.bel.size (Nat.le_trans q4.size r4.size), fun j hj => (low j (by omega) (by omega) (by omega)).trans (hI.bel.block j hj)⟩
      · have := r4.row k3 q3 k2 (by decide) (by decide)
        rw [itV_snoc, List.length_append]
        exact this
      · rw [iaV_snoc, List.length_append]
        exact r3
    · have q1 : (f == 0) = false := by simpa using hf
      have q2 : (f != 0) = true := by simpa using hf
      have HF := hide hf
      have c0 : W.cell? ⟨w.heap.size, 0, none⟩ = some (.slice none 0 0) := cell_of_block hI.r0
      have c1 : W.cell? ⟨w.heap.size + 1, 0, none⟩ = some (.slice none 0 0) := cell_of_block hI.r1
      have c2 : W.cell? ⟨w.heap.size + 2, 0, none⟩ = some (.int .i64 0) := cell_of_block hI.r2
      have f0 : W.frozen? ⟨w.heap.size, 0, none⟩ = false := free_of_block hI.r0
      have f1 : W.frozen? ⟨w.heap.size + 1, 0, none⟩ = false := free_of_block hI.r1
      have f2 : W.frozen? ⟨w.heap.size + 2, 0, none⟩ = false := free_of_block hI.r2
      clear hI hf
      gi_wp2
      refine wpIn_calm ?_
      gi_region_with fail
      all_goals
        refine calm_normal ?_
        gi_wp2
        exact ax_fault HI.out ⟨at_, ⟨K, V⟩, f⟩ HF.out
  case done =>
    rintro Dd ys W hD ⟨k, rfl, hlf, h0⟩ hI hK
    have hD' : w.heap.size + 6 ≤ Dd := by simpa using hD
    obtain ⟨v, v2, hv1, hv2, hr1, hr2⟩ := hI.rows
    have HGo := hide (its_ok hI.ok hlf)
    rw [its_len, its_nds] at hr1
    rw [its_len, its_off] at hr2
    obtain ⟨a, c, rfl, hnd⟩ := GR.nds' (w := w) ⟨own_mono hr1 (by omega), hI.bel⟩
    obtain ⟨a2, c2', rfl, hin⟩ := GR.offs' (w := w) ⟨own_mono hr2 (by omega), hI.bel⟩
    have cv1 : W.cell? ⟨w.heap.size + 3, 0, none⟩ = some (.slice a k c) := cell_of_block (c := #[.slice a k c]) hv1
    have cv2 : W.cell? ⟨w.heap.size + 4, 0, none⟩ = some (.slice a2 k c2') := cell_of_block (c := #[.slice a2 k c2']) hv2
    have c0 : W.cell? ⟨w.heap.size, 0, none⟩ = some (.slice none 0 0) := cell_of_block hI.r0
    have c1 : W.cell? ⟨w.heap.size + 1, 0, none⟩ = some (.slice none 0 0) := cell_of_block hI.r1
    have c2 : W.cell? ⟨w.heap.size + 2, 0, none⟩ = some (.int .i64 0) := cell_of_block hI.r2
    have f0 : W.frozen? ⟨w.heap.size, 0, none⟩ = false := free_of_block hI.r0
    have f1 : W.frozen? ⟨w.heap.size + 1, 0, none⟩ = false := free_of_block hI.r1
    have f2 : W.frozen? ⟨w.heap.size + 2, 0, none⟩ = false := free_of_block hI.r2
    have HI := hide hI
    have HAL := hide (all_left hI hr1 hr2 hD' hK)
    have HK2 := hide hK
    have H0 := hide h0
    have HD : Hid (w.heap.size + 6 ≤ Dd) := hD'
    clear hI hr1 hr2 hK h0 hD hD' hlf hv1 hv2 hnd hin
    gi_wp2
    refine wpIn_calm ?_
    gi_region_with fail
    all_goals
      refine calm_normal ?_
      gi_wp2
      obtain ⟨p0, p1, p2, p3, p4, p5, p6⟩ := HAL.out
      refine ⟨by simp, .inl ⟨_, _, rfl, run_takeDeferred p0, ?_⟩⟩
      refine ⟨_, res_all _ _ w.heap.size (w.heap.size + 1) (w.heap.size + 2) _ _ _ rfl rfl rfl (cell_put p1 (by have := HD.out; omega)) (cell_put p2 (by have := HD.out; omega)) (cell_put p3 (by have := HD.out; omega)), ?_⟩
      exact ⟨k, ⟨HGo.out, .inl H0.out⟩, p4, .inl ⟨H0.out, a, c, a2, c2', rfl, p5, p6⟩⟩
  case stop =>
    rintro Dd cc pre W hD ⟨k, hpre, hlf⟩ ⟨rfl, ⟨x, pre', rfl, h1, h2, h3, h4, h5⟩, hB, hz⟩ hK
    obtain ⟨j, hE, hne, hEx⟩ := its_stop hpre hlf h1 h2
    have hD' : w.heap.size + 6 ≤ Dd := by simpa using hD
    gi_wp2
    refine ⟨by simp, .inl ⟨_, _, rfl, run_takeDeferred hK, ?_⟩⟩
    refine ⟨_, res_all _ _ w.heap.size (w.heap.size + 1) (w.heap.size + 2) _ _ _ rfl rfl rfl (cell_put h3 (by omega)) (cell_put h4 (by omega)) (cell_put h5 (by omega)), ?_⟩
    exact ⟨j, hE, ⟨hB.os, hB.tape, hB.output, by simpa using hB.size, fun k hk => (World.putObj_heap_other (by omega)).trans (hB.block k hk)⟩, .inr ⟨hne, by rw [hEx]⟩⟩
end Go.Proofs.YtomcdajoeakhdaaDoor
