/- What the functions Check and Write of package sluicegateref07 answer; headers handed from one package to the other. -/
import Derived.Test.YtjcabdgikkmlpaaSeWriteB
import Derived.Test.YtjcabdgikkmlpaaPkRefReader
namespace Go.Proofs.Ytjcabdgikkmlpaa
open Go.RowKit
set_option linter.unusedVariables false
set_option maxRecDepth 100000 in
set_option maxHeartbeats 8000000 in
theorem refCheck_any (h : Hd) (w : World) : Calls Try.prog 24 #[.agg (hcs h)] w fun r w' => r = .returned (.int .i64 (wE h)) ∧ Below w.heap.size w w' := by
  have HB : Hid (Below w.heap.size w (w.alloc (.cells (hcs h) 25))) := (Below.refl _ _).alloc (Nat.le_refl _) _
  by_cases hr : h.inR
  · have hr' := hr
    unfold Hd.inR at hr'
    by_cases hx : h.x.size ≤ 64
    · rw [wE_zero.2 ⟨hr, hx⟩]
      clear hr
      obtain ⟨v, g, i, d, s, x⟩ := h
      simp only [hcs] at HB hr' hx ⊢
      obtain ⟨⟨a0, a1⟩, ⟨b0, b1⟩, ⟨c0, c1⟩, ⟨d0, d1⟩, ⟨e0, e1⟩⟩ := hr'
      have q0 : decide (v < 0) = false := by simp; omega
      have q1 : decide (1099511627776 < v) = false := by simp; omega
      have q2 : decide (g < 0) = false := by simp; omega
      have q3 : decide (1099511627776 < g) = false := by simp; omega
      have q4 : decide (i < 0) = false := by simp; omega
      have q5 : decide (8 < i) = false := by simp; omega
      have q6 : decide (d < 0) = false := by simp; omega
      have q7 : decide (11 < d) = false := by simp; omega
      have q8 : decide (s < 0) = false := by simp; omega
      have q9 : decide (47 < s) = false := by simp; omega
      go_enter Try.func24, Try.ntmps24
      go_wp2_with fail
      try go_ret
      exact ⟨rfl, HB.out⟩
    · rw [show wE h = 12 by unfold wE; rw [if_pos hr, if_neg hx]]
      clear hr
      obtain ⟨v, g, i, d, s, x⟩ := h
      simp only [hcs] at HB hr' hx ⊢
      obtain ⟨⟨a0, a1⟩, ⟨b0, b1⟩, ⟨c0, c1⟩, ⟨d0, d1⟩, ⟨e0, e1⟩⟩ := hr'
      have q0 : decide (v < 0) = false := by simp; omega
      have q1 : decide (1099511627776 < v) = false := by simp; omega
      have q2 : decide (g < 0) = false := by simp; omega
      have q3 : decide (1099511627776 < g) = false := by simp; omega
      have q4 : decide (i < 0) = false := by simp; omega
      have q5 : decide (8 < i) = false := by simp; omega
      have q6 : decide (d < 0) = false := by simp; omega
      have q7 : decide (11 < d) = false := by simp; omega
      have q8 : decide (s < 0) = false := by simp; omega
      have q9 : decide (47 < s) = false := by simp; omega
      go_enter Try.func24, Try.ntmps24
      go_wp2_with fail
      try go_ret
      exact ⟨rfl, HB.out⟩
  · rw [show wE h = 1 by unfold wE; rw [if_neg hr]]
    unfold Hd.inR at hr
    obtain ⟨v, g, i, d, s, x⟩ := h
    simp only [hcs] at HB hr ⊢
    by_cases t0 : v < 0
    · have q0 : decide (v < 0) = true := by simp; omega
      go_enter Try.func24, Try.ntmps24
      go_wp2_with fail
      try go_ret
      exact ⟨rfl, HB.out⟩
    have q0 : decide (v < 0) = false := by simp; omega
    by_cases t1 : 1099511627776 < v
    · have q1 : decide (1099511627776 < v) = true := by simp; omega
      go_enter Try.func24, Try.ntmps24
      go_wp2_with fail
      try go_ret
      exact ⟨rfl, HB.out⟩
    have q1 : decide (1099511627776 < v) = false := by simp; omega
    by_cases t2 : g < 0
    · have q2 : decide (g < 0) = true := by simp; omega
      go_enter Try.func24, Try.ntmps24
      go_wp2_with fail
      try go_ret
      exact ⟨rfl, HB.out⟩
    have q2 : decide (g < 0) = false := by simp; omega
    by_cases t3 : 1099511627776 < g
    · have q3 : decide (1099511627776 < g) = true := by simp; omega
      go_enter Try.func24, Try.ntmps24
      go_wp2_with fail
      try go_ret
      exact ⟨rfl, HB.out⟩
    have q3 : decide (1099511627776 < g) = false := by simp; omega
    by_cases t4 : i < 0
    · have q4 : decide (i < 0) = true := by simp; omega
      go_enter Try.func24, Try.ntmps24
      go_wp2_with fail
      try go_ret
      exact ⟨rfl, HB.out⟩
    have q4 : decide (i < 0) = false := by simp; omega
    by_cases t5 : 8 < i
    · have q5 : decide (8 < i) = true := by simp; omega
      go_enter Try.func24, Try.ntmps24
      go_wp2_with fail
      try go_ret
      exact ⟨rfl, HB.out⟩
    have q5 : decide (8 < i) = false := by simp; omega
    by_cases t6 : d < 0
    · have q6 : decide (d < 0) = true := by simp; omega
      go_enter Try.func24, Try.ntmps24
      go_wp2_with fail
      try go_ret
      exact ⟨rfl, HB.out⟩
    have q6 : decide (d < 0) = false := by simp; omega
    by_cases t7 : 11 < d
    · have q7 : decide (11 < d) = true := by simp; omega
      go_enter Try.func24, Try.ntmps24
      go_wp2_with fail
      try go_ret
      exact ⟨rfl, HB.out⟩
    have q7 : decide (11 < d) = false := by simp; omega
    by_cases t8 : s < 0
    · have q8 : decide (s < 0) = true := by simp; omega
      go_enter Try.func24, Try.ntmps24
      go_wp2_with fail
      try go_ret
      exact ⟨rfl, HB.out⟩
    have q8 : decide (s < 0) = false := by simp; omega
    by_cases t9 : 47 < s
    · have q9 : decide (47 < s) = true := by simp; omega
      go_enter Try.func24, Try.ntmps24
      go_wp2_with fail
      try go_ret
      exact ⟨rfl, HB.out⟩
    have q9 : decide (47 < s) = false := by simp; omega
    exact absurd ⟨⟨by omega, by omega⟩, ⟨by omega, by omega⟩, ⟨by omega, by omega⟩, ⟨by omega, by omega⟩, ⟨by omega, by omega⟩⟩ hr
theorem num_q (n : Int) (wr : World) : ∀ q os, Calls Try.prog 25 #[.int .i64 n] (Go.Sort.grow (redrawn wr q) os) fun e w'' => e = .returned (.string (numI n)) ∧ ∃ p : Regrown, w'' = Go.Sort.grow (redrawn wr p.d) p.os := fun q os => Calls.regrown_of (refNum_any n _)
theorem text_q (s : ByteArray) (wr : World) (hs : s.size ≤ 1000000) : ∀ q os, Calls Try.prog 26 #[.string s] (Go.Sort.grow (redrawn wr q) os) fun e w'' => e = .returned (.string (textS s)) ∧ ∃ p : Regrown, w'' = Go.Sort.grow (redrawn wr p.d) p.os := fun q os => Calls.regrown_of (refText_any s _ hs)
theorem refCat (h : Hd) : (((((sSG ++ numI h.v) ++ numI h.g) ++ numI h.i) ++ numI h.d) ++ numI h.s) ++ textS h.x = bodyS h := by
  unfold bodyS innS
  simp only [app_assoc]
set_option maxRecDepth 100000 in
set_option maxHeartbeats 8000000 in
theorem refWrite_bad (h : Hd) (w : World) (h0 : wE h ≠ 0) : Calls Try.prog 13 #[.agg (hcs h)] w fun r w' => r = .returned (.tuple #[.string (wS h), .int .i64 (wE h)]) ∧ Below w.heap.size w w' := by
  rw [wS_bad h0]
  have HB : Hid (Below w.heap.size w (w.alloc (.cells (hcs h) 25))) := (Below.refl _ _).alloc (Nat.le_refl _) _
  have HI := hide (refCheck_any h (w.alloc (.cells (hcs h) 25)))
  have hne : (wE h == 0) = false := by simpa using h0
  have hne2 : (wE h != 0) = true := by simpa using h0
  generalize wE h = E at *
  obtain ⟨v, g, i, d, s, x⟩ := h
  simp only [hcs] at HB HI ⊢
  go_enter Try.func13, Try.ntmps13
  go_wp2_with fail
  refine HI.out.mono ?_
  rintro e w1 ⟨rfl, hb1⟩
  have HB1 := hide (HB.out.trans (hb1.mono HB.out.size))
  clear hb1
  go_wp2_with fail
  try go_ret2
  exact ⟨rfl, HB1.out⟩
set_option maxRecDepth 100000 in
set_option maxHeartbeats 8000000 in
theorem refWrite_ok (h : Hd) (w : World) (h0 : wE h = 0) : Calls Try.prog 13 #[.agg (hcs h)] w fun r w' => r = .returned (.tuple #[.string (wS h), .int .i64 (wE h)]) ∧ Below w.heap.size w w' := by
  have HB : Hid (Below w.heap.size w (w.alloc (.cells (hcs h) 25))) := (Below.refl _ _).alloc (Nat.le_refl _) _
  have HI := hide (refCheck_any h (w.alloc (.cells (hcs h) 25)))
  have HN := hide (hbx_new 25 h w)
  have HS : Hid (wS h = sealS (bodyS h)) := wS_ok h0
  have hx := (wE_zero.1 h0).2
  have htz : (textS h.x).size ≤ 65 := by rw [textS_len hx]; omega
  have HC := hide (refCat h)
  rw [h0] at HI ⊢
  clear h0
  rw [HS.out]
  have z1 := numI_8 h.v
  have z2 := numI_8 h.g
  have z3 := numI_8 h.i
  have z4 := numI_8 h.d
  have z5 := numI_8 h.s
  obtain ⟨v, g, i, d, s, x⟩ := h
  simp only [hcs] at HB HI hx htz HC z1 z2 z3 z4 z5 ⊢
  go_enter Try.func13, Try.ntmps13
  go_wp2_with fail
  refine HI.out.mono ?_
  rintro e w1 ⟨rfl, hb1⟩
  have HB1 := hide (HB.out.trans (hb1.mono HB.out.size))
  have HN1 := hide (HN.out.below hb1 HN.out.lt)
  have e0 := cell_regrown HN1.out.c0
  have e1 := cell_regrown HN1.out.c1
  have e2 := cell_regrown HN1.out.c2
  have e3 := cell_regrown HN1.out.c3
  have e4 := cell_regrown HN1.out.c4
  have e5 := cell_regrown HN1.out.c5
  simp only at e0 e1 e2 e3 e4 e5
  have r0 := num_q v w1
  have r1 := num_q g w1
  have r2 := num_q i w1
  have r3 := num_q d w1
  have r4 := num_q s w1
  have r5 := text_q x w1 (by omega)
  generalize numI v = n0 at *
  generalize numI g = n1 at *
  generalize numI i = n2 at *
  generalize numI d = n3 at *
  generalize numI s = n4 at *
  generalize textS x = n5 at *
  clear hb1 HB HI HN
  have y1 : ¬ 9223372036854775807 < 2 + n0.size := by omega
  have y2 : ¬ 9223372036854775807 < 2 + n0.size + n1.size := by omega
  have y3 : ¬ 9223372036854775807 < 2 + n0.size + n1.size + n2.size := by omega
  have y4 : ¬ 9223372036854775807 < 2 + n0.size + n1.size + n2.size + n3.size := by omega
  have y5 : ¬ 9223372036854775807 < 2 + n0.size + n1.size + n2.size + n3.size + n4.size := by omega
  have y6 : ¬ 9223372036854775807 < 2 + n0.size + n1.size + n2.size + n3.size + n4.size + n5.size := by omega
  go_upto_region 4 with fail
  refine wp_region_quiet_below (by kernel_rfl) (by kernel_rfl) ?_
  repeat (quiet_step (first | (with_reducible exact r0 _ _) | (with_reducible exact r1 _ _) | (with_reducible exact r2 _ _) | (with_reducible exact r3 _ _) | (with_reducible exact r4 _ _) | (with_reducible exact r5 _ _)))
  refine wpQuiet_nil ?_
  intro _ hw'
  obtain ⟨pq, hw''⟩ := hw'
  subst hw''
  have HQ := hide (HB1.out.trans ((below_regrown w1 pq.d pq.os).mono HB1.out.size))
  generalize Go.Sort.grow (redrawn w1 pq.d) pq.os = W5 at *
  have hZ : (sSG ++ n0 ++ n1 ++ n2 ++ n3 ++ n4 ++ n5).size ≤ 100000 := by simp only [ByteArray.size_append, sSG_size]; omega
  have HZ := hide (refSeal_any (sSG ++ n0 ++ n1 ++ n2 ++ n3 ++ n4 ++ n5) W5 hZ)
  clear hZ r0 r1 r2 r3 r4 r5 e0 e1 e2 e3 e4 e5 y1 y2 y3 y4 y5 y6
  go_wp2_with fail
  refine HZ.out.mono ?_
  rintro e w6 ⟨rfl, hb6⟩
  rw [HC.out]
  have HB6 := hide (HQ.out.trans (hb6.mono HQ.out.size))
  clear hb6 HZ HC
  go_wp2_with fail
  try go_ret2
  exact ⟨rfl, HB6.out⟩
theorem refWrite_any (h : Hd) (w : World) : Calls Try.prog 13 #[.agg (hcs h)] w fun r w' => r = .returned (.tuple #[.string (wS h), .int .i64 (wE h)]) ∧ Below w.heap.size w w' := by
  by_cases h0 : wE h = 0
  · exact refWrite_ok h w h0
  · exact refWrite_bad h w h0
end Go.Proofs.Ytjcabdgikkmlpaa
