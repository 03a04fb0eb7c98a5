/- The law SectorCut returns true at every input, and writes nothing that was there. -/
import Derived.Test.YtjcabdgikkmlpaaSeQuiet
namespace Go.Proofs.Ytjcabdgikkmlpaa
open Go.RowKit
set_option linter.unusedVariables false
set_option maxRecDepth 100000 in
set_option maxHeartbeats 16000000 in
theorem walkSectorCut (vp : Value) (n : Int) (w : World) (cp : CameV 25 6 w vp) (w1 : (Lit.int .i64 n).wf = true) : Calls Try.prog 9 #[vp, .int .i64 n] w fun e w' => e = .returned (.bool true) ∧ Below w.heap.size w w' := by
  obtain ⟨p, rfl, hp63⟩ := hd_open cp
  clear cp w1
  have HA : Hid (Below w.heap.size w (w.alloc (.cells (hcs p) 25))) := (Below.refl _ _).alloc (Nat.le_refl _) _
  by_cases hbig : 200 < p.x.size
  · obtain ⟨v, g, i, d, l, z⟩ := p
    simp only [hcs] at HA hbig ⊢
    go_enter Try.func9, Try.ntmps9
    go_wp2_with fail
    refine (slive_any _).mono ?_
    rintro e wLL ⟨rfl, hb⟩
    have BLL := hide (HA.out.trans (hb.mono HA.out.size))
    clear hb
    go_wp2_with fail
    try go_ret
    exact ⟨rfl, BLL.out⟩
  have HXP := hide (hbx_new 25 p w)
  have H1 := hide (own_any p)
  have H2 := hide (write_any p)
  by_cases hE : wE p = 0
  case neg =>
    have q1 : (wE p == 0) = false := by simpa using hE
    have q2 : (wE p != 0) = true := by simpa using hE
    clear hE
    generalize wS p = S at *
    generalize wE p = E at *
    obtain ⟨v, g, i, d, l, z⟩ := p
    simp only [hcs] at HA HXP H1 H2 hbig ⊢
    go_enter Try.func9, Try.ntmps9
    go_wp2_with fail
    refine (H1.out _).mono ?_
    rintro e w1 ⟨rfl, hb⟩
    have B1 := hide (HA.out.trans (hb.mono HA.out.size))
    have P1 := hide (HXP.out.below hb HXP.out.lt)
    clear hb HA HXP
    go_wp2_with fail
    refine (H2.out _).mono ?_
    rintro e w2 ⟨rfl, hb⟩
    have B2 := hide (B1.out.trans (hb.mono B1.out.size))
    have P2 := hide (P1.out.below hb P1.out.lt)
    clear hb B1 P1
    go_wp2_with fail
    refine (slive_any _).mono ?_
    rintro e wLL ⟨rfl, hb⟩
    have BLL := hide (B2.out.trans (hb.mono B2.out.size))
    clear hb
    go_wp2_with fail
    try go_ret
    exact ⟨rfl, BLL.out⟩
  have hsz := wS_small hE
  have hcut : ∀ k : Nat, k < (wS p).size → ((wS p).extract 0 k).size = k ∧ (rdE ((wS p).extract 0 k) = 0 → rdH ((wS p).extract 0 k) ≠ p) := fun k hk => by
    have hz : ((wS p).extract 0 k).size = k := by rw [ByteArray.size_extract]; omega
    refine ⟨hz, fun h e => ?_⟩
    have h2 := (rdE_read h).1
    rw [e] at h2
    have h3 := congrArg ByteArray.size h2
    omega
  rw [hE] at H2
  clear hE
  generalize wS p = S at *
  by_cases hn0 : n < 0
  · have q0 : decide (n < 0) = true := by simp; omega
    clear hcut
    obtain ⟨v, g, i, d, l, z⟩ := p
    simp only [hcs] at HA HXP H1 H2 hbig ⊢
    go_enter Try.func9, Try.ntmps9
    go_wp2_with fail
    refine (H1.out _).mono ?_
    rintro e w1 ⟨rfl, hb⟩
    have B1 := hide (HA.out.trans (hb.mono HA.out.size))
    have P1 := hide (HXP.out.below hb HXP.out.lt)
    clear hb HA HXP
    go_wp2_with fail
    refine (H2.out _).mono ?_
    rintro e w2 ⟨rfl, hb⟩
    have B2 := hide (B1.out.trans (hb.mono B1.out.size))
    have P2 := hide (P1.out.below hb P1.out.lt)
    clear hb B1 P1
    go_wp2_with fail
    refine (slive_any _).mono ?_
    rintro e wLL ⟨rfl, hb⟩
    have BLL := hide (B2.out.trans (hb.mono B2.out.size))
    clear hb
    go_wp2_with fail
    try go_ret
    exact ⟨rfl, BLL.out⟩
  have q0 : decide (n < 0) = false := by simp; omega
  obtain ⟨k, rfl⟩ := Int.eq_ofNat_of_zero_le (show 0 ≤ n by omega)
  by_cases hns : S.size ≤ k
  · have q4 : decide ((S.size : Int) ≤ (k : Int)) = true := by simp; omega
    clear hcut
    obtain ⟨v, g, i, d, l, z⟩ := p
    simp only [hcs] at HA HXP H1 H2 hbig ⊢
    go_enter Try.func9, Try.ntmps9
    go_wp2_with fail
    refine (H1.out _).mono ?_
    rintro e w1 ⟨rfl, hb⟩
    have B1 := hide (HA.out.trans (hb.mono HA.out.size))
    have P1 := hide (HXP.out.below hb HXP.out.lt)
    clear hb HA HXP
    go_wp2_with fail
    refine (H2.out _).mono ?_
    rintro e w2 ⟨rfl, hb⟩
    have B2 := hide (B1.out.trans (hb.mono B1.out.size))
    have P2 := hide (P1.out.below hb P1.out.lt)
    clear hb B1 P1
    go_wp2_with fail
    refine (slive_any _).mono ?_
    rintro e wLL ⟨rfl, hb⟩
    have BLL := hide (B2.out.trans (hb.mono B2.out.size))
    clear hb
    go_wp2_with fail
    try go_ret
    exact ⟨rfl, BLL.out⟩
  have q4 : decide ((S.size : Int) ≤ (k : Int)) = false := by simp; omega
  obtain ⟨hzU, hdiff⟩ := hcut k (by omega)
  clear hcut
  have HU : Hid (S.extract 0 k = S.extract 0 k) := rfl
  have H3 := hide (fun w => sread_any (S.extract 0 k) w (by omega))
  have HG : Hid (∃ U, U = S.extract 0 k) := ⟨_, rfl⟩
  clear HG
  generalize rdE (S.extract 0 k) = F at *
  generalize rdH (S.extract 0 k) = X at *
  have HO := hide (own_q p)
  obtain ⟨v, g, i, d, l, z⟩ := p
  obtain ⟨v', g', i', d', l', z'⟩ := X
  simp only [hcs, ne_eq, Hd.mk.injEq] at HA HXP H1 H2 H3 HO hbig hdiff ⊢
  by_cases hF : F = 0
  case neg =>
    have p1 : (F == 0) = false := by simpa using hF
    have p2 : (F != 0) = true := by simpa using hF
    clear hdiff hF
    go_enter Try.func9, Try.ntmps9
    go_wp2_with fail
    refine (H1.out _).mono ?_
    rintro e w1 ⟨rfl, hb⟩
    have B1 := hide (HA.out.trans (hb.mono HA.out.size))
    have P1 := hide (HXP.out.below hb HXP.out.lt)
    clear hb HA HXP
    go_wp2_with fail
    refine (H2.out _).mono ?_
    rintro e w2 ⟨rfl, hb⟩
    have B2 := hide (B1.out.trans (hb.mono B1.out.size))
    have P2 := hide (P1.out.below hb P1.out.lt)
    clear hb B1 P1
    go_wp2_with fail
    refine (H3.out _).mono ?_
    rintro e w3 ⟨rfl, hb⟩
    have hal : Below w3.heap.size w3 (w3.alloc (.cells #[.int .i64 v', .int .i64 g', .int .i64 i', .int .i64 d', .int .i64 l', .string z'] 30)) := (Below.refl _ _).alloc (Nat.le_refl _) _
    have hb3 := hb.trans (hal.mono hb.size)
    have B3 := hide (B2.out.trans (hb3.mono B2.out.size))
    have P3 := hide (P2.out.below hb3 P2.out.lt)
    have X3 := hide (hbx_new 30 ⟨v', g', i', d', l', z'⟩ w3)
    simp only [hcs] at X3
    clear hb hal hb3 B2 P2
    go_upto_region 7 with fail
    generalize (w3.alloc (.cells #[.int .i64 v', .int .i64 g', .int .i64 i', .int .i64 d', .int .i64 l', .string z'] 30)) = W3 at *
    generalize w3.heap.size = b3 at *
    have e0 := cell_regrown X3.out.c0
    have e1 := cell_regrown X3.out.c1
    have e2 := cell_regrown X3.out.c2
    have e3 := cell_regrown X3.out.c3
    have e4 := cell_regrown X3.out.c4
    have e5 := cell_regrown X3.out.c5
    have f0 := cell_regrown P3.out.c0
    have f1 := cell_regrown P3.out.c1
    have f2 := cell_regrown P3.out.c2
    have f3 := cell_regrown P3.out.c3
    have f4 := cell_regrown P3.out.c4
    have f5' := cell_regrown P3.out.c5
    simp only at e0 e1 e2 e3 e4 e5 f0 f1 f2 f3 f4 f5'
    have r1 := HO.out W3
    have r2 := live_q W3
    refine wp_region_quiet_below (by kernel_rfl) (by kernel_rfl) ?_
    repeat (quiet_step (first | (with_reducible exact r1 _ _) | (with_reducible exact r2 _ _)))
    refine wpQuiet_nil ?_
    intro _ hw'
    obtain ⟨pq, hw''⟩ := hw'
    subst hw''
    have HQ := hide (B3.out.trans ((below_regrown W3 pq.d pq.os).mono B3.out.size))
    generalize Go.Sort.grow (redrawn W3 pq.d) pq.os = WQ at *
    go_wp2_with fail
    try go_ret
    exact ⟨rfl, HQ.out⟩
  subst hF
  have hdiff' := hdiff rfl
  clear hdiff
  by_cases tv : v' = v
  case neg =>
    have q1 : (v' == v) = false := by simpa using tv
    clear hdiff'
    go_enter Try.func9, Try.ntmps9
    go_wp2_with fail
    refine (H1.out _).mono ?_
    rintro e w1 ⟨rfl, hb⟩
    have B1 := hide (HA.out.trans (hb.mono HA.out.size))
    have P1 := hide (HXP.out.below hb HXP.out.lt)
    clear hb HA HXP
    go_wp2_with fail
    refine (H2.out _).mono ?_
    rintro e w2 ⟨rfl, hb⟩
    have B2 := hide (B1.out.trans (hb.mono B1.out.size))
    have P2 := hide (P1.out.below hb P1.out.lt)
    clear hb B1 P1
    go_wp2_with fail
    refine (H3.out _).mono ?_
    rintro e w3 ⟨rfl, hb⟩
    have hal : Below w3.heap.size w3 (w3.alloc (.cells #[.int .i64 v', .int .i64 g', .int .i64 i', .int .i64 d', .int .i64 l', .string z'] 30)) := (Below.refl _ _).alloc (Nat.le_refl _) _
    have hb3 := hb.trans (hal.mono hb.size)
    have B3 := hide (B2.out.trans (hb3.mono B2.out.size))
    have P3 := hide (P2.out.below hb3 P2.out.lt)
    have X3 := hide (hbx_new 30 ⟨v', g', i', d', l', z'⟩ w3)
    simp only [hcs] at X3
    clear hb hal hb3 B2 P2
    go_upto_region 7 with fail
    generalize (w3.alloc (.cells #[.int .i64 v', .int .i64 g', .int .i64 i', .int .i64 d', .int .i64 l', .string z'] 30)) = W3 at *
    generalize w3.heap.size = b3 at *
    have e0 := cell_regrown X3.out.c0
    have e1 := cell_regrown X3.out.c1
    have e2 := cell_regrown X3.out.c2
    have e3 := cell_regrown X3.out.c3
    have e4 := cell_regrown X3.out.c4
    have e5 := cell_regrown X3.out.c5
    have f0 := cell_regrown P3.out.c0
    have f1 := cell_regrown P3.out.c1
    have f2 := cell_regrown P3.out.c2
    have f3 := cell_regrown P3.out.c3
    have f4 := cell_regrown P3.out.c4
    have f5' := cell_regrown P3.out.c5
    simp only at e0 e1 e2 e3 e4 e5 f0 f1 f2 f3 f4 f5'
    have r1 := HO.out W3
    have r2 := live_q W3
    refine wp_region_quiet_below (by kernel_rfl) (by kernel_rfl) ?_
    repeat (quiet_step (first | (with_reducible exact r1 _ _) | (with_reducible exact r2 _ _)))
    refine wpQuiet_nil ?_
    intro _ hw'
    obtain ⟨pq, hw''⟩ := hw'
    subst hw''
    have HQ := hide (B3.out.trans ((below_regrown W3 pq.d pq.os).mono B3.out.size))
    generalize Go.Sort.grow (redrawn W3 pq.d) pq.os = WQ at *
    go_wp2_with fail
    try go_ret
    exact ⟨rfl, HQ.out⟩
  subst tv
  by_cases tg : g' = g
  case neg =>
    have q1 : (g' == g) = false := by simpa using tg
    clear hdiff'
    go_enter Try.func9, Try.ntmps9
    go_wp2_with fail
    refine (H1.out _).mono ?_
    rintro e w1 ⟨rfl, hb⟩
    have B1 := hide (HA.out.trans (hb.mono HA.out.size))
    have P1 := hide (HXP.out.below hb HXP.out.lt)
    clear hb HA HXP
    go_wp2_with fail
    refine (H2.out _).mono ?_
    rintro e w2 ⟨rfl, hb⟩
    have B2 := hide (B1.out.trans (hb.mono B1.out.size))
    have P2 := hide (P1.out.below hb P1.out.lt)
    clear hb B1 P1
    go_wp2_with fail
    refine (H3.out _).mono ?_
    rintro e w3 ⟨rfl, hb⟩
    have hal : Below w3.heap.size w3 (w3.alloc (.cells #[.int .i64 v', .int .i64 g', .int .i64 i', .int .i64 d', .int .i64 l', .string z'] 30)) := (Below.refl _ _).alloc (Nat.le_refl _) _
    have hb3 := hb.trans (hal.mono hb.size)
    have B3 := hide (B2.out.trans (hb3.mono B2.out.size))
    have P3 := hide (P2.out.below hb3 P2.out.lt)
    have X3 := hide (hbx_new 30 ⟨v', g', i', d', l', z'⟩ w3)
    simp only [hcs] at X3
    clear hb hal hb3 B2 P2
    go_upto_region 7 with fail
    generalize (w3.alloc (.cells #[.int .i64 v', .int .i64 g', .int .i64 i', .int .i64 d', .int .i64 l', .string z'] 30)) = W3 at *
    generalize w3.heap.size = b3 at *
    have e0 := cell_regrown X3.out.c0
    have e1 := cell_regrown X3.out.c1
    have e2 := cell_regrown X3.out.c2
    have e3 := cell_regrown X3.out.c3
    have e4 := cell_regrown X3.out.c4
    have e5 := cell_regrown X3.out.c5
    have f0 := cell_regrown P3.out.c0
    have f1 := cell_regrown P3.out.c1
    have f2 := cell_regrown P3.out.c2
    have f3 := cell_regrown P3.out.c3
    have f4 := cell_regrown P3.out.c4
    have f5' := cell_regrown P3.out.c5
    simp only at e0 e1 e2 e3 e4 e5 f0 f1 f2 f3 f4 f5'
    have r1 := HO.out W3
    have r2 := live_q W3
    refine wp_region_quiet_below (by kernel_rfl) (by kernel_rfl) ?_
    repeat (quiet_step (first | (with_reducible exact r1 _ _) | (with_reducible exact r2 _ _)))
    refine wpQuiet_nil ?_
    intro _ hw'
    obtain ⟨pq, hw''⟩ := hw'
    subst hw''
    have HQ := hide (B3.out.trans ((below_regrown W3 pq.d pq.os).mono B3.out.size))
    generalize Go.Sort.grow (redrawn W3 pq.d) pq.os = WQ at *
    go_wp2_with fail
    try go_ret
    exact ⟨rfl, HQ.out⟩
  subst tg
  by_cases ti : i' = i
  case neg =>
    have q1 : (i' == i) = false := by simpa using ti
    clear hdiff'
    go_enter Try.func9, Try.ntmps9
    go_wp2_with fail
    refine (H1.out _).mono ?_
    rintro e w1 ⟨rfl, hb⟩
    have B1 := hide (HA.out.trans (hb.mono HA.out.size))
    have P1 := hide (HXP.out.below hb HXP.out.lt)
    clear hb HA HXP
    go_wp2_with fail
    refine (H2.out _).mono ?_
    rintro e w2 ⟨rfl, hb⟩
    have B2 := hide (B1.out.trans (hb.mono B1.out.size))
    have P2 := hide (P1.out.below hb P1.out.lt)
    clear hb B1 P1
    go_wp2_with fail
    refine (H3.out _).mono ?_
    rintro e w3 ⟨rfl, hb⟩
    have hal : Below w3.heap.size w3 (w3.alloc (.cells #[.int .i64 v', .int .i64 g', .int .i64 i', .int .i64 d', .int .i64 l', .string z'] 30)) := (Below.refl _ _).alloc (Nat.le_refl _) _
    have hb3 := hb.trans (hal.mono hb.size)
    have B3 := hide (B2.out.trans (hb3.mono B2.out.size))
    have P3 := hide (P2.out.below hb3 P2.out.lt)
    have X3 := hide (hbx_new 30 ⟨v', g', i', d', l', z'⟩ w3)
    simp only [hcs] at X3
    clear hb hal hb3 B2 P2
    go_upto_region 7 with fail
    generalize (w3.alloc (.cells #[.int .i64 v', .int .i64 g', .int .i64 i', .int .i64 d', .int .i64 l', .string z'] 30)) = W3 at *
    generalize w3.heap.size = b3 at *
    have e0 := cell_regrown X3.out.c0
    have e1 := cell_regrown X3.out.c1
    have e2 := cell_regrown X3.out.c2
    have e3 := cell_regrown X3.out.c3
    have e4 := cell_regrown X3.out.c4
    have e5 := cell_regrown X3.out.c5
    have f0 := cell_regrown P3.out.c0
    have f1 := cell_regrown P3.out.c1
    have f2 := cell_regrown P3.out.c2
    have f3 := cell_regrown P3.out.c3
    have f4 := cell_regrown P3.out.c4
    have f5' := cell_regrown P3.out.c5
    simp only at e0 e1 e2 e3 e4 e5 f0 f1 f2 f3 f4 f5'
    have r1 := HO.out W3
    have r2 := live_q W3
    refine wp_region_quiet_below (by kernel_rfl) (by kernel_rfl) ?_
    repeat (quiet_step (first | (with_reducible exact r1 _ _) | (with_reducible exact r2 _ _)))
    refine wpQuiet_nil ?_
    intro _ hw'
    obtain ⟨pq, hw''⟩ := hw'
    subst hw''
    have HQ := hide (B3.out.trans ((below_regrown W3 pq.d pq.os).mono B3.out.size))
    generalize Go.Sort.grow (redrawn W3 pq.d) pq.os = WQ at *
    go_wp2_with fail
    try go_ret
    exact ⟨rfl, HQ.out⟩
  subst ti
  by_cases td : d' = d
  case neg =>
    have q1 : (d' == d) = false := by simpa using td
    clear hdiff'
    go_enter Try.func9, Try.ntmps9
    go_wp2_with fail
    refine (H1.out _).mono ?_
    rintro e w1 ⟨rfl, hb⟩
    have B1 := hide (HA.out.trans (hb.mono HA.out.size))
    have P1 := hide (HXP.out.below hb HXP.out.lt)
    clear hb HA HXP
    go_wp2_with fail
    refine (H2.out _).mono ?_
    rintro e w2 ⟨rfl, hb⟩
    have B2 := hide (B1.out.trans (hb.mono B1.out.size))
    have P2 := hide (P1.out.below hb P1.out.lt)
    clear hb B1 P1
    go_wp2_with fail
    refine (H3.out _).mono ?_
    rintro e w3 ⟨rfl, hb⟩
    have hal : Below w3.heap.size w3 (w3.alloc (.cells #[.int .i64 v', .int .i64 g', .int .i64 i', .int .i64 d', .int .i64 l', .string z'] 30)) := (Below.refl _ _).alloc (Nat.le_refl _) _
    have hb3 := hb.trans (hal.mono hb.size)
    have B3 := hide (B2.out.trans (hb3.mono B2.out.size))
    have P3 := hide (P2.out.below hb3 P2.out.lt)
    have X3 := hide (hbx_new 30 ⟨v', g', i', d', l', z'⟩ w3)
    simp only [hcs] at X3
    clear hb hal hb3 B2 P2
    go_upto_region 7 with fail
    generalize (w3.alloc (.cells #[.int .i64 v', .int .i64 g', .int .i64 i', .int .i64 d', .int .i64 l', .string z'] 30)) = W3 at *
    generalize w3.heap.size = b3 at *
    have e0 := cell_regrown X3.out.c0
    have e1 := cell_regrown X3.out.c1
    have e2 := cell_regrown X3.out.c2
    have e3 := cell_regrown X3.out.c3
    have e4 := cell_regrown X3.out.c4
    have e5 := cell_regrown X3.out.c5
    have f0 := cell_regrown P3.out.c0
    have f1 := cell_regrown P3.out.c1
    have f2 := cell_regrown P3.out.c2
    have f3 := cell_regrown P3.out.c3
    have f4 := cell_regrown P3.out.c4
    have f5' := cell_regrown P3.out.c5
    simp only at e0 e1 e2 e3 e4 e5 f0 f1 f2 f3 f4 f5'
    have r1 := HO.out W3
    have r2 := live_q W3
    refine wp_region_quiet_below (by kernel_rfl) (by kernel_rfl) ?_
    repeat (quiet_step (first | (with_reducible exact r1 _ _) | (with_reducible exact r2 _ _)))
    refine wpQuiet_nil ?_
    intro _ hw'
    obtain ⟨pq, hw''⟩ := hw'
    subst hw''
    have HQ := hide (B3.out.trans ((below_regrown W3 pq.d pq.os).mono B3.out.size))
    generalize Go.Sort.grow (redrawn W3 pq.d) pq.os = WQ at *
    go_wp2_with fail
    try go_ret
    exact ⟨rfl, HQ.out⟩
  subst td
  by_cases tl : l' = l
  case neg =>
    have q1 : (l' == l) = false := by simpa using tl
    clear hdiff'
    go_enter Try.func9, Try.ntmps9
    go_wp2_with fail
    refine (H1.out _).mono ?_
    rintro e w1 ⟨rfl, hb⟩
    have B1 := hide (HA.out.trans (hb.mono HA.out.size))
    have P1 := hide (HXP.out.below hb HXP.out.lt)
    clear hb HA HXP
    go_wp2_with fail
    refine (H2.out _).mono ?_
    rintro e w2 ⟨rfl, hb⟩
    have B2 := hide (B1.out.trans (hb.mono B1.out.size))
    have P2 := hide (P1.out.below hb P1.out.lt)
    clear hb B1 P1
    go_wp2_with fail
    refine (H3.out _).mono ?_
    rintro e w3 ⟨rfl, hb⟩
    have hal : Below w3.heap.size w3 (w3.alloc (.cells #[.int .i64 v', .int .i64 g', .int .i64 i', .int .i64 d', .int .i64 l', .string z'] 30)) := (Below.refl _ _).alloc (Nat.le_refl _) _
    have hb3 := hb.trans (hal.mono hb.size)
    have B3 := hide (B2.out.trans (hb3.mono B2.out.size))
    have P3 := hide (P2.out.below hb3 P2.out.lt)
    have X3 := hide (hbx_new 30 ⟨v', g', i', d', l', z'⟩ w3)
    simp only [hcs] at X3
    clear hb hal hb3 B2 P2
    go_upto_region 7 with fail
    generalize (w3.alloc (.cells #[.int .i64 v', .int .i64 g', .int .i64 i', .int .i64 d', .int .i64 l', .string z'] 30)) = W3 at *
    generalize w3.heap.size = b3 at *
    have e0 := cell_regrown X3.out.c0
    have e1 := cell_regrown X3.out.c1
    have e2 := cell_regrown X3.out.c2
    have e3 := cell_regrown X3.out.c3
    have e4 := cell_regrown X3.out.c4
    have e5 := cell_regrown X3.out.c5
    have f0 := cell_regrown P3.out.c0
    have f1 := cell_regrown P3.out.c1
    have f2 := cell_regrown P3.out.c2
    have f3 := cell_regrown P3.out.c3
    have f4 := cell_regrown P3.out.c4
    have f5' := cell_regrown P3.out.c5
    simp only at e0 e1 e2 e3 e4 e5 f0 f1 f2 f3 f4 f5'
    have r1 := HO.out W3
    have r2 := live_q W3
    refine wp_region_quiet_below (by kernel_rfl) (by kernel_rfl) ?_
    repeat (quiet_step (first | (with_reducible exact r1 _ _) | (with_reducible exact r2 _ _)))
    refine wpQuiet_nil ?_
    intro _ hw'
    obtain ⟨pq, hw''⟩ := hw'
    subst hw''
    have HQ := hide (B3.out.trans ((below_regrown W3 pq.d pq.os).mono B3.out.size))
    generalize Go.Sort.grow (redrawn W3 pq.d) pq.os = WQ at *
    go_wp2_with fail
    try go_ret
    exact ⟨rfl, HQ.out⟩
  subst tl
  by_cases tz : z' = z
  case neg =>
    have q1 : (z'.toList == z.toList) = false := by exact str_ne tz
    clear hdiff'
    go_enter Try.func9, Try.ntmps9
    go_wp2_with fail
    refine (H1.out _).mono ?_
    rintro e w1 ⟨rfl, hb⟩
    have B1 := hide (HA.out.trans (hb.mono HA.out.size))
    have P1 := hide (HXP.out.below hb HXP.out.lt)
    clear hb HA HXP
    go_wp2_with fail
    refine (H2.out _).mono ?_
    rintro e w2 ⟨rfl, hb⟩
    have B2 := hide (B1.out.trans (hb.mono B1.out.size))
    have P2 := hide (P1.out.below hb P1.out.lt)
    clear hb B1 P1
    go_wp2_with fail
    refine (H3.out _).mono ?_
    rintro e w3 ⟨rfl, hb⟩
    have hal : Below w3.heap.size w3 (w3.alloc (.cells #[.int .i64 v', .int .i64 g', .int .i64 i', .int .i64 d', .int .i64 l', .string z'] 30)) := (Below.refl _ _).alloc (Nat.le_refl _) _
    have hb3 := hb.trans (hal.mono hb.size)
    have B3 := hide (B2.out.trans (hb3.mono B2.out.size))
    have P3 := hide (P2.out.below hb3 P2.out.lt)
    have X3 := hide (hbx_new 30 ⟨v', g', i', d', l', z'⟩ w3)
    simp only [hcs] at X3
    clear hb hal hb3 B2 P2
    go_upto_region 7 with fail
    generalize (w3.alloc (.cells #[.int .i64 v', .int .i64 g', .int .i64 i', .int .i64 d', .int .i64 l', .string z'] 30)) = W3 at *
    generalize w3.heap.size = b3 at *
    have e0 := cell_regrown X3.out.c0
    have e1 := cell_regrown X3.out.c1
    have e2 := cell_regrown X3.out.c2
    have e3 := cell_regrown X3.out.c3
    have e4 := cell_regrown X3.out.c4
    have e5 := cell_regrown X3.out.c5
    have f0 := cell_regrown P3.out.c0
    have f1 := cell_regrown P3.out.c1
    have f2 := cell_regrown P3.out.c2
    have f3 := cell_regrown P3.out.c3
    have f4 := cell_regrown P3.out.c4
    have f5' := cell_regrown P3.out.c5
    simp only at e0 e1 e2 e3 e4 e5 f0 f1 f2 f3 f4 f5'
    have r1 := HO.out W3
    have r2 := live_q W3
    refine wp_region_quiet_below (by kernel_rfl) (by kernel_rfl) ?_
    repeat (quiet_step (first | (with_reducible exact r1 _ _) | (with_reducible exact r2 _ _)))
    refine wpQuiet_nil ?_
    intro _ hw'
    obtain ⟨pq, hw''⟩ := hw'
    subst hw''
    have HQ := hide (B3.out.trans ((below_regrown W3 pq.d pq.os).mono B3.out.size))
    generalize Go.Sort.grow (redrawn W3 pq.d) pq.os = WQ at *
    go_wp2_with fail
    try go_ret
    exact ⟨rfl, HQ.out⟩
  subst tz
  exact absurd ⟨rfl, rfl, rfl, rfl, rfl, rfl⟩ hdiff'
end Go.Proofs.Ytjcabdgikkmlpaa
