/- The law SectorApart returns true at every input, and writes nothing that was there. -/
import Derived.Test.YtjcabdgikkmlpaaSeLive
namespace Go.Proofs.Ytjcabdgikkmlpaa
open Go.RowKit
set_option linter.unusedVariables false
set_option maxRecDepth 100000 in
set_option maxHeartbeats 16000000 in
theorem walkSectorApart (vp vq : Value) (w : World) (cp : CameV 25 6 w vp) (cq : CameV 25 6 w vq) : Calls Try.prog 8 #[vp, vq] w fun e w' => e = .returned (.bool true) ∧ Below w.heap.size w w' := by
  obtain ⟨p, rfl, hp63⟩ := hd_open cp
  obtain ⟨q, rfl, hq63⟩ := hd_open cq
  clear cp cq
  have HA : Hid (Below w.heap.size w ((w.alloc (.cells (hcs p) 25)).alloc (.cells (hcs q) 25))) := ((Below.refl _ _).alloc (Nat.le_refl _) _).alloc (by rw [World.size_alloc]; omega) _
  by_cases hbig : 200 < p.x.size
  · obtain ⟨v, g, i, d, l, z⟩ := p
    obtain ⟨v', g', i', d', l', z'⟩ := q
    simp only [hcs] at HA hbig ⊢
    go_enter Try.func8, Try.ntmps8
    go_wp2_with fail
    refine (slive_any _).mono ?_
    rintro e wLL ⟨rfl, hb⟩
    have BLL := hide (HA.out.trans (hb.mono HA.out.size))
    clear hb
    go_wp2_with fail
    try go_ret
    exact ⟨rfl, BLL.out⟩
  by_cases hbig2 : 200 < q.x.size
  · obtain ⟨v, g, i, d, l, z⟩ := p
    obtain ⟨v', g', i', d', l', z'⟩ := q
    simp only [hcs] at HA hbig hbig2 ⊢
    go_enter Try.func8, Try.ntmps8
    go_wp2_with fail
    refine (slive_any _).mono ?_
    rintro e wLL ⟨rfl, hb⟩
    have BLL := hide (HA.out.trans (hb.mono HA.out.size))
    clear hb
    go_wp2_with fail
    try go_ret
    exact ⟨rfl, BLL.out⟩
  have HXP : Hid (HBx w.heap.size 25 p ((w.alloc (.cells (hcs p) 25)).alloc (.cells (hcs q) 25))) := (hbx_new 25 p w).alloc _
  have HXQ : Hid (HBx (w.heap.size + 1) 25 q ((w.alloc (.cells (hcs p) 25)).alloc (.cells (hcs q) 25))) := by
    have t := hbx_new 25 q (w.alloc (.cells (hcs p) 25))
    rw [World.size_alloc] at t
    exact t
  have H1 := hide (own_any p)
  have H2 := hide (write_any p)
  have H3 := hide (own_any q)
  have H4 := hide (write_any q)
  have hsz : wE p = 0 → (wS p).size ≤ 200 := fun h => by have := wS_small h; omega
  have hinj : wE p = 0 → wE q = 0 → wS p = wS q → p = q := wS_inj
  have hsame : p = q → wS p = wS q := fun h => by rw [h]
  generalize wS p = S at *
  generalize wE p = E at *
  generalize wS q = S' at *
  generalize wE q = E' at *
  obtain ⟨v, g, i, d, l, z⟩ := p
  obtain ⟨v', g', i', d', l', z'⟩ := q
  simp only [hcs, Hd.mk.injEq] at HA HXP HXQ H1 H2 H3 H4 hbig hbig2 hinj hsame ⊢
  by_cases hE : E = 0
  case neg =>
    have q1 : (E == 0) = false := by simpa using hE
    have q2 : (E != 0) = true := by simpa using hE
    clear hsz hinj hsame
    go_enter Try.func8, Try.ntmps8
    go_wp2_with fail
    refine (H1.out _).mono ?_
    rintro e w1 ⟨rfl, hb⟩
    have B1 := hide (HA.out.trans (hb.mono HA.out.size))
    have P1 := hide (HXP.out.below hb HXP.out.lt)
    have Q1 := hide (HXQ.out.below hb HXQ.out.lt)
    clear hb HA HXP HXQ
    go_wp2_with fail
    refine (H2.out _).mono ?_
    rintro e w2 ⟨rfl, hb⟩
    have B2 := hide (B1.out.trans (hb.mono B1.out.size))
    have P2 := hide (P1.out.below hb P1.out.lt)
    have Q2 := hide (Q1.out.below hb Q1.out.lt)
    obtain ⟨⟨s0, s1, s2, s3, s4, s5⟩, -⟩ := Q2.out.cells
    simp only at s0 s1 s2 s3 s4 s5
    clear hb B1 P1 Q1
    go_wp2_with fail
    clear s0 s1 s2 s3 s4 s5
    refine (H3.out _).mono ?_
    rintro e w3 ⟨rfl, hb⟩
    have B3 := hide (B2.out.trans (hb.mono B2.out.size))
    have P3 := hide (P2.out.below hb P2.out.lt)
    have Q3 := hide (Q2.out.below hb Q2.out.lt)
    clear hb B2 P2 Q2
    go_wp2_with fail
    refine (H4.out _).mono ?_
    rintro e w4 ⟨rfl, hb⟩
    have B4 := hide (B3.out.trans (hb.mono B3.out.size))
    obtain ⟨⟨s0, s1, s2, s3, s4, s5⟩, -⟩ := (P3.out.below hb P3.out.lt).cells
    obtain ⟨⟨t0, t1, t2, t3, t4, t5⟩, -⟩ := (Q3.out.below hb Q3.out.lt).cells
    simp only at s0 s1 s2 s3 s4 s5 t0 t1 t2 t3 t4 t5
    clear hb B3 P3 Q3
    go_wp2_with fail
    refine (slive_any _).mono ?_
    rintro e wLL ⟨rfl, hb⟩
    have BLL := hide (B4.out.trans (hb.mono B4.out.size))
    clear hb
    go_wp2_with fail
    try go_ret
    exact ⟨rfl, BLL.out⟩
  by_cases hE' : E' = 0
  case neg =>
    have q1 : (E' == 0) = false := by simpa using hE'
    have q2 : (E' != 0) = true := by simpa using hE'
    subst hE
    clear hsz hinj hsame
    go_enter Try.func8, Try.ntmps8
    go_wp2_with fail
    refine (H1.out _).mono ?_
    rintro e w1 ⟨rfl, hb⟩
    have B1 := hide (HA.out.trans (hb.mono HA.out.size))
    have P1 := hide (HXP.out.below hb HXP.out.lt)
    have Q1 := hide (HXQ.out.below hb HXQ.out.lt)
    clear hb HA HXP HXQ
    go_wp2_with fail
    refine (H2.out _).mono ?_
    rintro e w2 ⟨rfl, hb⟩
    have B2 := hide (B1.out.trans (hb.mono B1.out.size))
    have P2 := hide (P1.out.below hb P1.out.lt)
    have Q2 := hide (Q1.out.below hb Q1.out.lt)
    obtain ⟨⟨s0, s1, s2, s3, s4, s5⟩, -⟩ := Q2.out.cells
    simp only at s0 s1 s2 s3 s4 s5
    clear hb B1 P1 Q1
    go_wp2_with fail
    clear s0 s1 s2 s3 s4 s5
    refine (H3.out _).mono ?_
    rintro e w3 ⟨rfl, hb⟩
    have B3 := hide (B2.out.trans (hb.mono B2.out.size))
    have P3 := hide (P2.out.below hb P2.out.lt)
    have Q3 := hide (Q2.out.below hb Q2.out.lt)
    clear hb B2 P2 Q2
    go_wp2_with fail
    refine (H4.out _).mono ?_
    rintro e w4 ⟨rfl, hb⟩
    have B4 := hide (B3.out.trans (hb.mono B3.out.size))
    obtain ⟨⟨s0, s1, s2, s3, s4, s5⟩, -⟩ := (P3.out.below hb P3.out.lt).cells
    obtain ⟨⟨t0, t1, t2, t3, t4, t5⟩, -⟩ := (Q3.out.below hb Q3.out.lt).cells
    simp only at s0 s1 s2 s3 s4 s5 t0 t1 t2 t3 t4 t5
    clear hb B3 P3 Q3
    go_wp2_with fail
    refine (slive_any _).mono ?_
    rintro e wLL ⟨rfl, hb⟩
    have BLL := hide (B4.out.trans (hb.mono B4.out.size))
    clear hb
    go_wp2_with fail
    try go_ret
    exact ⟨rfl, BLL.out⟩
  subst hE hE'
  have hsz' := hsz rfl
  have hszi : decide ((S.size : Int) ≤ 200) = true := by simp; omega
  have hinj' := hinj rfl rfl
  clear hsz hinj
  by_cases hSS : S = S'
  · obtain ⟨rfl, rfl, rfl, rfl, rfl, rfl⟩ := hinj' hSS
    subst hSS
    clear hinj' hsame
    go_enter Try.func8, Try.ntmps8
    go_wp2_with fail
    refine (H1.out _).mono ?_
    rintro e w1 ⟨rfl, hb⟩
    have B1 := hide (HA.out.trans (hb.mono HA.out.size))
    have P1 := hide (HXP.out.below hb HXP.out.lt)
    have Q1 := hide (HXQ.out.below hb HXQ.out.lt)
    clear hb HA HXP HXQ
    go_wp2_with fail
    refine (H2.out _).mono ?_
    rintro e w2 ⟨rfl, hb⟩
    have B2 := hide (B1.out.trans (hb.mono B1.out.size))
    have P2 := hide (P1.out.below hb P1.out.lt)
    have Q2 := hide (Q1.out.below hb Q1.out.lt)
    obtain ⟨⟨s0, s1, s2, s3, s4, s5⟩, -⟩ := Q2.out.cells
    simp only at s0 s1 s2 s3 s4 s5
    clear hb B1 P1 Q1
    go_wp2_with fail
    clear s0 s1 s2 s3 s4 s5
    refine (H3.out _).mono ?_
    rintro e w3 ⟨rfl, hb⟩
    have B3 := hide (B2.out.trans (hb.mono B2.out.size))
    have P3 := hide (P2.out.below hb P2.out.lt)
    have Q3 := hide (Q2.out.below hb Q2.out.lt)
    clear hb B2 P2 Q2
    go_wp2_with fail
    refine (H4.out _).mono ?_
    rintro e w4 ⟨rfl, hb⟩
    have B4 := hide (B3.out.trans (hb.mono B3.out.size))
    obtain ⟨⟨s0, s1, s2, s3, s4, s5⟩, -⟩ := (P3.out.below hb P3.out.lt).cells
    obtain ⟨⟨t0, t1, t2, t3, t4, t5⟩, -⟩ := (Q3.out.below hb Q3.out.lt).cells
    simp only at s0 s1 s2 s3 s4 s5 t0 t1 t2 t3 t4 t5
    clear hb B3 P3 Q3
    go_wp2_with fail
    refine (slive_any _).mono ?_
    rintro e wLL ⟨rfl, hb⟩
    have BLL := hide (B4.out.trans (hb.mono B4.out.size))
    clear hb
    go_wp2_with fail
    try go_ret
    exact ⟨rfl, BLL.out⟩
  have hq := str_ne hSS
  clear hinj'
  by_cases tv : v = v'
  case neg =>
    have q1 : (v == v') = false := by simpa using tv
    clear hsame
    go_enter Try.func8, Try.ntmps8
    go_wp2_with fail
    refine (H1.out _).mono ?_
    rintro e w1 ⟨rfl, hb⟩
    have B1 := hide (HA.out.trans (hb.mono HA.out.size))
    have P1 := hide (HXP.out.below hb HXP.out.lt)
    have Q1 := hide (HXQ.out.below hb HXQ.out.lt)
    clear hb HA HXP HXQ
    go_wp2_with fail
    refine (H2.out _).mono ?_
    rintro e w2 ⟨rfl, hb⟩
    have B2 := hide (B1.out.trans (hb.mono B1.out.size))
    have P2 := hide (P1.out.below hb P1.out.lt)
    have Q2 := hide (Q1.out.below hb Q1.out.lt)
    obtain ⟨⟨s0, s1, s2, s3, s4, s5⟩, -⟩ := Q2.out.cells
    simp only at s0 s1 s2 s3 s4 s5
    clear hb B1 P1 Q1
    go_wp2_with fail
    clear s0 s1 s2 s3 s4 s5
    refine (H3.out _).mono ?_
    rintro e w3 ⟨rfl, hb⟩
    have B3 := hide (B2.out.trans (hb.mono B2.out.size))
    have P3 := hide (P2.out.below hb P2.out.lt)
    have Q3 := hide (Q2.out.below hb Q2.out.lt)
    clear hb B2 P2 Q2
    go_wp2_with fail
    refine (H4.out _).mono ?_
    rintro e w4 ⟨rfl, hb⟩
    have B4 := hide (B3.out.trans (hb.mono B3.out.size))
    obtain ⟨⟨s0, s1, s2, s3, s4, s5⟩, -⟩ := (P3.out.below hb P3.out.lt).cells
    obtain ⟨⟨t0, t1, t2, t3, t4, t5⟩, -⟩ := (Q3.out.below hb Q3.out.lt).cells
    simp only at s0 s1 s2 s3 s4 s5 t0 t1 t2 t3 t4 t5
    clear hb B3 P3 Q3
    go_wp2_with fail
    refine (slive_any _).mono ?_
    rintro e wLL ⟨rfl, hb⟩
    have BLL := hide (B4.out.trans (hb.mono B4.out.size))
    clear hb
    go_wp2_with fail
    try go_ret
    exact ⟨rfl, BLL.out⟩
  subst tv
  by_cases tg : g = g'
  case neg =>
    have q1 : (g == g') = false := by simpa using tg
    clear hsame
    go_enter Try.func8, Try.ntmps8
    go_wp2_with fail
    refine (H1.out _).mono ?_
    rintro e w1 ⟨rfl, hb⟩
    have B1 := hide (HA.out.trans (hb.mono HA.out.size))
    have P1 := hide (HXP.out.below hb HXP.out.lt)
    have Q1 := hide (HXQ.out.below hb HXQ.out.lt)
    clear hb HA HXP HXQ
    go_wp2_with fail
    refine (H2.out _).mono ?_
    rintro e w2 ⟨rfl, hb⟩
    have B2 := hide (B1.out.trans (hb.mono B1.out.size))
    have P2 := hide (P1.out.below hb P1.out.lt)
    have Q2 := hide (Q1.out.below hb Q1.out.lt)
    obtain ⟨⟨s0, s1, s2, s3, s4, s5⟩, -⟩ := Q2.out.cells
    simp only at s0 s1 s2 s3 s4 s5
    clear hb B1 P1 Q1
    go_wp2_with fail
    clear s0 s1 s2 s3 s4 s5
    refine (H3.out _).mono ?_
    rintro e w3 ⟨rfl, hb⟩
    have B3 := hide (B2.out.trans (hb.mono B2.out.size))
    have P3 := hide (P2.out.below hb P2.out.lt)
    have Q3 := hide (Q2.out.below hb Q2.out.lt)
    clear hb B2 P2 Q2
    go_wp2_with fail
    refine (H4.out _).mono ?_
    rintro e w4 ⟨rfl, hb⟩
    have B4 := hide (B3.out.trans (hb.mono B3.out.size))
    obtain ⟨⟨s0, s1, s2, s3, s4, s5⟩, -⟩ := (P3.out.below hb P3.out.lt).cells
    obtain ⟨⟨t0, t1, t2, t3, t4, t5⟩, -⟩ := (Q3.out.below hb Q3.out.lt).cells
    simp only at s0 s1 s2 s3 s4 s5 t0 t1 t2 t3 t4 t5
    clear hb B3 P3 Q3
    go_wp2_with fail
    refine (slive_any _).mono ?_
    rintro e wLL ⟨rfl, hb⟩
    have BLL := hide (B4.out.trans (hb.mono B4.out.size))
    clear hb
    go_wp2_with fail
    try go_ret
    exact ⟨rfl, BLL.out⟩
  subst tg
  by_cases ti : i = i'
  case neg =>
    have q1 : (i == i') = false := by simpa using ti
    clear hsame
    go_enter Try.func8, Try.ntmps8
    go_wp2_with fail
    refine (H1.out _).mono ?_
    rintro e w1 ⟨rfl, hb⟩
    have B1 := hide (HA.out.trans (hb.mono HA.out.size))
    have P1 := hide (HXP.out.below hb HXP.out.lt)
    have Q1 := hide (HXQ.out.below hb HXQ.out.lt)
    clear hb HA HXP HXQ
    go_wp2_with fail
    refine (H2.out _).mono ?_
    rintro e w2 ⟨rfl, hb⟩
    have B2 := hide (B1.out.trans (hb.mono B1.out.size))
    have P2 := hide (P1.out.below hb P1.out.lt)
    have Q2 := hide (Q1.out.below hb Q1.out.lt)
    obtain ⟨⟨s0, s1, s2, s3, s4, s5⟩, -⟩ := Q2.out.cells
    simp only at s0 s1 s2 s3 s4 s5
    clear hb B1 P1 Q1
    go_wp2_with fail
    clear s0 s1 s2 s3 s4 s5
    refine (H3.out _).mono ?_
    rintro e w3 ⟨rfl, hb⟩
    have B3 := hide (B2.out.trans (hb.mono B2.out.size))
    have P3 := hide (P2.out.below hb P2.out.lt)
    have Q3 := hide (Q2.out.below hb Q2.out.lt)
    clear hb B2 P2 Q2
    go_wp2_with fail
    refine (H4.out _).mono ?_
    rintro e w4 ⟨rfl, hb⟩
    have B4 := hide (B3.out.trans (hb.mono B3.out.size))
    obtain ⟨⟨s0, s1, s2, s3, s4, s5⟩, -⟩ := (P3.out.below hb P3.out.lt).cells
    obtain ⟨⟨t0, t1, t2, t3, t4, t5⟩, -⟩ := (Q3.out.below hb Q3.out.lt).cells
    simp only at s0 s1 s2 s3 s4 s5 t0 t1 t2 t3 t4 t5
    clear hb B3 P3 Q3
    go_wp2_with fail
    refine (slive_any _).mono ?_
    rintro e wLL ⟨rfl, hb⟩
    have BLL := hide (B4.out.trans (hb.mono B4.out.size))
    clear hb
    go_wp2_with fail
    try go_ret
    exact ⟨rfl, BLL.out⟩
  subst ti
  by_cases td : d = d'
  case neg =>
    have q1 : (d == d') = false := by simpa using td
    clear hsame
    go_enter Try.func8, Try.ntmps8
    go_wp2_with fail
    refine (H1.out _).mono ?_
    rintro e w1 ⟨rfl, hb⟩
    have B1 := hide (HA.out.trans (hb.mono HA.out.size))
    have P1 := hide (HXP.out.below hb HXP.out.lt)
    have Q1 := hide (HXQ.out.below hb HXQ.out.lt)
    clear hb HA HXP HXQ
    go_wp2_with fail
    refine (H2.out _).mono ?_
    rintro e w2 ⟨rfl, hb⟩
    have B2 := hide (B1.out.trans (hb.mono B1.out.size))
    have P2 := hide (P1.out.below hb P1.out.lt)
    have Q2 := hide (Q1.out.below hb Q1.out.lt)
    obtain ⟨⟨s0, s1, s2, s3, s4, s5⟩, -⟩ := Q2.out.cells
    simp only at s0 s1 s2 s3 s4 s5
    clear hb B1 P1 Q1
    go_wp2_with fail
    clear s0 s1 s2 s3 s4 s5
    refine (H3.out _).mono ?_
    rintro e w3 ⟨rfl, hb⟩
    have B3 := hide (B2.out.trans (hb.mono B2.out.size))
    have P3 := hide (P2.out.below hb P2.out.lt)
    have Q3 := hide (Q2.out.below hb Q2.out.lt)
    clear hb B2 P2 Q2
    go_wp2_with fail
    refine (H4.out _).mono ?_
    rintro e w4 ⟨rfl, hb⟩
    have B4 := hide (B3.out.trans (hb.mono B3.out.size))
    obtain ⟨⟨s0, s1, s2, s3, s4, s5⟩, -⟩ := (P3.out.below hb P3.out.lt).cells
    obtain ⟨⟨t0, t1, t2, t3, t4, t5⟩, -⟩ := (Q3.out.below hb Q3.out.lt).cells
    simp only at s0 s1 s2 s3 s4 s5 t0 t1 t2 t3 t4 t5
    clear hb B3 P3 Q3
    go_wp2_with fail
    refine (slive_any _).mono ?_
    rintro e wLL ⟨rfl, hb⟩
    have BLL := hide (B4.out.trans (hb.mono B4.out.size))
    clear hb
    go_wp2_with fail
    try go_ret
    exact ⟨rfl, BLL.out⟩
  subst td
  by_cases tl : l = l'
  case neg =>
    have q1 : (l == l') = false := by simpa using tl
    clear hsame
    go_enter Try.func8, Try.ntmps8
    go_wp2_with fail
    refine (H1.out _).mono ?_
    rintro e w1 ⟨rfl, hb⟩
    have B1 := hide (HA.out.trans (hb.mono HA.out.size))
    have P1 := hide (HXP.out.below hb HXP.out.lt)
    have Q1 := hide (HXQ.out.below hb HXQ.out.lt)
    clear hb HA HXP HXQ
    go_wp2_with fail
    refine (H2.out _).mono ?_
    rintro e w2 ⟨rfl, hb⟩
    have B2 := hide (B1.out.trans (hb.mono B1.out.size))
    have P2 := hide (P1.out.below hb P1.out.lt)
    have Q2 := hide (Q1.out.below hb Q1.out.lt)
    obtain ⟨⟨s0, s1, s2, s3, s4, s5⟩, -⟩ := Q2.out.cells
    simp only at s0 s1 s2 s3 s4 s5
    clear hb B1 P1 Q1
    go_wp2_with fail
    clear s0 s1 s2 s3 s4 s5
    refine (H3.out _).mono ?_
    rintro e w3 ⟨rfl, hb⟩
    have B3 := hide (B2.out.trans (hb.mono B2.out.size))
    have P3 := hide (P2.out.below hb P2.out.lt)
    have Q3 := hide (Q2.out.below hb Q2.out.lt)
    clear hb B2 P2 Q2
    go_wp2_with fail
    refine (H4.out _).mono ?_
    rintro e w4 ⟨rfl, hb⟩
    have B4 := hide (B3.out.trans (hb.mono B3.out.size))
    obtain ⟨⟨s0, s1, s2, s3, s4, s5⟩, -⟩ := (P3.out.below hb P3.out.lt).cells
    obtain ⟨⟨t0, t1, t2, t3, t4, t5⟩, -⟩ := (Q3.out.below hb Q3.out.lt).cells
    simp only at s0 s1 s2 s3 s4 s5 t0 t1 t2 t3 t4 t5
    clear hb B3 P3 Q3
    go_wp2_with fail
    refine (slive_any _).mono ?_
    rintro e wLL ⟨rfl, hb⟩
    have BLL := hide (B4.out.trans (hb.mono B4.out.size))
    clear hb
    go_wp2_with fail
    try go_ret
    exact ⟨rfl, BLL.out⟩
  subst tl
  by_cases tz : z = z'
  case neg =>
    have q1 : (z.toList == z'.toList) = false := by exact str_ne tz
    clear hsame
    go_enter Try.func8, Try.ntmps8
    go_wp2_with fail
    refine (H1.out _).mono ?_
    rintro e w1 ⟨rfl, hb⟩
    have B1 := hide (HA.out.trans (hb.mono HA.out.size))
    have P1 := hide (HXP.out.below hb HXP.out.lt)
    have Q1 := hide (HXQ.out.below hb HXQ.out.lt)
    clear hb HA HXP HXQ
    go_wp2_with fail
    refine (H2.out _).mono ?_
    rintro e w2 ⟨rfl, hb⟩
    have B2 := hide (B1.out.trans (hb.mono B1.out.size))
    have P2 := hide (P1.out.below hb P1.out.lt)
    have Q2 := hide (Q1.out.below hb Q1.out.lt)
    obtain ⟨⟨s0, s1, s2, s3, s4, s5⟩, -⟩ := Q2.out.cells
    simp only at s0 s1 s2 s3 s4 s5
    clear hb B1 P1 Q1
    go_wp2_with fail
    clear s0 s1 s2 s3 s4 s5
    refine (H3.out _).mono ?_
    rintro e w3 ⟨rfl, hb⟩
    have B3 := hide (B2.out.trans (hb.mono B2.out.size))
    have P3 := hide (P2.out.below hb P2.out.lt)
    have Q3 := hide (Q2.out.below hb Q2.out.lt)
    clear hb B2 P2 Q2
    go_wp2_with fail
    refine (H4.out _).mono ?_
    rintro e w4 ⟨rfl, hb⟩
    have B4 := hide (B3.out.trans (hb.mono B3.out.size))
    obtain ⟨⟨s0, s1, s2, s3, s4, s5⟩, -⟩ := (P3.out.below hb P3.out.lt).cells
    obtain ⟨⟨t0, t1, t2, t3, t4, t5⟩, -⟩ := (Q3.out.below hb Q3.out.lt).cells
    simp only at s0 s1 s2 s3 s4 s5 t0 t1 t2 t3 t4 t5
    clear hb B3 P3 Q3
    go_wp2_with fail
    refine (slive_any _).mono ?_
    rintro e wLL ⟨rfl, hb⟩
    have BLL := hide (B4.out.trans (hb.mono B4.out.size))
    clear hb
    go_wp2_with fail
    try go_ret
    exact ⟨rfl, BLL.out⟩
  subst tz
  exact absurd (hsame ⟨rfl, rfl, rfl, rfl, rfl, rfl⟩) hSS
end Go.Proofs.Ytjcabdgikkmlpaa
