/- The law SectorBack returns true at every input, and writes nothing that was there. -/
import Derived.Test.YtjcabdgikkmlpaaSeQuiet
namespace Go.Proofs.Ytjcabdgikkmlpaa
open Go.RowKit
set_option linter.unusedVariables false
theorem mine_zero {p : Hd} (h : wE p = 0) (x : Vol) (k : Int) : (mE (wS p) x k = 0 ↔ x.n = 9 ∧ k = p.i ∧ x.id = p.v ∧ x.gen = p.g ∧ (x.ls.getD k.toNat (0, 0)).1 = p.d ∧ (x.ls.getD k.toNat (0, 0)).2 = p.s) ∧ (mE (wS p) x k = 0 → mT (wS p) x k = p.x) := by
  obtain ⟨e1, e2⟩ := read_back h
  have hi := (wE_zero.1 h).1.2.2.1
  refine ⟨⟨fun h0 => ?_, fun ⟨h9, hk, q1, q2, q3, q4⟩ => ?_⟩, fun h0 => ?_⟩
  · unfold mE at h0
    by_cases hc : x.n = 9 ∧ 0 ≤ k ∧ k < 9
    · rw [if_pos hc, e1, if_pos rfl, e2] at h0
      by_cases hm : p = mineH x k.toNat p
      · have f1 := congrArg Hd.v hm
        have f2 := congrArg Hd.g hm
        have f3 := congrArg Hd.i hm
        have f4 := congrArg Hd.d hm
        have f5 := congrArg Hd.s hm
        simp only [mineH] at f1 f2 f3 f4 f5
        exact ⟨hc.1, by omega, f1.symm, f2.symm, f4.symm, f5.symm⟩
      · rw [if_neg hm] at h0; omega
    · rw [if_neg hc] at h0; omega
  · unfold mE
    rw [if_pos ⟨h9, by omega, by omega⟩, e1, if_pos rfl, e2, if_pos]
    exact Hd.ext' q1.symm q2.symm (by simp only [mineH]; omega) q3.symm q4.symm rfl
  · unfold mT
    rw [if_pos h0, e2]
set_option maxRecDepth 100000 in
set_option maxHeartbeats 16000000 in
theorem walkSectorBack (vp vv : Value) (k : Int) (w : World) (cp : CameV 25 6 w vp) (cv : CameV 36 4 w vv) (w2 : (Lit.int .i64 k).wf = true) : Calls Try.prog 6 #[vp, vv, .int .i64 k] w fun e w' => e = .returned (.bool true) ∧ Below w.heap.size w w' := by
  obtain ⟨p, rfl, hp63⟩ := hd_open cp
  obtain ⟨x, rfl, hls, h63, hL⟩ := vol_open cv
  clear cp cv w2
  have hal : Below w.heap.size w ((w.alloc (.cells (hcs p) 25)).alloc (.cells (vcs x) 36)) := ((Below.refl _ _).alloc (Nat.le_refl _) _).alloc (by rw [World.size_alloc]; omega) _
  have HA := hide hal
  have HLo := hide (hL.below hal)
  have hL0 := hL
  clear hal hL
  by_cases hbig : 200 < p.x.size
  · clear hL0
    obtain ⟨v, g, i, d, l, z⟩ := p
    obtain ⟨id, gen, len, a, n, c, ls⟩ := x
    simp only [hcs, vcs] at HA hbig ⊢
    go_enter Try.func6, Try.ntmps6
    go_wp2_with fail
    refine (slive_any _).mono ?_
    rintro e wLL ⟨rfl, hb⟩
    have BLL := hide (HA.out.trans (hb.mono HA.out.size))
    clear hb
    go_wp2_with fail
    try go_ret
    exact ⟨rfl, BLL.out⟩
  by_cases hbig2 : 20 < x.n
  · obtain ⟨v, g, i, d, l, z⟩ := p
    obtain ⟨id, gen, len, a, n, c, ls⟩ := x
    simp only [hcs, vcs] at HA hbig hbig2 ⊢
    go_enter Try.func6, Try.ntmps6
    go_wp2_with fail
    refine (slive_any _).mono ?_
    rintro e wLL ⟨rfl, hb⟩
    have BLL := hide (HA.out.trans (hb.mono HA.out.size))
    clear hb
    go_wp2_with fail
    try go_ret
    exact ⟨rfl, BLL.out⟩
  have HXP : Hid (HBx w.heap.size 25 p ((w.alloc (.cells (hcs p) 25)).alloc (.cells (vcs x) 36))) := (hbx_new 25 p w).alloc _
  have HV : Hid (VBx (w.heap.size + 1) x ((w.alloc (.cells (hcs p) 25)).alloc (.cells (vcs x) 36))) := by
    have t := vbx_new x (w.alloc (.cells (hcs p) 25))
    rw [World.size_alloc] at t
    exact t
  have H1 := hide (own_any p)
  have H2 := hide (write_any p)
  by_cases hE : wE p = 0
  case neg =>
    have q1 : (wE p == 0) = false := by simpa using hE
    have q2 : (wE p != 0) = true := by simpa using hE
    rw [wS_bad hE] at H2
    clear hE
    generalize wE p = E at *
    obtain ⟨v, g, i, d, l, z⟩ := p
    obtain ⟨id, gen, len, a, n, c, ls⟩ := x
    simp only [hcs, vcs] at HA HXP HV H1 H2 hbig hbig2 ⊢
    go_enter Try.func6, Try.ntmps6
    go_wp2_with fail
    refine (H1.out _).mono ?_
    rintro e w1 ⟨rfl, hb⟩
    have B1 := hide (HA.out.trans (hb.mono HA.out.size))
    have P1 := hide (HXP.out.below hb HXP.out.lt)
    clear hb HA HXP
    go_wp2_with fail
    refine (H2.out _).mono ?_
    rintro e w2 ⟨rfl, hb⟩
    have B2 := hide (B1.out.trans (hb.mono B1.out.size))
    have P2 := hide (P1.out.below hb P1.out.lt)
    clear hb B1 P1
    go_wp2_with fail
    refine (slive_any _).mono ?_
    rintro e wLL ⟨rfl, hb⟩
    have BLL := hide (B2.out.trans (hb.mono B2.out.size))
    clear hb
    go_wp2_with fail
    try go_ret
    exact ⟨rfl, BLL.out⟩
  have hsz := wS_small hE
  have hi := (wE_zero.1 hE).1.2.2.1
  have H3 := hide (fun w => sread_any (wS p) w (by omega))
  rw [(read_back hE).1, (read_back hE).2] at H3
  have H4 := hide (fun w hL => mine_any (wS p) x k w (by omega) hls hL)
  obtain ⟨hmz, hmt⟩ := mine_zero hE x k
  rw [hE] at H2
  clear hE
  have HO := hide (told_q p)
  obtain ⟨kk, hkk⟩ := Int.eq_ofNat_of_zero_le hi.1
  have hk9 : kk < 9 := by omega
  have hloc : x.n = 9 → ∃ bl o, x.a = some ⟨bl, o, none⟩ ∧ bl < w.heap.size ∧ (w.cell? ⟨bl, o + kk * 2, none⟩ = some (.int .i64 (x.ls.getD kk (0, 0)).1) ∧ w.cell? ⟨bl, o + kk * 2 + 1, none⟩ = some (.int .i64 (x.ls.getD kk (0, 0)).2)) := fun h9 => by
    have hlk : kk < x.ls.length := by omega
    have hy : x.ls[kk]? = some (x.ls.getD kk (0, 0)) := by rw [List.getD_eq_getElem?_getD, List.getElem?_eq_getElem hlk]; rfl
    rcases hL0 with q | ⟨b, o, ha, hb, hc⟩
    · rw [q] at hlk; simp at hlk
    · exact ⟨b, o, ha, hb, hc kk _ hy⟩
  generalize mE (wS p) x k = M at *
  generalize mT (wS p) x k = MT at *
  generalize wS p = S at *
  by_cases h9 : x.n = 9
  case neg =>
    have m0 : (M == 0) = false := by
      rw [beq_eq_false_iff_ne]; exact fun h => h9 (hmz.1 h).1
    have q9 : ((x.n : Int) == 9) = false := by simp; omega
    clear hmz hmt hloc hL0 h9
    obtain ⟨v, g, i, d, l, z⟩ := p
    obtain ⟨id, gen, len, a, n, c, ls⟩ := x
    simp only at hkk
    subst hkk
    simp only [hcs, vcs] at HA HXP HV H1 H2 H3 H4 HO HLo hbig hbig2 q9 ⊢
    go_enter Try.func6, Try.ntmps6
    go_wp2_with fail
    refine (H1.out _).mono ?_
    rintro e w1 ⟨rfl, hb⟩
    have B1 := hide (HA.out.trans (hb.mono HA.out.size))
    have V1 := hide (HV.out.below hb HV.out.lt)
    have L1 := hide (HLo.out.below hb)
    have P1 := hide (HXP.out.below hb HXP.out.lt)
    clear hb HA HXP HV HLo
    go_wp2_with fail
    refine (H2.out _).mono ?_
    rintro e w2 ⟨rfl, hb⟩
    have B2 := hide (B1.out.trans (hb.mono B1.out.size))
    have V2 := hide (V1.out.below hb V1.out.lt)
    have L2 := hide (L1.out.below hb)
    have P2 := hide (P1.out.below hb P1.out.lt)
    clear hb B1 P1 V1 L1
    go_wp2_with fail
    refine (H3.out _).mono ?_
    rintro e w3 ⟨rfl, hb⟩
    have hal : Below w3.heap.size w3 (w3.alloc (.cells #[.int .i64 v, .int .i64 g, .int .i64 (kk : Int), .int .i64 d, .int .i64 l, .string z] 30)) := (Below.refl _ _).alloc (Nat.le_refl _) _
    have hb3 := hb.trans (hal.mono hb.size)
    have B3 := hide (B2.out.trans (hb3.mono B2.out.size))
    have P3 := hide (P2.out.below hb3 P2.out.lt)
    have V3 := hide (V2.out.below hb3 V2.out.lt)
    have L3 := hide (L2.out.below hb3)
    have X3 := hide (hbx_new 30 ⟨v, g, (kk : Int), d, l, z⟩ w3)
    simp only [hcs] at X3
    obtain ⟨v0, v1, v2, v3⟩ := V3.out.cells
    simp only at v0 v1 v2 v3
    clear hb hal hb3 B2 P2 V2 L2
    go_wp2_with fail
    generalize (w3.alloc (.cells #[.int .i64 v, .int .i64 g, .int .i64 (kk : Int), .int .i64 d, .int .i64 l, .string z] 30)) = W3 at *
    generalize w3.heap.size = b3 at *
    clear v0 v1 v2 v3
    refine (H4.out _ L3.out).mono ?_
    rintro e w4 ⟨rfl, hb⟩
    have B4 := hide (B3.out.trans (hb.mono B3.out.size))
    have P4 := hide (P3.out.below hb P3.out.lt)
    have X4 := hide (X3.out.below hb X3.out.lt)
    obtain ⟨v0, v1, v2, v3⟩ := (V3.out.below hb V3.out.lt).cells
    obtain ⟨⟨p0, p1, p2, p3, p4, p5⟩, -⟩ := P4.out.cells
    simp only at v0 v1 v2 v3 p0 p1 p2 p3 p4 p5
    clear hb B3 P3 V3 L3 X3
    go_upto_region 8 with fail
    go_quiet (fail)
    go_upto_region 9 with fail
    clear v0 v1 v2 v3 p0 p1 p2 p3 p4 p5
    have P5 : Hid (HBx w.heap.size 25 ⟨v, g, (kk : Int), d, l, z⟩ (w4.drewN nq)) := P4.out
    have X5 : Hid (HBx b3 30 ⟨v, g, (kk : Int), d, l, z⟩ (w4.drewN nq)) := X4.out
    have B5 := hide (draws_below B4.out nq)
    clear B4 P4 X4
    generalize w4.drewN nq = W5 at *
    have e0 := cell_regrown X5.out.c0
    have e1 := cell_regrown X5.out.c1
    have e2 := cell_regrown X5.out.c2
    have e3 := cell_regrown X5.out.c3
    have e4 := cell_regrown X5.out.c4
    have e5 := cell_regrown X5.out.c5
    have f0' := cell_regrown P5.out.c0
    have f1' := cell_regrown P5.out.c1
    have f2' := cell_regrown P5.out.c2
    have f3' := cell_regrown P5.out.c3
    have f4' := cell_regrown P5.out.c4
    have f5' := cell_regrown P5.out.c5
    simp only at e0 e1 e2 e3 e4 e5 f0' f1' f2' f3' f4' f5'
    have r1 := HO.out W5
    have r2 := live_q W5
    refine wp_region_quiet_below (by kernel_rfl) (by kernel_rfl) ?_
    repeat (quiet_step (first | (with_reducible exact r1 _ _) | (with_reducible exact r2 _ _)))
    refine wpQuiet_nil ?_
    intro _ hw'
    obtain ⟨pq, hw''⟩ := hw'
    subst hw''
    have HQ := hide (B5.out.trans ((below_regrown W5 pq.d pq.os).mono B5.out.size))
    generalize Go.Sort.grow (redrawn W5 pq.d) pq.os = WQ at *
    go_wp2_with fail
    try go_ret
    exact ⟨rfl, HQ.out⟩
  obtain ⟨bl, o, ha, hbl, hcl⟩ := hloc h9
  have HC := hide hcl
  clear hcl hloc hL0
  by_cases hk : k = p.i
  case neg =>
    have m0 : (M == 0) = false := by
      rw [beq_eq_false_iff_ne]; exact fun h => hk (hmz.1 h).2.1
    have q1 : (k == p.i) = false := by simpa using hk
    clear hmz hmt hk HC
    obtain ⟨v, g, i, d, l, z⟩ := p
    obtain ⟨id, gen, len, a, n, c, ls⟩ := x
    simp only at hkk
    subst hkk
    simp only [hcs, vcs] at HA HXP HV H1 H2 H3 H4 HO HLo hbig hbig2 q1 h9 ha ⊢
    subst h9 ha
    go_enter Try.func6, Try.ntmps6
    go_wp2_with fail
    refine (H1.out _).mono ?_
    rintro e w1 ⟨rfl, hb⟩
    have B1 := hide (HA.out.trans (hb.mono HA.out.size))
    have V1 := hide (HV.out.below hb HV.out.lt)
    have L1 := hide (HLo.out.below hb)
    have P1 := hide (HXP.out.below hb HXP.out.lt)
    clear hb HA HXP HV HLo
    go_wp2_with fail
    refine (H2.out _).mono ?_
    rintro e w2 ⟨rfl, hb⟩
    have B2 := hide (B1.out.trans (hb.mono B1.out.size))
    have V2 := hide (V1.out.below hb V1.out.lt)
    have L2 := hide (L1.out.below hb)
    have P2 := hide (P1.out.below hb P1.out.lt)
    clear hb B1 P1 V1 L1
    go_wp2_with fail
    refine (H3.out _).mono ?_
    rintro e w3 ⟨rfl, hb⟩
    have hal : Below w3.heap.size w3 (w3.alloc (.cells #[.int .i64 v, .int .i64 g, .int .i64 (kk : Int), .int .i64 d, .int .i64 l, .string z] 30)) := (Below.refl _ _).alloc (Nat.le_refl _) _
    have hb3 := hb.trans (hal.mono hb.size)
    have B3 := hide (B2.out.trans (hb3.mono B2.out.size))
    have P3 := hide (P2.out.below hb3 P2.out.lt)
    have V3 := hide (V2.out.below hb3 V2.out.lt)
    have L3 := hide (L2.out.below hb3)
    have X3 := hide (hbx_new 30 ⟨v, g, (kk : Int), d, l, z⟩ w3)
    simp only [hcs] at X3
    obtain ⟨v0, v1, v2, v3⟩ := V3.out.cells
    simp only at v0 v1 v2 v3
    clear hb hal hb3 B2 P2 V2 L2
    go_wp2_with fail
    generalize (w3.alloc (.cells #[.int .i64 v, .int .i64 g, .int .i64 (kk : Int), .int .i64 d, .int .i64 l, .string z] 30)) = W3 at *
    generalize w3.heap.size = b3 at *
    clear v0 v1 v2 v3
    refine (H4.out _ L3.out).mono ?_
    rintro e w4 ⟨rfl, hb⟩
    have B4 := hide (B3.out.trans (hb.mono B3.out.size))
    have P4 := hide (P3.out.below hb P3.out.lt)
    have X4 := hide (X3.out.below hb X3.out.lt)
    obtain ⟨v0, v1, v2, v3⟩ := (V3.out.below hb V3.out.lt).cells
    obtain ⟨⟨p0, p1, p2, p3, p4, p5⟩, -⟩ := P4.out.cells
    simp only at v0 v1 v2 v3 p0 p1 p2 p3 p4 p5
    clear hb B3 P3 V3 L3 X3
    go_upto_region 8 with fail
    go_quiet (fail)
    go_upto_region 9 with fail
    clear v0 v1 v2 v3 p0 p1 p2 p3 p4 p5
    have P5 : Hid (HBx w.heap.size 25 ⟨v, g, (kk : Int), d, l, z⟩ (w4.drewN nq)) := P4.out
    have X5 : Hid (HBx b3 30 ⟨v, g, (kk : Int), d, l, z⟩ (w4.drewN nq)) := X4.out
    have B5 := hide (draws_below B4.out nq)
    clear B4 P4 X4
    generalize w4.drewN nq = W5 at *
    have e0 := cell_regrown X5.out.c0
    have e1 := cell_regrown X5.out.c1
    have e2 := cell_regrown X5.out.c2
    have e3 := cell_regrown X5.out.c3
    have e4 := cell_regrown X5.out.c4
    have e5 := cell_regrown X5.out.c5
    have f0' := cell_regrown P5.out.c0
    have f1' := cell_regrown P5.out.c1
    have f2' := cell_regrown P5.out.c2
    have f3' := cell_regrown P5.out.c3
    have f4' := cell_regrown P5.out.c4
    have f5' := cell_regrown P5.out.c5
    simp only at e0 e1 e2 e3 e4 e5 f0' f1' f2' f3' f4' f5'
    have r1 := HO.out W5
    have r2 := live_q W5
    refine wp_region_quiet_below (by kernel_rfl) (by kernel_rfl) ?_
    repeat (quiet_step (first | (with_reducible exact r1 _ _) | (with_reducible exact r2 _ _)))
    refine wpQuiet_nil ?_
    intro _ hw'
    obtain ⟨pq, hw''⟩ := hw'
    subst hw''
    have HQ := hide (B5.out.trans ((below_regrown W5 pq.d pq.os).mono B5.out.size))
    generalize Go.Sort.grow (redrawn W5 pq.d) pq.os = WQ at *
    go_wp2_with fail
    try go_ret
    exact ⟨rfl, HQ.out⟩
  rw [hkk] at hk
  subst hk
  rw [Int.toNat_natCast] at hmz
  generalize x.ls.getD kk (0, 0) = y at *
  obtain ⟨y1, y2⟩ := y
  simp only at hmz
  by_cases tv : x.id = p.v
  case neg =>
    have m0 : (M == 0) = false := by
      rw [beq_eq_false_iff_ne]; exact fun h => tv (hmz.1 h).2.2.1
    have q1 : (x.id == p.v) = false := by simpa using tv
    clear hmz hmt HC tv
    obtain ⟨v, g, i, d, l, z⟩ := p
    obtain ⟨id, gen, len, a, n, c, ls⟩ := x
    simp only at hkk
    subst hkk
    simp only [hcs, vcs] at HA HXP HV H1 H2 H3 H4 HO HLo hbig hbig2 q1 h9 ha ⊢
    subst h9 ha
    go_enter Try.func6, Try.ntmps6
    go_wp2_with fail
    refine (H1.out _).mono ?_
    rintro e w1 ⟨rfl, hb⟩
    have B1 := hide (HA.out.trans (hb.mono HA.out.size))
    have V1 := hide (HV.out.below hb HV.out.lt)
    have L1 := hide (HLo.out.below hb)
    have P1 := hide (HXP.out.below hb HXP.out.lt)
    clear hb HA HXP HV HLo
    go_wp2_with fail
    refine (H2.out _).mono ?_
    rintro e w2 ⟨rfl, hb⟩
    have B2 := hide (B1.out.trans (hb.mono B1.out.size))
    have V2 := hide (V1.out.below hb V1.out.lt)
    have L2 := hide (L1.out.below hb)
    have P2 := hide (P1.out.below hb P1.out.lt)
    clear hb B1 P1 V1 L1
    go_wp2_with fail
    refine (H3.out _).mono ?_
    rintro e w3 ⟨rfl, hb⟩
    have hal : Below w3.heap.size w3 (w3.alloc (.cells #[.int .i64 v, .int .i64 g, .int .i64 (kk : Int), .int .i64 d, .int .i64 l, .string z] 30)) := (Below.refl _ _).alloc (Nat.le_refl _) _
    have hb3 := hb.trans (hal.mono hb.size)
    have B3 := hide (B2.out.trans (hb3.mono B2.out.size))
    have P3 := hide (P2.out.below hb3 P2.out.lt)
    have V3 := hide (V2.out.below hb3 V2.out.lt)
    have L3 := hide (L2.out.below hb3)
    have X3 := hide (hbx_new 30 ⟨v, g, (kk : Int), d, l, z⟩ w3)
    simp only [hcs] at X3
    obtain ⟨v0, v1, v2, v3⟩ := V3.out.cells
    simp only at v0 v1 v2 v3
    clear hb hal hb3 B2 P2 V2 L2
    go_wp2_with fail
    generalize (w3.alloc (.cells #[.int .i64 v, .int .i64 g, .int .i64 (kk : Int), .int .i64 d, .int .i64 l, .string z] 30)) = W3 at *
    generalize w3.heap.size = b3 at *
    clear v0 v1 v2 v3
    refine (H4.out _ L3.out).mono ?_
    rintro e w4 ⟨rfl, hb⟩
    have B4 := hide (B3.out.trans (hb.mono B3.out.size))
    have P4 := hide (P3.out.below hb P3.out.lt)
    have X4 := hide (X3.out.below hb X3.out.lt)
    obtain ⟨v0, v1, v2, v3⟩ := (V3.out.below hb V3.out.lt).cells
    obtain ⟨⟨p0, p1, p2, p3, p4, p5⟩, -⟩ := P4.out.cells
    simp only at v0 v1 v2 v3 p0 p1 p2 p3 p4 p5
    clear hb B3 P3 V3 L3 X3
    go_upto_region 8 with fail
    go_quiet (fail)
    go_upto_region 9 with fail
    clear v0 v1 v2 v3 p0 p1 p2 p3 p4 p5
    have P5 : Hid (HBx w.heap.size 25 ⟨v, g, (kk : Int), d, l, z⟩ (w4.drewN nq)) := P4.out
    have X5 : Hid (HBx b3 30 ⟨v, g, (kk : Int), d, l, z⟩ (w4.drewN nq)) := X4.out
    have B5 := hide (draws_below B4.out nq)
    clear B4 P4 X4
    generalize w4.drewN nq = W5 at *
    have e0 := cell_regrown X5.out.c0
    have e1 := cell_regrown X5.out.c1
    have e2 := cell_regrown X5.out.c2
    have e3 := cell_regrown X5.out.c3
    have e4 := cell_regrown X5.out.c4
    have e5 := cell_regrown X5.out.c5
    have f0' := cell_regrown P5.out.c0
    have f1' := cell_regrown P5.out.c1
    have f2' := cell_regrown P5.out.c2
    have f3' := cell_regrown P5.out.c3
    have f4' := cell_regrown P5.out.c4
    have f5' := cell_regrown P5.out.c5
    simp only at e0 e1 e2 e3 e4 e5 f0' f1' f2' f3' f4' f5'
    have r1 := HO.out W5
    have r2 := live_q W5
    refine wp_region_quiet_below (by kernel_rfl) (by kernel_rfl) ?_
    repeat (quiet_step (first | (with_reducible exact r1 _ _) | (with_reducible exact r2 _ _)))
    refine wpQuiet_nil ?_
    intro _ hw'
    obtain ⟨pq, hw''⟩ := hw'
    subst hw''
    have HQ := hide (B5.out.trans ((below_regrown W5 pq.d pq.os).mono B5.out.size))
    generalize Go.Sort.grow (redrawn W5 pq.d) pq.os = WQ at *
    go_wp2_with fail
    try go_ret
    exact ⟨rfl, HQ.out⟩
  have e1 := tv.symm
  by_cases tg : x.gen = p.g
  case neg =>
    have m0 : (M == 0) = false := by
      rw [beq_eq_false_iff_ne]; exact fun h => tg (hmz.1 h).2.2.2.1
    have q1 : (x.gen == p.g) = false := by simpa using tg
    clear hmz hmt HC tv tg
    obtain ⟨v, g, i, d, l, z⟩ := p
    obtain ⟨id, gen, len, a, n, c, ls⟩ := x
    simp only at hkk
    subst hkk
    simp only [hcs, vcs] at HA HXP HV H1 H2 H3 H4 HO HLo hbig hbig2 q1 h9 ha e1 ⊢
    subst h9 ha
    subst e1
    go_enter Try.func6, Try.ntmps6
    go_wp2_with fail
    refine (H1.out _).mono ?_
    rintro e w1 ⟨rfl, hb⟩
    have B1 := hide (HA.out.trans (hb.mono HA.out.size))
    have V1 := hide (HV.out.below hb HV.out.lt)
    have L1 := hide (HLo.out.below hb)
    have P1 := hide (HXP.out.below hb HXP.out.lt)
    clear hb HA HXP HV HLo
    go_wp2_with fail
    refine (H2.out _).mono ?_
    rintro e w2 ⟨rfl, hb⟩
    have B2 := hide (B1.out.trans (hb.mono B1.out.size))
    have V2 := hide (V1.out.below hb V1.out.lt)
    have L2 := hide (L1.out.below hb)
    have P2 := hide (P1.out.below hb P1.out.lt)
    clear hb B1 P1 V1 L1
    go_wp2_with fail
    refine (H3.out _).mono ?_
    rintro e w3 ⟨rfl, hb⟩
    have hal : Below w3.heap.size w3 (w3.alloc (.cells #[.int .i64 v, .int .i64 g, .int .i64 (kk : Int), .int .i64 d, .int .i64 l, .string z] 30)) := (Below.refl _ _).alloc (Nat.le_refl _) _
    have hb3 := hb.trans (hal.mono hb.size)
    have B3 := hide (B2.out.trans (hb3.mono B2.out.size))
    have P3 := hide (P2.out.below hb3 P2.out.lt)
    have V3 := hide (V2.out.below hb3 V2.out.lt)
    have L3 := hide (L2.out.below hb3)
    have X3 := hide (hbx_new 30 ⟨v, g, (kk : Int), d, l, z⟩ w3)
    simp only [hcs] at X3
    obtain ⟨v0, v1, v2, v3⟩ := V3.out.cells
    simp only at v0 v1 v2 v3
    clear hb hal hb3 B2 P2 V2 L2
    go_wp2_with fail
    generalize (w3.alloc (.cells #[.int .i64 v, .int .i64 g, .int .i64 (kk : Int), .int .i64 d, .int .i64 l, .string z] 30)) = W3 at *
    generalize w3.heap.size = b3 at *
    clear v0 v1 v2 v3
    refine (H4.out _ L3.out).mono ?_
    rintro e w4 ⟨rfl, hb⟩
    have B4 := hide (B3.out.trans (hb.mono B3.out.size))
    have P4 := hide (P3.out.below hb P3.out.lt)
    have X4 := hide (X3.out.below hb X3.out.lt)
    obtain ⟨v0, v1, v2, v3⟩ := (V3.out.below hb V3.out.lt).cells
    obtain ⟨⟨p0, p1, p2, p3, p4, p5⟩, -⟩ := P4.out.cells
    simp only at v0 v1 v2 v3 p0 p1 p2 p3 p4 p5
    clear hb B3 P3 V3 L3 X3
    go_upto_region 8 with fail
    go_quiet (fail)
    go_upto_region 9 with fail
    clear v0 v1 v2 v3 p0 p1 p2 p3 p4 p5
    have P5 : Hid (HBx w.heap.size 25 ⟨v, g, (kk : Int), d, l, z⟩ (w4.drewN nq)) := P4.out
    have X5 : Hid (HBx b3 30 ⟨v, g, (kk : Int), d, l, z⟩ (w4.drewN nq)) := X4.out
    have B5 := hide (draws_below B4.out nq)
    clear B4 P4 X4
    generalize w4.drewN nq = W5 at *
    have e0 := cell_regrown X5.out.c0
    have e1 := cell_regrown X5.out.c1
    have e2 := cell_regrown X5.out.c2
    have e3 := cell_regrown X5.out.c3
    have e4 := cell_regrown X5.out.c4
    have e5 := cell_regrown X5.out.c5
    have f0' := cell_regrown P5.out.c0
    have f1' := cell_regrown P5.out.c1
    have f2' := cell_regrown P5.out.c2
    have f3' := cell_regrown P5.out.c3
    have f4' := cell_regrown P5.out.c4
    have f5' := cell_regrown P5.out.c5
    simp only at e0 e1 e2 e3 e4 e5 f0' f1' f2' f3' f4' f5'
    have r1 := HO.out W5
    have r2 := live_q W5
    refine wp_region_quiet_below (by kernel_rfl) (by kernel_rfl) ?_
    repeat (quiet_step (first | (with_reducible exact r1 _ _) | (with_reducible exact r2 _ _)))
    refine wpQuiet_nil ?_
    intro _ hw'
    obtain ⟨pq, hw''⟩ := hw'
    subst hw''
    have HQ := hide (B5.out.trans ((below_regrown W5 pq.d pq.os).mono B5.out.size))
    generalize Go.Sort.grow (redrawn W5 pq.d) pq.os = WQ at *
    go_wp2_with fail
    try go_ret
    exact ⟨rfl, HQ.out⟩
  have e2 := tg.symm
  by_cases td : y1 = p.d
  case neg =>
    have m0 : (M == 0) = false := by
      rw [beq_eq_false_iff_ne]; exact fun h => td (hmz.1 h).2.2.2.2.1
    have q1 : (y1 == p.d) = false := by simpa using td
    clear hmz hmt tv tg td
    obtain ⟨v, g, i, d, l, z⟩ := p
    obtain ⟨id, gen, len, a, n, c, ls⟩ := x
    simp only at hkk
    subst hkk
    simp only [hcs, vcs] at HA HXP HV H1 H2 H3 H4 HO HLo hbig hbig2 q1 h9 ha e1 e2 ⊢
    subst h9 ha e1 e2
    go_enter Try.func6, Try.ntmps6
    go_wp2_with fail
    refine (H1.out _).mono ?_
    rintro e w1 ⟨rfl, hb⟩
    have B1 := hide (HA.out.trans (hb.mono HA.out.size))
    have V1 := hide (HV.out.below hb HV.out.lt)
    have L1 := hide (HLo.out.below hb)
    have P1 := hide (HXP.out.below hb HXP.out.lt)
    clear hb HA HXP HV HLo
    go_wp2_with fail
    refine (H2.out _).mono ?_
    rintro e w2 ⟨rfl, hb⟩
    have B2 := hide (B1.out.trans (hb.mono B1.out.size))
    have V2 := hide (V1.out.below hb V1.out.lt)
    have L2 := hide (L1.out.below hb)
    have P2 := hide (P1.out.below hb P1.out.lt)
    clear hb B1 P1 V1 L1
    go_wp2_with fail
    refine (H3.out _).mono ?_
    rintro e w3 ⟨rfl, hb⟩
    have hal : Below w3.heap.size w3 (w3.alloc (.cells #[.int .i64 v, .int .i64 g, .int .i64 (kk : Int), .int .i64 d, .int .i64 l, .string z] 30)) := (Below.refl _ _).alloc (Nat.le_refl _) _
    have hb3 := hb.trans (hal.mono hb.size)
    have B3 := hide (B2.out.trans (hb3.mono B2.out.size))
    have P3 := hide (P2.out.below hb3 P2.out.lt)
    have V3 := hide (V2.out.below hb3 V2.out.lt)
    have L3 := hide (L2.out.below hb3)
    have X3 := hide (hbx_new 30 ⟨v, g, (kk : Int), d, l, z⟩ w3)
    simp only [hcs] at X3
    obtain ⟨v0, v1, v2, v3⟩ := V3.out.cells
    simp only at v0 v1 v2 v3
    clear hb hal hb3 B2 P2 V2 L2
    go_wp2_with fail
    generalize (w3.alloc (.cells #[.int .i64 v, .int .i64 g, .int .i64 (kk : Int), .int .i64 d, .int .i64 l, .string z] 30)) = W3 at *
    generalize w3.heap.size = b3 at *
    clear v0 v1 v2 v3
    refine (H4.out _ L3.out).mono ?_
    rintro e w4 ⟨rfl, hb⟩
    have B4 := hide (B3.out.trans (hb.mono B3.out.size))
    have P4 := hide (P3.out.below hb P3.out.lt)
    have X4 := hide (X3.out.below hb X3.out.lt)
    obtain ⟨v0, v1, v2, v3⟩ := (V3.out.below hb V3.out.lt).cells
    obtain ⟨⟨p0, p1, p2, p3, p4, p5⟩, -⟩ := P4.out.cells
    simp only at v0 v1 v2 v3 p0 p1 p2 p3 p4 p5
    have l0 := (B4.out.cell (p := ⟨bl, o + kk * 2, none⟩) hbl).trans HC.out.1
    have l1 := (B4.out.cell (p := ⟨bl, o + kk * 2 + 1, none⟩) hbl).trans HC.out.2
    clear hb B3 P3 V3 L3 X3
    go_upto_region 8 with fail
    go_quiet (fail)
    go_upto_region 9 with fail
    clear v0 v1 v2 v3 p0 p1 p2 p3 p4 p5
    have P5 : Hid (HBx w.heap.size 25 ⟨v, g, (kk : Int), d, l, z⟩ (w4.drewN nq)) := P4.out
    have X5 : Hid (HBx b3 30 ⟨v, g, (kk : Int), d, l, z⟩ (w4.drewN nq)) := X4.out
    have B5 := hide (draws_below B4.out nq)
    clear B4 P4 X4
    generalize w4.drewN nq = W5 at *
    have e0 := cell_regrown X5.out.c0
    have e1 := cell_regrown X5.out.c1
    have e2 := cell_regrown X5.out.c2
    have e3 := cell_regrown X5.out.c3
    have e4 := cell_regrown X5.out.c4
    have e5 := cell_regrown X5.out.c5
    have f0' := cell_regrown P5.out.c0
    have f1' := cell_regrown P5.out.c1
    have f2' := cell_regrown P5.out.c2
    have f3' := cell_regrown P5.out.c3
    have f4' := cell_regrown P5.out.c4
    have f5' := cell_regrown P5.out.c5
    simp only at e0 e1 e2 e3 e4 e5 f0' f1' f2' f3' f4' f5'
    have r1 := HO.out W5
    have r2 := live_q W5
    refine wp_region_quiet_below (by kernel_rfl) (by kernel_rfl) ?_
    repeat (quiet_step (first | (with_reducible exact r1 _ _) | (with_reducible exact r2 _ _)))
    refine wpQuiet_nil ?_
    intro _ hw'
    obtain ⟨pq, hw''⟩ := hw'
    subst hw''
    have HQ := hide (B5.out.trans ((below_regrown W5 pq.d pq.os).mono B5.out.size))
    generalize Go.Sort.grow (redrawn W5 pq.d) pq.os = WQ at *
    go_wp2_with fail
    try go_ret
    exact ⟨rfl, HQ.out⟩
  have e3 := td.symm
  by_cases ts : y2 = p.s
  case neg =>
    have m0 : (M == 0) = false := by
      rw [beq_eq_false_iff_ne]; exact fun h => ts (hmz.1 h).2.2.2.2.2
    have q1 : (y2 == p.s) = false := by simpa using ts
    clear hmz hmt tv tg td ts
    obtain ⟨v, g, i, d, l, z⟩ := p
    obtain ⟨id, gen, len, a, n, c, ls⟩ := x
    simp only at hkk
    subst hkk
    simp only [hcs, vcs] at HA HXP HV H1 H2 H3 H4 HO HLo hbig hbig2 q1 h9 ha e1 e2 e3 ⊢
    subst h9 ha e1 e2
    subst e3
    go_enter Try.func6, Try.ntmps6
    go_wp2_with fail
    refine (H1.out _).mono ?_
    rintro e w1 ⟨rfl, hb⟩
    have B1 := hide (HA.out.trans (hb.mono HA.out.size))
    have V1 := hide (HV.out.below hb HV.out.lt)
    have L1 := hide (HLo.out.below hb)
    have P1 := hide (HXP.out.below hb HXP.out.lt)
    clear hb HA HXP HV HLo
    go_wp2_with fail
    refine (H2.out _).mono ?_
    rintro e w2 ⟨rfl, hb⟩
    have B2 := hide (B1.out.trans (hb.mono B1.out.size))
    have V2 := hide (V1.out.below hb V1.out.lt)
    have L2 := hide (L1.out.below hb)
    have P2 := hide (P1.out.below hb P1.out.lt)
    clear hb B1 P1 V1 L1
    go_wp2_with fail
    refine (H3.out _).mono ?_
    rintro e w3 ⟨rfl, hb⟩
    have hal : Below w3.heap.size w3 (w3.alloc (.cells #[.int .i64 v, .int .i64 g, .int .i64 (kk : Int), .int .i64 d, .int .i64 l, .string z] 30)) := (Below.refl _ _).alloc (Nat.le_refl _) _
    have hb3 := hb.trans (hal.mono hb.size)
    have B3 := hide (B2.out.trans (hb3.mono B2.out.size))
    have P3 := hide (P2.out.below hb3 P2.out.lt)
    have V3 := hide (V2.out.below hb3 V2.out.lt)
    have L3 := hide (L2.out.below hb3)
    have X3 := hide (hbx_new 30 ⟨v, g, (kk : Int), d, l, z⟩ w3)
    simp only [hcs] at X3
    obtain ⟨v0, v1, v2, v3⟩ := V3.out.cells
    simp only at v0 v1 v2 v3
    clear hb hal hb3 B2 P2 V2 L2
    go_wp2_with fail
    generalize (w3.alloc (.cells #[.int .i64 v, .int .i64 g, .int .i64 (kk : Int), .int .i64 d, .int .i64 l, .string z] 30)) = W3 at *
    generalize w3.heap.size = b3 at *
    clear v0 v1 v2 v3
    refine (H4.out _ L3.out).mono ?_
    rintro e w4 ⟨rfl, hb⟩
    have B4 := hide (B3.out.trans (hb.mono B3.out.size))
    have P4 := hide (P3.out.below hb P3.out.lt)
    have X4 := hide (X3.out.below hb X3.out.lt)
    obtain ⟨v0, v1, v2, v3⟩ := (V3.out.below hb V3.out.lt).cells
    obtain ⟨⟨p0, p1, p2, p3, p4, p5⟩, -⟩ := P4.out.cells
    simp only at v0 v1 v2 v3 p0 p1 p2 p3 p4 p5
    have l0 := (B4.out.cell (p := ⟨bl, o + kk * 2, none⟩) hbl).trans HC.out.1
    have l1 := (B4.out.cell (p := ⟨bl, o + kk * 2 + 1, none⟩) hbl).trans HC.out.2
    clear hb B3 P3 V3 L3 X3
    go_upto_region 8 with fail
    go_quiet (fail)
    go_upto_region 9 with fail
    clear v0 v1 v2 v3 p0 p1 p2 p3 p4 p5
    have P5 : Hid (HBx w.heap.size 25 ⟨v, g, (kk : Int), d, l, z⟩ (w4.drewN nq)) := P4.out
    have X5 : Hid (HBx b3 30 ⟨v, g, (kk : Int), d, l, z⟩ (w4.drewN nq)) := X4.out
    have B5 := hide (draws_below B4.out nq)
    clear B4 P4 X4
    generalize w4.drewN nq = W5 at *
    have e0 := cell_regrown X5.out.c0
    have e1 := cell_regrown X5.out.c1
    have e2 := cell_regrown X5.out.c2
    have e3 := cell_regrown X5.out.c3
    have e4 := cell_regrown X5.out.c4
    have e5 := cell_regrown X5.out.c5
    have f0' := cell_regrown P5.out.c0
    have f1' := cell_regrown P5.out.c1
    have f2' := cell_regrown P5.out.c2
    have f3' := cell_regrown P5.out.c3
    have f4' := cell_regrown P5.out.c4
    have f5' := cell_regrown P5.out.c5
    simp only at e0 e1 e2 e3 e4 e5 f0' f1' f2' f3' f4' f5'
    have r1 := HO.out W5
    have r2 := live_q W5
    refine wp_region_quiet_below (by kernel_rfl) (by kernel_rfl) ?_
    repeat (quiet_step (first | (with_reducible exact r1 _ _) | (with_reducible exact r2 _ _)))
    refine wpQuiet_nil ?_
    intro _ hw'
    obtain ⟨pq, hw''⟩ := hw'
    subst hw''
    have HQ := hide (B5.out.trans ((below_regrown W5 pq.d pq.os).mono B5.out.size))
    generalize Go.Sort.grow (redrawn W5 pq.d) pq.os = WQ at *
    go_wp2_with fail
    try go_ret
    exact ⟨rfl, HQ.out⟩
  have e4 := ts.symm
  have hM : M = 0 := hmz.2 ⟨h9, hkk.symm, tv, tg, td, ts⟩
  have hMT := hmt hM
  clear hmz hmt tv tg td ts
  subst hM hMT
  obtain ⟨v, g, i, d, l, z⟩ := p
  obtain ⟨id, gen, len, a, n, c, ls⟩ := x
  simp only at hkk
  subst hkk
  simp only [hcs, vcs] at HA HXP HV H1 H2 H3 H4 HO HLo hbig hbig2 h9 ha e1 e2 e3 e4 ⊢
  subst h9 ha e1 e2 e3 e4
  go_enter Try.func6, Try.ntmps6
  go_wp2_with fail
  refine (H1.out _).mono ?_
  rintro e w1 ⟨rfl, hb⟩
  have B1 := hide (HA.out.trans (hb.mono HA.out.size))
  have V1 := hide (HV.out.below hb HV.out.lt)
  have L1 := hide (HLo.out.below hb)
  have P1 := hide (HXP.out.below hb HXP.out.lt)
  clear hb HA HXP HV HLo
  go_wp2_with fail
  refine (H2.out _).mono ?_
  rintro e w2 ⟨rfl, hb⟩
  have B2 := hide (B1.out.trans (hb.mono B1.out.size))
  have V2 := hide (V1.out.below hb V1.out.lt)
  have L2 := hide (L1.out.below hb)
  have P2 := hide (P1.out.below hb P1.out.lt)
  clear hb B1 P1 V1 L1
  go_wp2_with fail
  refine (H3.out _).mono ?_
  rintro e w3 ⟨rfl, hb⟩
  have hal : Below w3.heap.size w3 (w3.alloc (.cells #[.int .i64 v, .int .i64 g, .int .i64 (kk : Int), .int .i64 d, .int .i64 l, .string z] 30)) := (Below.refl _ _).alloc (Nat.le_refl _) _
  have hb3 := hb.trans (hal.mono hb.size)
  have B3 := hide (B2.out.trans (hb3.mono B2.out.size))
  have P3 := hide (P2.out.below hb3 P2.out.lt)
  have V3 := hide (V2.out.below hb3 V2.out.lt)
  have L3 := hide (L2.out.below hb3)
  have X3 := hide (hbx_new 30 ⟨v, g, (kk : Int), d, l, z⟩ w3)
  simp only [hcs] at X3
  obtain ⟨v0, v1, v2, v3⟩ := V3.out.cells
  simp only at v0 v1 v2 v3
  clear hb hal hb3 B2 P2 V2 L2
  go_wp2_with fail
  generalize (w3.alloc (.cells #[.int .i64 v, .int .i64 g, .int .i64 (kk : Int), .int .i64 d, .int .i64 l, .string z] 30)) = W3 at *
  generalize w3.heap.size = b3 at *
  clear v0 v1 v2 v3
  refine (H4.out _ L3.out).mono ?_
  rintro e w4 ⟨rfl, hb⟩
  have B4 := hide (B3.out.trans (hb.mono B3.out.size))
  have P4 := hide (P3.out.below hb P3.out.lt)
  have X4 := hide (X3.out.below hb X3.out.lt)
  obtain ⟨v0, v1, v2, v3⟩ := (V3.out.below hb V3.out.lt).cells
  obtain ⟨⟨p0, p1, p2, p3, p4, p5⟩, -⟩ := P4.out.cells
  simp only at v0 v1 v2 v3 p0 p1 p2 p3 p4 p5
  have l0 := (B4.out.cell (p := ⟨bl, o + kk * 2, none⟩) hbl).trans HC.out.1
  have l1 := (B4.out.cell (p := ⟨bl, o + kk * 2 + 1, none⟩) hbl).trans HC.out.2
  clear hb B3 P3 V3 L3 X3
  go_upto_region 8 with fail
  go_quiet (fail)
  go_upto_region 9 with fail
  clear v0 v1 v2 v3 p0 p1 p2 p3 p4 p5
  have P5 : Hid (HBx w.heap.size 25 ⟨v, g, (kk : Int), d, l, z⟩ (w4.drewN nq)) := P4.out
  have X5 : Hid (HBx b3 30 ⟨v, g, (kk : Int), d, l, z⟩ (w4.drewN nq)) := X4.out
  have B5 := hide (draws_below B4.out nq)
  clear B4 P4 X4
  generalize w4.drewN nq = W5 at *
  have e0 := cell_regrown X5.out.c0
  have e1 := cell_regrown X5.out.c1
  have e2 := cell_regrown X5.out.c2
  have e3 := cell_regrown X5.out.c3
  have e4 := cell_regrown X5.out.c4
  have e5 := cell_regrown X5.out.c5
  have f0' := cell_regrown P5.out.c0
  have f1' := cell_regrown P5.out.c1
  have f2' := cell_regrown P5.out.c2
  have f3' := cell_regrown P5.out.c3
  have f4' := cell_regrown P5.out.c4
  have f5' := cell_regrown P5.out.c5
  simp only at e0 e1 e2 e3 e4 e5 f0' f1' f2' f3' f4' f5'
  have r1 := HO.out W5
  have r2 := live_q W5
  refine wp_region_quiet_below (by kernel_rfl) (by kernel_rfl) ?_
  repeat (quiet_step (first | (with_reducible exact r1 _ _) | (with_reducible exact r2 _ _)))
  refine wpQuiet_nil ?_
  intro _ hw'
  obtain ⟨pq, hw''⟩ := hw'
  subst hw''
  have HQ := hide (B5.out.trans ((below_regrown W5 pq.d pq.os).mono B5.out.size))
  generalize Go.Sort.grow (redrawn W5 pq.d) pq.os = WQ at *
  go_wp2_with fail
  try go_ret
  exact ⟨rfl, HQ.out⟩
end Go.Proofs.Ytjcabdgikkmlpaa
