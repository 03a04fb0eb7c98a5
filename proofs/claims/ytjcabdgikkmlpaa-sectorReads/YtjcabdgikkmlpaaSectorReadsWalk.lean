/- The law SectorReads returns true at every input, and writes nothing that was there. -/
import Derived.Test.YtjcabdgikkmlpaaSeQuiet
namespace Go.Proofs.Ytjcabdgikkmlpaa
open Go.RowKit
set_option linter.unusedVariables false
set_option maxRecDepth 100000 in
set_option maxHeartbeats 16000000 in
theorem walkSectorReads (s : ByteArray) (vv : Value) (k : Int) (w : World) (w0 : s.data.toList.length ≤ reachBytes) (cv : CameV 36 4 w vv) (w2 : (Lit.int .i64 k).wf = true) : Calls Try.prog 4 #[.string s, vv, .int .i64 k] w fun e w' => e = .returned (.bool true) ∧ Below w.heap.size w w' := by
  obtain ⟨x, rfl, hls, h63, hL⟩ := vol_open cv
  clear cv w0 w2
  have hal : Below w.heap.size w (w.alloc (.cells (vcs x) 36)) := (Below.refl _ _).alloc (Nat.le_refl _) _
  have HA := hide hal
  have HLo := hide (hL.below hal)
  clear hal hL
  by_cases hbig : 300 < s.size
  · obtain ⟨id, gen, len, a, n, c, ls⟩ := x
    simp only [vcs] at HA ⊢
    go_enter Try.func4, Try.ntmps4
    go_wp2_with fail
    refine (slive_any _).mono ?_
    rintro e wLL ⟨rfl, hb⟩
    have BLL := hide (HA.out.trans (hb.mono HA.out.size))
    clear hb
    go_wp2_with fail
    try go_ret
    exact ⟨rfl, BLL.out⟩
  by_cases hbig2 : 20 < x.n
  · obtain ⟨id, gen, len, a, n, c, ls⟩ := x
    simp only [vcs] at HA hbig2 ⊢
    go_enter Try.func4, Try.ntmps4
    go_wp2_with fail
    refine (slive_any _).mono ?_
    rintro e wLL ⟨rfl, hb⟩
    have BLL := hide (HA.out.trans (hb.mono HA.out.size))
    clear hb
    go_wp2_with fail
    try go_ret
    exact ⟨rfl, BLL.out⟩
  have hs : s.size ≤ 100000 := by omega
  have H1 := hide (fun w => sread_any s w hs)
  have H2 := hide (fun w => rread_any s w hs)
  have H3 := hide (fun w hL => mine_any s x k w hs hls hL)
  have H4 := hide (fun w hL => rmine_any s x k w hs hls hL)
  have HV := hide (vbx_new x w)
  generalize mE s x k = ME at *
  generalize mT s x k = MT at *
  generalize rdE s = E at *
  generalize rdH s = H at *
  have HT := hide (told_q H)
  obtain ⟨v, g, i, d, l, z⟩ := H
  obtain ⟨id, gen, len, a, n, c, ls⟩ := x
  simp only [hcs, vcs] at H1 H2 H3 H4 HT HA HLo hbig2 HV ⊢
  go_enter Try.func4, Try.ntmps4
  go_wp2_with fail
  refine (H1.out _).mono ?_
  rintro e w2 ⟨rfl, hb⟩
  have hal : Below w2.heap.size w2 (w2.alloc (.cells #[.int .i64 v, .int .i64 g, .int .i64 i, .int .i64 d, .int .i64 l, .string z] 30)) := (Below.refl _ _).alloc (Nat.le_refl _) _
  have hb2 := hb.trans (hal.mono hb.size)
  have B2 := hide (HA.out.trans (hb2.mono HA.out.size))
  have L2 := hide (HLo.out.below hb2)
  have V2 := hide (HV.out.below hb2 HV.out.lt)
  have X2 := hide (hbx_new 30 ⟨v, g, i, d, l, z⟩ w2)
  simp only [hcs] at X2
  clear hb hal hb2 HA HLo HV
  go_wp2_with fail
  generalize w2.alloc (.cells #[.int .i64 v, .int .i64 g, .int .i64 i, .int .i64 d, .int .i64 l, .string z] 30) = W2 at *
  generalize w2.heap.size = b2 at *
  refine (H2.out _).mono ?_
  rintro e w3 ⟨rfl, hb⟩
  have hal : Below w3.heap.size w3 (w3.alloc (.cells #[.int .i64 v, .int .i64 g, .int .i64 i, .int .i64 d, .int .i64 l, .string z] 25)) := (Below.refl _ _).alloc (Nat.le_refl _) _
  have hb3 := hb.trans (hal.mono hb.size)
  have B3 := hide (B2.out.trans (hb3.mono B2.out.size))
  have L3 := hide (L2.out.below hb3)
  have V3 := hide (V2.out.below hb3 V2.out.lt)
  have X3 := hide (X2.out.below hb3 X2.out.lt)
  have Y3 := hide (hbx_new 25 ⟨v, g, i, d, l, z⟩ w3)
  simp only [hcs] at Y3
  obtain ⟨v0, v1, v2, v3⟩ := V3.out.cells
  simp only at v0 v1 v2 v3
  clear hb hal hb3 B2 X2 L2 V2
  go_wp2_with fail
  generalize w3.alloc (.cells #[.int .i64 v, .int .i64 g, .int .i64 i, .int .i64 d, .int .i64 l, .string z] 25) = W3 at *
  generalize w3.heap.size = b3 at *
  refine (H3.out _ L3.out).mono ?_
  rintro e w4 ⟨rfl, hb⟩
  have B4 := hide (B3.out.trans (hb.mono B3.out.size))
  have L4 := hide (L3.out.below hb)
  have V4 := hide (V3.out.below hb V3.out.lt)
  have X4 := hide (X3.out.below hb X3.out.lt)
  have Y4 := hide (Y3.out.below hb Y3.out.lt)
  clear v0 v1 v2 v3 hb B3 L3 V3 X3 Y3
  obtain ⟨v0, v1, v2, v3⟩ := V4.out.cells
  simp only at v0 v1 v2 v3
  go_wp2_with fail
  refine (H4.out _ L4.out).mono ?_
  rintro e W5 ⟨rfl, hb⟩
  have B5 := hide (B4.out.trans (hb.mono B4.out.size))
  have X5 := hide (X4.out.below hb X4.out.lt)
  have Y5 := hide (Y4.out.below hb Y4.out.lt)
  clear v0 v1 v2 v3 hb B4 L4 V4 X4 Y4
  go_upto_region 7 with fail
  have e0 := cell_regrown X5.out.c0
  have e1 := cell_regrown X5.out.c1
  have e2 := cell_regrown X5.out.c2
  have e3 := cell_regrown X5.out.c3
  have e4 := cell_regrown X5.out.c4
  have e5 := cell_regrown X5.out.c5
  have f0 := cell_regrown Y5.out.c0
  have f1 := cell_regrown Y5.out.c1
  have f2 := cell_regrown Y5.out.c2
  have f3 := cell_regrown Y5.out.c3
  have f4 := cell_regrown Y5.out.c4
  have f5' := cell_regrown Y5.out.c5
  simp only at e0 e1 e2 e3 e4 e5 f0 f1 f2 f3 f4 f5'
  have r1 := HT.out W5
  have r2 := live_q W5
  refine wp_region_quiet_below (by kernel_rfl) (by kernel_rfl) ?_
  repeat (quiet_step (first | (with_reducible exact r1 _ _) | (with_reducible exact r2 _ _)))
  refine wpQuiet_nil ?_
  intro _ hw'
  obtain ⟨pq, hw''⟩ := hw'
  subst hw''
  have HQ := hide (B5.out.trans ((below_regrown W5 pq.d pq.os).mono B5.out.size))
  generalize Go.Sort.grow (redrawn W5 pq.d) pq.os = WQ at *
  go_wp2_with fail
  try go_ret
  exact ⟨rfl, HQ.out⟩
end Go.Proofs.Ytjcabdgikkmlpaa
