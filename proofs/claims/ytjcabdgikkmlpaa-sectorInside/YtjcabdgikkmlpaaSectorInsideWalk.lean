/- The law SectorInside returns true at every input, and writes nothing that was there. -/
import Derived.Test.YtjcabdgikkmlpaaSeQuiet
namespace Go.Proofs.Ytjcabdgikkmlpaa
open Go.RowKit
set_option linter.unusedVariables false
theorem inside_e (s : ByteArray) : rdE (sealS s) = 0 ∨ rdE (sealS s) = 4 := by
  unfold rdE
  rw [opE_seal, if_pos rfl]
  split <;> simp
set_option maxRecDepth 100000 in
set_option maxHeartbeats 16000000 in
theorem walkSectorInside (s : ByteArray) (w : World) (w0 : s.data.toList.length ≤ reachBytes) : Calls Try.prog 5 #[.string s] w fun e w' => e = .returned (.bool true) ∧ Below w.heap.size w w' := by
  clear w0
  have HA : Hid (Below w.heap.size w w) := Below.refl _ _
  by_cases hbig : 200 < s.size
  · go_enter Try.func5, Try.ntmps5
    go_wp2_with fail
    refine (slive_any _).mono ?_
    rintro e wLL ⟨rfl, hb⟩
    have BLL := hide (HA.out.trans (hb.mono HA.out.size))
    clear hb
    go_wp2_with fail
    try go_ret
    exact ⟨rfl, BLL.out⟩
  have H1 := hide (fun w => refSeal_any s w (by omega))
  have hz : (sealS s).size ≤ 100000 := by rw [sealS_size]; omega
  have H2 := hide (fun w => sread_any (sealS s) w hz)
  have H3 := hide (fun w => rread_any (sealS s) w hz)
  have hE := inside_e s
  generalize sealS s = S at *
  generalize rdE S = E at *
  generalize rdH S = H at *
  have HT := hide (told_q H)
  obtain ⟨v, g, i, d, l, z⟩ := H
  simp only [hcs] at H2 H3 HT
  go_enter Try.func5, Try.ntmps5
  go_wp2_with fail
  refine (H1.out _).mono ?_
  rintro e w1 ⟨rfl, hb⟩
  have B1 := hide (HA.out.trans (hb.mono HA.out.size))
  clear hb
  go_wp2_with fail
  refine (H2.out _).mono ?_
  rintro e w2 ⟨rfl, hb⟩
  have hal : Below w2.heap.size w2 (w2.alloc (.cells #[.int .i64 v, .int .i64 g, .int .i64 i, .int .i64 d, .int .i64 l, .string z] 30)) := (Below.refl _ _).alloc (Nat.le_refl _) _
  have b2 := B1.out.trans (hb.mono B1.out.size)
  have B2 := hide (b2.trans (hal.mono b2.size))
  have X2 := hide (hbx_new 30 ⟨v, g, i, d, l, z⟩ w2)
  simp only [hcs] at X2
  clear hb hal b2 B1
  go_wp2_with fail
  generalize w2.alloc (.cells #[.int .i64 v, .int .i64 g, .int .i64 i, .int .i64 d, .int .i64 l, .string z] 30) = W2 at *
  generalize w2.heap.size = b2 at *
  refine (H3.out _).mono ?_
  rintro e w3 ⟨rfl, hb⟩
  have hal : Below w3.heap.size w3 (w3.alloc (.cells #[.int .i64 v, .int .i64 g, .int .i64 i, .int .i64 d, .int .i64 l, .string z] 25)) := (Below.refl _ _).alloc (Nat.le_refl _) _
  have hb3 := hb.trans (hal.mono hb.size)
  have B3 := hide (B2.out.trans (hb3.mono B2.out.size))
  have X3 := hide (X2.out.below hb3 X2.out.lt)
  have Y3 := hide (hbx_new 25 ⟨v, g, i, d, l, z⟩ w3)
  simp only [hcs] at Y3
  clear hb hal hb3 B2 X2
  go_upto_region 6 with fail
  generalize w3.alloc (.cells #[.int .i64 v, .int .i64 g, .int .i64 i, .int .i64 d, .int .i64 l, .string z] 25) = W3 at *
  generalize w3.heap.size = b3 at *
  have e0 := cell_regrown X3.out.c0
  have e1 := cell_regrown X3.out.c1
  have e2 := cell_regrown X3.out.c2
  have e3 := cell_regrown X3.out.c3
  have e4 := cell_regrown X3.out.c4
  have e5 := cell_regrown X3.out.c5
  have f0 := cell_regrown Y3.out.c0
  have f1 := cell_regrown Y3.out.c1
  have f2 := cell_regrown Y3.out.c2
  have f3 := cell_regrown Y3.out.c3
  have f4 := cell_regrown Y3.out.c4
  have f5' := cell_regrown Y3.out.c5
  simp only at e0 e1 e2 e3 e4 e5 f0 f1 f2 f3 f4 f5'
  have r1 := HT.out W3
  have r2 := live_q W3
  rcases hE with rfl | rfl
  · refine wp_region_quiet_below (by kernel_rfl) (by kernel_rfl) ?_
    repeat (quiet_step (first | (with_reducible exact r1 _ _) | (with_reducible exact r2 _ _)))
    refine wpQuiet_nil ?_
    intro _ hw'
    obtain ⟨pq, hw''⟩ := hw'
    subst hw''
    have HQ := hide (B3.out.trans ((below_regrown W3 pq.d pq.os).mono B3.out.size))
    generalize Go.Sort.grow (redrawn W3 pq.d) pq.os = WQ at *
    go_wp2_with fail
    try go_ret
    exact ⟨rfl, HQ.out⟩
  · refine wp_region_quiet_below (by kernel_rfl) (by kernel_rfl) ?_
    repeat (quiet_step (first | (with_reducible exact r1 _ _) | (with_reducible exact r2 _ _)))
    refine wpQuiet_nil ?_
    intro _ hw'
    obtain ⟨pq, hw''⟩ := hw'
    subst hw''
    have HQ := hide (B3.out.trans ((below_regrown W3 pq.d pq.os).mono B3.out.size))
    generalize Go.Sort.grow (redrawn W3 pq.d) pq.os = WQ at *
    go_wp2_with fail
    try go_ret
    exact ⟨rfl, HQ.out⟩
end Go.Proofs.Ytjcabdgikkmlpaa
