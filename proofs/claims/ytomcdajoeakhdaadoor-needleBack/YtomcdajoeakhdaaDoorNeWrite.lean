/- What needle.Write answers; the reference's bytes and Write; a needle handed from one package to the other. -/
import Derived.Test.YtomcdajoeakhdaaDoorNeCheck
import Derived.Handy
namespace Go.Proofs.YtomcdajoeakhdaaDoor
open Go.RowKit
set_option linter.unusedVariables false
theorem nb_assoc (n : Nd) : textS n.k ++ textS n.v ++ dg n.v = nbS n := by unfold nbS; rw [app_assoc]
set_option maxRecDepth 100000 in
set_option maxHeartbeats 8000000 in
theorem nwrite_bad (n : Nd) (w : World) (hk : n.k.size ≤ 100000) (hv : n.v.size ≤ 100000) (h0 : ckE n ≠ 0) : Calls Tryd.prog 10 #[.agg (ncs n)] w fun r w' => r = .returned (.tuple #[.string (nwS n), .int .i64 (ckE n)]) ∧ Below w.heap.size w w' := by
  rw [nwS_bad h0]
  have HB : Hid (Below w.heap.size w (w.alloc (.cells (ncs n) 28))) := (Below.refl _ _).alloc (Nat.le_refl _) _
  have H1 := hide (ncheck_any n (w.alloc (.cells (ncs n) 28)) hk hv)
  have q1 : (ckE n == 0) = false := by simpa using h0
  have q2 : (ckE n != 0) = true := by simpa using h0
  clear h0
  generalize ckE n = E at *
  obtain ⟨k, v⟩ := n
  simp only [ncs] at HB H1 ⊢
  go_enter Tryd.func10, Tryd.ntmps10
  go_wp2_with fail
  refine H1.out.mono ?_
  rintro e w1 ⟨rfl, hb⟩
  have HB1 := hide (HB.out.trans (hb.mono HB.out.size))
  clear hb
  go_wp2_with fail
  try go_ret2
  exact ⟨rfl, HB1.out⟩
set_option maxRecDepth 100000 in
set_option maxHeartbeats 8000000 in
theorem rwrite_bad (n : Nd) (w : World) (hk : n.k.size ≤ 100000) (hv : n.v.size ≤ 100000) (h0 : ckE n ≠ 0) : Calls Tryd.prog 12 #[.agg (ncs n)] w fun r w' => r = .returned (.tuple #[.string (nwS n), .int .i64 (ckE n)]) ∧ Below w.heap.size w w' := by
  rw [nwS_bad h0]
  have HB : Hid (Below w.heap.size w (w.alloc (.cells (ncs n) 23))) := (Below.refl _ _).alloc (Nat.le_refl _) _
  have H1 := hide (rcheck_any n (w.alloc (.cells (ncs n) 23)) hk hv)
  have q1 : (ckE n == 0) = false := by simpa using h0
  have q2 : (ckE n != 0) = true := by simpa using h0
  clear h0
  generalize ckE n = E at *
  obtain ⟨k, v⟩ := n
  simp only [ncs] at HB H1 ⊢
  go_enter Tryd.func12, Tryd.ntmps12
  go_wp2_with fail
  refine H1.out.mono ?_
  rintro e w1 ⟨rfl, hb⟩
  have HB1 := hide (HB.out.trans (hb.mono HB.out.size))
  clear hb
  go_wp2_with fail
  try go_ret2
  exact ⟨rfl, HB1.out⟩
set_option maxRecDepth 100000 in
set_option maxHeartbeats 8000000 in
theorem nwrite_ok (n : Nd) (w : World) (hK : KAt w) (hk : n.k.size ≤ 100000) (hv : n.v.size ≤ 100000) (h0 : ckE n = 0) : Calls Tryd.prog 10 #[.agg (ncs n)] w fun r w' => r = .returned (.tuple #[.string (nwS n), .int .i64 (ckE n)]) ∧ Below w.heap.size w w' := by
  have HB : Hid (Below w.heap.size w (w.alloc (.cells (ncs n) 28))) := (Below.refl _ _).alloc (Nat.le_refl _) _
  have HN := hide (nbx_new 28 n w)
  have H1 := hide (ncheck_any n (w.alloc (.cells (ncs n) 28)) hk hv)
  have HC := hide (nb_assoc n)
  have z1 := textS_le hk (by omega)
  have z2 := textS_le hv (by omega)
  have z3 := dg_size n.v
  rw [nwS_ok h0]
  rw [h0] at H1 ⊢
  clear h0
  have HKA := hide (hK.below HB.out)
  clear hK
  obtain ⟨k, v⟩ := n
  simp only [ncs] at HB H1 HC z1 z2 z3 HKA hk hv ⊢
  go_enter Tryd.func10, Tryd.ntmps10
  go_wp2_with fail
  refine H1.out.mono ?_
  rintro e w1 ⟨rfl, hb⟩
  have HB1 := hide (HB.out.trans (hb.mono HB.out.size))
  have HN1 := hide (HN.out.below hb HN.out.lt)
  have HK1 := hide (HKA.out.below hb)
  have e0 := cell_regrown HN1.out.c0
  have e1 := cell_regrown HN1.out.c1
  simp only at e0 e1
  have r0 := ptext_q k w1 (by omega)
  have r1 := ptext_q v w1 (by omega)
  have r2 := psum_q v w1 HK1.out (by omega)
  have y1 : ¬ 9223372036854775807 < (textS k).size + (textS v).size := by omega
  have y2 : ¬ 9223372036854775807 < (textS k).size + (textS v).size + (dg v).size := by omega
  rw [z3] at y2
  generalize textS k = A at *
  generalize textS v = B at *
  generalize dg v = C at *
  clear hb HB H1 HN HKA
  go_upto_region 4 with fail
  refine wp_region_quiet_below (by kernel_rfl) (by kernel_rfl) ?_
  repeat (quiet_step (first | (with_reducible exact r0 _ _) | (with_reducible exact r1 _ _) | (with_reducible exact r2 _ _)))
  refine wpQuiet_nil ?_
  intro _ hw'
  obtain ⟨pq, hw''⟩ := hw'
  subst hw''
  have HQ := hide (HB1.out.trans ((below_regrown w1 pq.d pq.os).mono HB1.out.size))
  generalize Go.Sort.grow (redrawn w1 pq.d) pq.os = WQ at *
  rw [HC.out]
  clear e0 e1 r0 r1 r2
  go_wp2_with fail
  try go_ret2
  exact ⟨rfl, HQ.out⟩
theorem nwrite_any (n : Nd) (w : World) (hK : KAt w) (hk : n.k.size ≤ 100000) (hv : n.v.size ≤ 100000) : Calls Tryd.prog 10 #[.agg (ncs n)] w fun r w' => r = .returned (.tuple #[.string (nwS n), .int .i64 (ckE n)]) ∧ Below w.heap.size w w' := by
  by_cases h0 : ckE n = 0
  · exact nwrite_ok n w hK hk hv h0
  · exact nwrite_bad n w hk hv h0
set_option maxRecDepth 100000 in
set_option maxHeartbeats 8000000 in
theorem rbytes_any (n : Nd) (w : World) (hk : n.k.size ≤ 100000) (hv : n.v.size ≤ 100000) : Calls Tryd.prog 30 #[.agg (ncs n)] w fun r w' => r = .returned (.string (nbS n)) ∧ Below w.heap.size w w' := by
  have HB : Hid (Below w.heap.size w (w.alloc (.cells (ncs n) 23))) := (Below.refl _ _).alloc (Nat.le_refl _) _
  have HN := hide (nbx_new 23 n w)
  have HC := hide (nb_assoc n)
  have z1 := textS_le hk (by omega)
  have z2 := textS_le hv (by omega)
  have z3 := dg_size n.v
  have e0 := cell_regrown HN.out.c0
  have e1 := cell_regrown HN.out.c1
  obtain ⟨k, v⟩ := n
  simp only [ncs] at HB HN HC z1 z2 z3 hk hv e0 e1 ⊢
  go_enter Tryd.func30, Tryd.ntmps30
  go_upto_region 1 with fail
  generalize w.alloc (.cells #[.string k, .string v] 23) = W1 at *
  have r0 := text_q k W1 (by omega)
  have r1 := text_q v W1 (by omega)
  have r2 := sum_q v W1 (by omega)
  have y1 : ¬ 9223372036854775807 < (textS k).size + (textS v).size := by omega
  have y2 : ¬ 9223372036854775807 < (textS k).size + (textS v).size + (dg v).size := by omega
  rw [z3] at y2
  generalize textS k = A at *
  generalize textS v = B at *
  generalize dg v = C at *
  refine wp_region_quiet_below (by kernel_rfl) (by kernel_rfl) ?_
  repeat (quiet_step (first | (with_reducible exact r0 _ _) | (with_reducible exact r1 _ _) | (with_reducible exact r2 _ _)))
  refine wpQuiet_nil ?_
  intro _ hw'
  obtain ⟨pq, hw''⟩ := hw'
  subst hw''
  have HQ := hide (HB.out.trans ((below_regrown W1 pq.d pq.os).mono HB.out.size))
  generalize Go.Sort.grow (redrawn W1 pq.d) pq.os = WQ at *
  rw [HC.out]
  clear e0 e1 r0 r1 r2
  go_wp2_with fail
  try go_ret
  exact ⟨rfl, HQ.out⟩
set_option maxRecDepth 100000 in
set_option maxHeartbeats 8000000 in
theorem rwrite_ok (n : Nd) (w : World) (hk : n.k.size ≤ 100000) (hv : n.v.size ≤ 100000) (h0 : ckE n = 0) : Calls Tryd.prog 12 #[.agg (ncs n)] w fun r w' => r = .returned (.tuple #[.string (nwS n), .int .i64 (ckE n)]) ∧ Below w.heap.size w w' := by
  have HB : Hid (Below w.heap.size w (w.alloc (.cells (ncs n) 23))) := (Below.refl _ _).alloc (Nat.le_refl _) _
  have HN := hide (nbx_new 23 n w)
  have H1 := hide (rcheck_any n (w.alloc (.cells (ncs n) 23)) hk hv)
  have H2 := hide (fun w => rbytes_any n w hk hv)
  rw [nwS_ok h0]
  rw [h0] at H1 ⊢
  clear h0
  generalize nbS n = Z at *
  obtain ⟨k, v⟩ := n
  simp only [ncs] at HB H1 H2 ⊢
  go_enter Tryd.func12, Tryd.ntmps12
  go_wp2_with fail
  refine H1.out.mono ?_
  rintro e w1 ⟨rfl, hb⟩
  have HB1 := hide (HB.out.trans (hb.mono HB.out.size))
  have HN1 := hide (HN.out.below hb HN.out.lt)
  have c0 := HN1.out.c0
  have c1 := HN1.out.c1
  simp only at c0 c1
  clear hb HB HN H1
  go_wp2_with fail
  refine (H2.out _).mono ?_
  rintro e w2 ⟨rfl, hb⟩
  have HB2 := hide (HB1.out.trans (hb.mono HB1.out.size))
  clear hb
  go_wp2_with fail
  try go_ret2
  exact ⟨rfl, HB2.out⟩
theorem rwrite_any (n : Nd) (w : World) (hk : n.k.size ≤ 100000) (hv : n.v.size ≤ 100000) : Calls Tryd.prog 12 #[.agg (ncs n)] w fun r w' => r = .returned (.tuple #[.string (nwS n), .int .i64 (ckE n)]) ∧ Below w.heap.size w w' := by
  by_cases h0 : ckE n = 0
  · exact rwrite_ok n w hk hv h0
  · exact rwrite_bad n w hk hv h0
set_option maxRecDepth 100000 in
set_option maxHeartbeats 8000000 in
theorem nown_any (n : Nd) (w : World) : Calls Tryd.prog 11 #[.agg (ncs n)] w fun r w' => r = .returned (.agg (ncs n)) ∧ Below w.heap.size w w' := by
  have HB : Hid (Below w.heap.size w ((w.alloc (.cells (ncs n) 23)).alloc (.cells (ncs n) 28))) := (((Below.refl _ _).alloc (Nat.le_refl _) _).alloc (by rw [World.size_alloc]; omega) _)
  obtain ⟨k, v⟩ := n
  simp only [ncs] at HB ⊢
  go_enter Tryd.func11, Tryd.ntmps11
  go_wp2_with fail
  go_returns
  exact ⟨rfl, HB.out⟩
end Go.Proofs.YtomcdajoeakhdaaDoor
