/- A part of what needle.Read answers. A part of what needle.Read answers. -/
import Derived.Test.YtomcdajoeakhdaaDoorNeRd
namespace Go.Proofs.YtomcdajoeakhdaaDoor
open Go.RowKit
set_option linter.unusedVariables false
set_option maxRecDepth 100000 in
set_option maxHeartbeats 8000000 in
theorem nread_C3 (s : ByteArray) (w : World) (hKw : KAt w) (hs : s.size ≤ 100000) (K S1 V B : ByteArray) (hK0 : tT s = K) (hS0 : tR s = S1) (hV0 : tT S1 = V) (hB0 : tR S1 = B) (ht0 : tE s = 0) (ht : tE S1 = 0) (hkk : K.size ≤ 100000) (hvv : V.size ≤ 100000) (h32 : 32 ≤ B.size) (hd : B.extract 0 32 = dg V) (E : Int) (hE0 : ckE ⟨K, V⟩ = E) (hck : E ≠ 0) : Calls Tryd.prog 15 #[.string s] w fun r w' => r = .returned (.tuple #[.agg (ncs Nd.zero), .string ByteArray.empty, .int .i64 E]) ∧ Below w.heap.size w w' := by
  replace hs : s.size ≤ 1000000 := by omega
  have hs2 : S1.size ≤ 1000000 := by have := tR_size s; rw [hS0] at this; omega
  have x1 := hide (rtext_ok (s := s))
  have x2 := hide (rtext_ok (s := S1))
  have HZ := hide (nbx_new 28 Nd.zero w)
  have HA : Hid (Below w.heap.size w (w.alloc (.cells (ncs Nd.zero) 28))) := (Below.refl _ _).alloc (Nat.le_refl _) _
  rw [ht0, hK0, hS0] at x1
  rw [ht, hV0, hB0] at x2
  clear hK0 hS0 hV0 hB0 ht0 ht
  have hq := str_eq hd
  clear hd
  have HCK := hide (fun w => ncheck_any ⟨K, V⟩ w hkk hvv)
  rw [hE0] at HCK
  clear hE0
  have q1 : (E == 0) = false := by simpa using hck
  have q2 : (E != 0) = true := by simpa using hck
  clear hck
  have d32 : decide ((B.size : Int) < 32) = false := by simp; omega
  simp only [ncs] at HCK
  simp only [ncs, Nd.zero] at HA ⊢
  go_enter Tryd.func15, Tryd.ntmps15
  go_wp2_with fail
  refine (read_any s _).mono ?_
  rintro e w1 ⟨b, rfl, hb, hsz, hrd, hbl⟩
  have HB1 := hide (HA.out.trans (hbl.mono HA.out.size))
  have HZ1 := hide (HZ.out.below hbl HZ.out.lt)
  have HNE : Hid (w.heap.size ≠ b) := by show _ ≠ _; rw [hb, World.size_alloc]; omega
  have HLB : Hid (w.heap.size ≤ b) := by show _ ≤ _; rw [hb, World.size_alloc]; omega
  have R1 := hide hrd
  clear hb hsz hrd hbl HA HZ
  go_wp2_with fail
  refine (x1.out b w1 R1.out hs).mono ?_
  rintro e w2 ⟨rfl, hr2, hb2⟩
  have R2 := hide hr2
  have HB2 := hide (HB1.out.trans (hb2.below HLB.out))
  have HZ2 := hide (HZ1.out.but hb2 HNE.out)
  clear hr2 hb2 HB1 HZ1 R1
  go_wp2_with fail
  refine (x2.out b w2 R2.out hs2).mono ?_
  rintro e w3 ⟨rfl, hr2, hb2⟩
  have R3 := hide hr2
  have HB3 := hide (HB2.out.trans (hb2.below HLB.out))
  have HZ3 := hide (HZ2.out.but hb2 HNE.out)
  clear hr2 hb2 HB2 HZ2 R2
  have hal : Below w3.heap.size w3 (w3.alloc (.cells #[.string K, .string V] 28)) := (Below.refl _ _).alloc (Nat.le_refl _) _
  have HB4 := hide (HB3.out.trans (hal.mono HB3.out.size))
  have HZ4 := hide (HZ3.out.below hal HZ3.out.lt)
  have R4 := hide (R3.out.below hal R3.out.lt)
  have N4 : Hid (NBx w3.heap.size 28 ⟨K, V⟩ (w3.alloc (.cells #[.string K, .string V] 28))) := nbx_new 28 ⟨K, V⟩ w3
  have HN4 : Hid (w3.heap.size ≠ b) := by show _ ≠ _; have := R3.out.lt; omega
  have HN5 : Hid (w3.heap.size ≠ w.heap.size) := by show _ ≠ _; have := HZ3.out.lt; omega
  clear hal HB3 HZ3 R3
  go_wp2_with fail
  generalize w3.alloc (.cells #[.string K, .string V] 28) = W4 at *
  generalize w3.heap.size = b4 at *
  refine (rrest_ok b _ W4 R4.out).mono ?_
  rintro e w5 ⟨rfl, hr2, hb2⟩
  have R5 := hide hr2
  have HB5 := hide (HB4.out.trans (hb2.below HLB.out))
  have HZ5 := hide (HZ4.out.but hb2 HNE.out)
  have N5 := hide (N4.out.but hb2 HN4.out)
  clear hr2 hb2 HB4 HZ4 N4 R4
  go_wp2_with fail
  refine (rend_done b w5 R5.out).mono ?_
  rintro e _ ⟨rfl, rfl⟩
  have hv : V.size ≤ 100000 := hvv
  have HK5 := hide (hKw.below HB5.out)
  have e1 := cell_regrown N5.out.c1
  have r1 := psum_q V w5 HK5.out hv
  simp only at e1
  have hBi : (32 : Int) ≤ (B.size : Int) := by omega
  generalize dg V = G at *
  go_upto_region 9 with fail
  refine wp_region_quiet_below (by kernel_rfl) (by kernel_rfl) ?_
  repeat (quiet_step (first | (with_reducible exact r1 _ _)))
  refine wpQuiet_nil ?_
  intro _ hw'
  obtain ⟨pq, hw''⟩ := hw'
  subst hw''
  have HQ := hide (HB5.out.trans ((below_regrown w5 pq.d pq.os).mono HB5.out.size))
  have HZ6 := hide (HZ5.out.below (below_regrown w5 pq.d pq.os) HZ5.out.lt)
  have N6 := hide (N5.out.below (below_regrown w5 pq.d pq.os) N5.out.lt)
  clear e1 r1 HK5
  generalize Go.Sort.grow (redrawn w5 pq.d) pq.os = WQ at *
  clear HB5 HZ5 N5 R5
  obtain ⟨⟨d0, d1⟩, -⟩ := N6.out.cells
  simp only at d0 d1
  go_wp2_with fail
  refine (HCK.out _).mono ?_
  rintro e w7 ⟨rfl, hb⟩
  have HB7 := hide (HQ.out.trans (hb.mono HQ.out.size))
  have HZ7 := hide (HZ6.out.below hb HZ6.out.lt)
  clear hb HQ HZ6 N6 d0 d1
  obtain ⟨⟨c0, c1⟩, f0, f1⟩ := HZ7.out.cells
  go_wp2_with fail
  refine bodyPost_ret (res_nd rfl _ _ w.heap.size Nd.zero rfl (HZ7.out.two Nd.zero)) rfl ⟨rfl, below_two HB7.out (Nat.le_refl _) Nd.zero⟩
end Go.Proofs.YtomcdajoeakhdaaDoor
namespace Go.Proofs.YtomcdajoeakhdaaDoor
open Go.RowKit
set_option linter.unusedVariables false
set_option maxRecDepth 100000 in
set_option maxHeartbeats 8000000 in
theorem nread_C4 (s : ByteArray) (w : World) (hKw : KAt w) (hs : s.size ≤ 100000) (K S1 V B : ByteArray) (hK0 : tT s = K) (hS0 : tR s = S1) (hV0 : tT S1 = V) (hB0 : tR S1 = B) (ht0 : tE s = 0) (ht : tE S1 = 0) (hkk : K.size ≤ 100000) (hvv : V.size ≤ 100000) (h32 : 32 ≤ B.size) (hd : B.extract 0 32 = dg V) (hck : ckE ⟨K, V⟩ = 0) : Calls Tryd.prog 15 #[.string s] w fun r w' => r = .returned (.tuple #[.agg (ncs ⟨K, V⟩), .string (B.extract 32 B.size), .int .i64 0]) ∧ Below w.heap.size w w' := by
  replace hs : s.size ≤ 1000000 := by omega
  have hs2 : S1.size ≤ 1000000 := by have := tR_size s; rw [hS0] at this; omega
  have x1 := hide (rtext_ok (s := s))
  have x2 := hide (rtext_ok (s := S1))
  have HZ := hide (nbx_new 28 Nd.zero w)
  have HA : Hid (Below w.heap.size w (w.alloc (.cells (ncs Nd.zero) 28))) := (Below.refl _ _).alloc (Nat.le_refl _) _
  rw [ht0, hK0, hS0] at x1
  rw [ht, hV0, hB0] at x2
  clear hK0 hS0 hV0 hB0 ht0 ht
  have hq := str_eq hd
  clear hd
  have HCK := hide (fun w => ncheck_any ⟨K, V⟩ w hkk hvv)
  rw [hck] at HCK
  clear hck
  have d32 : decide ((B.size : Int) < 32) = false := by simp; omega
  simp only [ncs] at HCK
  simp only [ncs, Nd.zero] at HA ⊢
  go_enter Tryd.func15, Tryd.ntmps15
  go_wp2_with fail
  refine (read_any s _).mono ?_
  rintro e w1 ⟨b, rfl, hb, hsz, hrd, hbl⟩
  have HB1 := hide (HA.out.trans (hbl.mono HA.out.size))
  have HZ1 := hide (HZ.out.below hbl HZ.out.lt)
  have HNE : Hid (w.heap.size ≠ b) := by show _ ≠ _; rw [hb, World.size_alloc]; omega
  have HLB : Hid (w.heap.size ≤ b) := by show _ ≤ _; rw [hb, World.size_alloc]; omega
  have R1 := hide hrd
  clear hb hsz hrd hbl HA HZ
  go_wp2_with fail
  refine (x1.out b w1 R1.out hs).mono ?_
  rintro e w2 ⟨rfl, hr2, hb2⟩
  have R2 := hide hr2
  have HB2 := hide (HB1.out.trans (hb2.below HLB.out))
  have HZ2 := hide (HZ1.out.but hb2 HNE.out)
  clear hr2 hb2 HB1 HZ1 R1
  go_wp2_with fail
  refine (x2.out b w2 R2.out hs2).mono ?_
  rintro e w3 ⟨rfl, hr2, hb2⟩
  have R3 := hide hr2
  have HB3 := hide (HB2.out.trans (hb2.below HLB.out))
  have HZ3 := hide (HZ2.out.but hb2 HNE.out)
  clear hr2 hb2 HB2 HZ2 R2
  have hal : Below w3.heap.size w3 (w3.alloc (.cells #[.string K, .string V] 28)) := (Below.refl _ _).alloc (Nat.le_refl _) _
  have HB4 := hide (HB3.out.trans (hal.mono HB3.out.size))
  have HZ4 := hide (HZ3.out.below hal HZ3.out.lt)
  have R4 := hide (R3.out.below hal R3.out.lt)
  have N4 : Hid (NBx w3.heap.size 28 ⟨K, V⟩ (w3.alloc (.cells #[.string K, .string V] 28))) := nbx_new 28 ⟨K, V⟩ w3
  have HN4 : Hid (w3.heap.size ≠ b) := by show _ ≠ _; have := R3.out.lt; omega
  have HN5 : Hid (w3.heap.size ≠ w.heap.size) := by show _ ≠ _; have := HZ3.out.lt; omega
  clear hal HB3 HZ3 R3
  go_wp2_with fail
  generalize w3.alloc (.cells #[.string K, .string V] 28) = W4 at *
  generalize w3.heap.size = b4 at *
  refine (rrest_ok b _ W4 R4.out).mono ?_
  rintro e w5 ⟨rfl, hr2, hb2⟩
  have R5 := hide hr2
  have HB5 := hide (HB4.out.trans (hb2.below HLB.out))
  have HZ5 := hide (HZ4.out.but hb2 HNE.out)
  have N5 := hide (N4.out.but hb2 HN4.out)
  clear hr2 hb2 HB4 HZ4 N4 R4
  go_wp2_with fail
  refine (rend_done b w5 R5.out).mono ?_
  rintro e _ ⟨rfl, rfl⟩
  have hv : V.size ≤ 100000 := hvv
  have HK5 := hide (hKw.below HB5.out)
  have e1 := cell_regrown N5.out.c1
  have r1 := psum_q V w5 HK5.out hv
  simp only at e1
  have hBi : (32 : Int) ≤ (B.size : Int) := by omega
  generalize dg V = G at *
  go_upto_region 9 with fail
  refine wp_region_quiet_below (by kernel_rfl) (by kernel_rfl) ?_
  repeat (quiet_step (first | (with_reducible exact r1 _ _)))
  refine wpQuiet_nil ?_
  intro _ hw'
  obtain ⟨pq, hw''⟩ := hw'
  subst hw''
  have HQ := hide (HB5.out.trans ((below_regrown w5 pq.d pq.os).mono HB5.out.size))
  have HZ6 := hide (HZ5.out.below (below_regrown w5 pq.d pq.os) HZ5.out.lt)
  have N6 := hide (N5.out.below (below_regrown w5 pq.d pq.os) N5.out.lt)
  clear e1 r1 HK5
  generalize Go.Sort.grow (redrawn w5 pq.d) pq.os = WQ at *
  clear HB5 HZ5 N5 R5
  obtain ⟨⟨d0, d1⟩, -⟩ := N6.out.cells
  simp only at d0 d1
  go_wp2_with fail
  refine (HCK.out _).mono ?_
  rintro e w7 ⟨rfl, hb⟩
  have HB7 := hide (HQ.out.trans (hb.mono HQ.out.size))
  have HZ7 := hide (HZ6.out.below hb HZ6.out.lt)
  have N7 := hide (N6.out.below hb N6.out.lt)
  clear hb HQ HZ6 N6 d0 d1
  go_upto_region 14 with fail
  refine wp_region_noPanic ?_
  refine wp_region_held_drew (S := NBx b4 28 ⟨K, V⟩) (by kernel_rfl) N7.out (fun hHeld => ?_)
  refine wpAnyH_take (i := 0) (v := ?v1) rfl (by kernel_rfl) (by kernel_rfl) (by kernel_rfl) (fun _ _ _ h => h) (Or.inl ⟨by rfl, ?hy1⟩) hHeld ?rest1
  case hy1 => (intro w' hSw; have s0 := NBx.c0 hSw; have s1 := NBx.c1 hSw; go_simp; try with_reducible rfl)
  try simp [Act.put]
  refine wpAnyH_take (i := 1) (v := ?v2) rfl (by kernel_rfl) (by kernel_rfl) (by kernel_rfl) (fun _ _ _ h => h) (Or.inl ⟨by rfl, ?hy2⟩) hHeld ?rest2
  case hy2 => (intro w' hSw; have s0 := NBx.c0 hSw; have s1 := NBx.c1 hSw; go_simp; try with_reducible rfl)
  try simp [Act.put]
  refine wpAnyH_take (i := 2) (v := ?v3) rfl (by kernel_rfl) (by kernel_rfl) (by kernel_rfl) (fun _ _ _ h => h) (Or.inl ⟨by rfl, ?hy3⟩) hHeld ?rest3
  case hy3 => (intro w' hSw; have s0 := NBx.c0 hSw; have s1 := NBx.c1 hSw; go_simp; try with_reducible rfl)
  try simp [Act.put]
  refine wpAnyH_ready (rs := [3]) (by kernel_rfl) (by simp) ?_
  refine AllReadyH.cons rfl (fun K0 hK => ?_) AllReadyH.nil
  obtain ⟨⟨c0, c1⟩, f0, f1⟩ := HZ7.out.cells
  go_simp
  have HZ8 : Hid (NBx w.heap.size 28 ⟨K, V⟩ (two w7 w.heap.size ⟨K, V⟩).drew) := HZ7.out.two ⟨K, V⟩
  have HB8 := hide (below_two HB7.out (Nat.le_refl _) ⟨K, V⟩).drew
  have N8 : Hid (NBx b4 28 ⟨K, V⟩ (two w7 w.heap.size ⟨K, V⟩).drew) := N7.out.two_away HN5.out ⟨K, V⟩
  refine hK.out _ _ N8.out (fun hHeld => ?_)
  clear hK K0 c0 c1 f0 f1
  try simp [Act.put]
  refine wpAnyH_take (i := 4) (v := ?v11) rfl (by kernel_rfl) (by kernel_rfl) (by kernel_rfl) (fun _ _ _ h => h) (Or.inl ⟨by rfl, ?hy11⟩) hHeld ?rest11
  case hy11 => (intro w' hSw; have s0 := NBx.c0 hSw; have s1 := NBx.c1 hSw; go_simp; try with_reducible rfl)
  try simp [Act.put]
  refine wpAnyH_take (i := 5) (v := ?v12) rfl (by kernel_rfl) (by kernel_rfl) (by kernel_rfl) (fun _ _ _ h => h) (Or.inl ⟨by rfl, ?hy12⟩) hHeld ?rest12
  case hy12 => (intro w' hSw; have s0 := NBx.c0 hSw; have s1 := NBx.c1 hSw; go_simp; try with_reducible rfl)
  try simp [Act.put]
  refine wpAnyH_done (by kernel_rfl) (NoPanic.normal ?_) _
  go_wp2_with fail
  refine bodyPost_ret (res_nd rfl _ _ w.heap.size ⟨K, V⟩ rfl HZ8.out) rfl ⟨rfl, HB8.out⟩
end Go.Proofs.YtomcdajoeakhdaaDoor
