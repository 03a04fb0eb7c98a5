/- A part of what needle.Read answers. A part of what needle.Read answers. A part of what needle.Read answers. A part of what needle.Read answers. -/
import Derived.Test.YtomcdajoeakhdaaDoorNeRd
namespace Go.Proofs.YtomcdajoeakhdaaDoor
open Go.RowKit
set_option linter.unusedVariables false
set_option maxRecDepth 100000 in
set_option maxHeartbeats 8000000 in
theorem nread_A (s : ByteArray) (w : World) (hs : s.size ≤ 100000) (ht : tE s ≠ 0) : Calls Tryd.prog 15 #[.string s] w fun r w' => r = .returned (.tuple #[.agg (ncs Nd.zero), .string ByteArray.empty, .int .i64 ((tE s : Nat) : Int)]) ∧ Below w.heap.size w w' := by
  replace hs : s.size ≤ 1000000 := by omega
  have hs2 : (tR s).size ≤ 1000000 := by have := tR_size s; omega
  have x1 := hide (rtext_ok (s := s))
  have x2 := hide (rtext_ok (s := tR s))
  have HZ := hide (nbx_new 28 Nd.zero w)
  have HA : Hid (Below w.heap.size w (w.alloc (.cells (ncs Nd.zero) 28))) := (Below.refl _ _).alloc (Nat.le_refl _) _
  rw [tT_err ht, tR_err ht] at x1
  clear x2 hs2
  have q1 : (((tE s : Nat) : Int) == 0) = false := by simp; omega
  have q2 : (((tE s : Nat) : Int) != 0) = true := by simp; omega
  generalize tE s = E at *
  simp only [ncs, Nd.zero] at HA ⊢
  go_enter Tryd.func15, Tryd.ntmps15
  go_wp2_with fail
  refine (read_any s _).mono ?_
  rintro e w1 ⟨b, rfl, hb, hsz, hrd, hbl⟩
  have HB1 := hide (HA.out.trans (hbl.mono HA.out.size))
  have HZ1 := hide (HZ.out.below hbl HZ.out.lt)
  have HNE : Hid (w.heap.size ≠ b) := by show _ ≠ _; rw [hb, World.size_alloc]; omega
  have HLB : Hid (w.heap.size ≤ b) := by show _ ≤ _; rw [hb, World.size_alloc]; omega
  have R1 := hide hrd
  clear hb hsz hrd hbl HA HZ
  go_wp2_with fail
  refine (x1.out b w1 R1.out hs).mono ?_
  rintro e w2 ⟨rfl, hr2, hb2⟩
  have R2 := hide hr2
  have HB2 := hide (HB1.out.trans (hb2.below HLB.out))
  have HZ2 := hide (HZ1.out.but hb2 HNE.out)
  clear hr2 hb2 HB1 HZ1 R1
  go_wp2_with fail
  refine (rtext_err b _ _ w2 R2.out ht).mono ?_
  rintro e w3 ⟨rfl, rfl⟩
  have R3 := R2
  have HB3 := HB2
  have HZ3 := HZ2
  clear HB2 HZ2 R2
  have hal : Below w2.heap.size w2 (w2.alloc (.cells #[.string ByteArray.empty, .string ByteArray.empty] 28)) := (Below.refl _ _).alloc (Nat.le_refl _) _
  have HB4 := hide (HB3.out.trans (hal.mono HB3.out.size))
  have HZ4 := hide (HZ3.out.below hal HZ3.out.lt)
  have R4 := hide (R3.out.below hal R3.out.lt)
  have N4 : Hid (NBx w2.heap.size 28 ⟨ByteArray.empty, ByteArray.empty⟩ (w2.alloc (.cells #[.string ByteArray.empty, .string ByteArray.empty] 28))) := nbx_new 28 ⟨ByteArray.empty, ByteArray.empty⟩ w2
  have HN4 : Hid (w2.heap.size ≠ b) := by show _ ≠ _; have := R3.out.lt; omega
  have HN5 : Hid (w2.heap.size ≠ w.heap.size) := by show _ ≠ _; have := HZ3.out.lt; omega
  clear hal HB3 HZ3 R3
  go_wp2_with fail
  generalize w2.alloc (.cells #[.string ByteArray.empty, .string ByteArray.empty] 28) = W4 at *
  generalize w2.heap.size = b4 at *
  refine (rrest_err b _ _ W4 R4.out ht).mono ?_
  rintro e w5 ⟨rfl, rfl⟩
  go_wp2_with fail
  refine (rend_err b _ _ W4 R4.out ht).mono ?_
  rintro e w5 ⟨rfl, rfl⟩
  obtain ⟨⟨c0, c1⟩, f0, f1⟩ := HZ4.out.cells
  go_wp2_with fail
  refine bodyPost_ret (res_nd rfl _ _ w.heap.size Nd.zero rfl (HZ4.out.two Nd.zero)) rfl ⟨rfl, below_two HB4.out (Nat.le_refl _) Nd.zero⟩
end Go.Proofs.YtomcdajoeakhdaaDoor
namespace Go.Proofs.YtomcdajoeakhdaaDoor
open Go.RowKit
set_option linter.unusedVariables false
set_option maxRecDepth 100000 in
set_option maxHeartbeats 8000000 in
theorem nread_B (s : ByteArray) (w : World) (hs : s.size ≤ 100000) (ht0 : tE s = 0) (ht : tE (tR s) ≠ 0) : Calls Tryd.prog 15 #[.string s] w fun r w' => r = .returned (.tuple #[.agg (ncs Nd.zero), .string ByteArray.empty, .int .i64 ((tE (tR s) : Nat) : Int)]) ∧ Below w.heap.size w w' := by
  replace hs : s.size ≤ 1000000 := by omega
  have hs2 : (tR s).size ≤ 1000000 := by have := tR_size s; omega
  have x1 := hide (rtext_ok (s := s))
  have x2 := hide (rtext_ok (s := tR s))
  have HZ := hide (nbx_new 28 Nd.zero w)
  have HA : Hid (Below w.heap.size w (w.alloc (.cells (ncs Nd.zero) 28))) := (Below.refl _ _).alloc (Nat.le_refl _) _
  rw [ht0] at x1
  rw [tT_err ht, tR_err ht] at x2
  have q1 : (((tE (tR s) : Nat) : Int) == 0) = false := by simp; omega
  have q2 : (((tE (tR s) : Nat) : Int) != 0) = true := by simp; omega
  generalize tE (tR s) = E at *
  generalize tT s = K at *
  generalize tR s = S1 at *
  simp only [ncs, Nd.zero] at HA ⊢
  go_enter Tryd.func15, Tryd.ntmps15
  go_wp2_with fail
  refine (read_any s _).mono ?_
  rintro e w1 ⟨b, rfl, hb, hsz, hrd, hbl⟩
  have HB1 := hide (HA.out.trans (hbl.mono HA.out.size))
  have HZ1 := hide (HZ.out.below hbl HZ.out.lt)
  have HNE : Hid (w.heap.size ≠ b) := by show _ ≠ _; rw [hb, World.size_alloc]; omega
  have HLB : Hid (w.heap.size ≤ b) := by show _ ≤ _; rw [hb, World.size_alloc]; omega
  have R1 := hide hrd
  clear hb hsz hrd hbl HA HZ
  go_wp2_with fail
  refine (x1.out b w1 R1.out hs).mono ?_
  rintro e w2 ⟨rfl, hr2, hb2⟩
  have R2 := hide hr2
  have HB2 := hide (HB1.out.trans (hb2.below HLB.out))
  have HZ2 := hide (HZ1.out.but hb2 HNE.out)
  clear hr2 hb2 HB1 HZ1 R1
  go_wp2_with fail
  refine (x2.out b w2 R2.out hs2).mono ?_
  rintro e w3 ⟨rfl, hr2, hb2⟩
  have R3 := hide hr2
  have HB3 := hide (HB2.out.trans (hb2.below HLB.out))
  have HZ3 := hide (HZ2.out.but hb2 HNE.out)
  clear hr2 hb2 HB2 HZ2 R2
  have hal : Below w3.heap.size w3 (w3.alloc (.cells #[.string K, .string ByteArray.empty] 28)) := (Below.refl _ _).alloc (Nat.le_refl _) _
  have HB4 := hide (HB3.out.trans (hal.mono HB3.out.size))
  have HZ4 := hide (HZ3.out.below hal HZ3.out.lt)
  have R4 := hide (R3.out.below hal R3.out.lt)
  have N4 : Hid (NBx w3.heap.size 28 ⟨K, ByteArray.empty⟩ (w3.alloc (.cells #[.string K, .string ByteArray.empty] 28))) := nbx_new 28 ⟨K, ByteArray.empty⟩ w3
  have HN4 : Hid (w3.heap.size ≠ b) := by show _ ≠ _; have := R3.out.lt; omega
  have HN5 : Hid (w3.heap.size ≠ w.heap.size) := by show _ ≠ _; have := HZ3.out.lt; omega
  clear hal HB3 HZ3 R3
  go_wp2_with fail
  generalize w3.alloc (.cells #[.string K, .string ByteArray.empty] 28) = W4 at *
  generalize w3.heap.size = b4 at *
  refine (rrest_err b _ _ W4 R4.out ht).mono ?_
  rintro e w5 ⟨rfl, rfl⟩
  go_wp2_with fail
  refine (rend_err b _ _ W4 R4.out ht).mono ?_
  rintro e w5 ⟨rfl, rfl⟩
  obtain ⟨⟨c0, c1⟩, f0, f1⟩ := HZ4.out.cells
  go_wp2_with fail
  refine bodyPost_ret (res_nd rfl _ _ w.heap.size Nd.zero rfl (HZ4.out.two Nd.zero)) rfl ⟨rfl, below_two HB4.out (Nat.le_refl _) Nd.zero⟩
end Go.Proofs.YtomcdajoeakhdaaDoor
namespace Go.Proofs.YtomcdajoeakhdaaDoor
open Go.RowKit
set_option linter.unusedVariables false
set_option maxRecDepth 100000 in
set_option maxHeartbeats 8000000 in
theorem nread_C1 (s : ByteArray) (w : World) (hKw : KAt w) (hs : s.size ≤ 100000) (K S1 V B : ByteArray) (hK0 : tT s = K) (hS0 : tR s = S1) (hV0 : tT S1 = V) (hB0 : tR S1 = B) (ht0 : tE s = 0) (ht : tE S1 = 0) (hkk : K.size ≤ 100000) (hvv : V.size ≤ 100000) (h32 : B.size < 32) : Calls Tryd.prog 15 #[.string s] w fun r w' => r = .returned (.tuple #[.agg (ncs Nd.zero), .string ByteArray.empty, .int .i64 3]) ∧ Below w.heap.size w w' := by
  replace hs : s.size ≤ 1000000 := by omega
  have hs2 : S1.size ≤ 1000000 := by have := tR_size s; rw [hS0] at this; omega
  have x1 := hide (rtext_ok (s := s))
  have x2 := hide (rtext_ok (s := S1))
  have HZ := hide (nbx_new 28 Nd.zero w)
  have HA : Hid (Below w.heap.size w (w.alloc (.cells (ncs Nd.zero) 28))) := (Below.refl _ _).alloc (Nat.le_refl _) _
  rw [ht0, hK0, hS0] at x1
  rw [ht, hV0, hB0] at x2
  clear hK0 hS0 hV0 hB0 ht0 ht
  have d32 : decide ((B.size : Int) < 32) = true := by simp; omega
  simp only [ncs, Nd.zero] at HA ⊢
  go_enter Tryd.func15, Tryd.ntmps15
  go_wp2_with fail
  refine (read_any s _).mono ?_
  rintro e w1 ⟨b, rfl, hb, hsz, hrd, hbl⟩
  have HB1 := hide (HA.out.trans (hbl.mono HA.out.size))
  have HZ1 := hide (HZ.out.below hbl HZ.out.lt)
  have HNE : Hid (w.heap.size ≠ b) := by show _ ≠ _; rw [hb, World.size_alloc]; omega
  have HLB : Hid (w.heap.size ≤ b) := by show _ ≤ _; rw [hb, World.size_alloc]; omega
  have R1 := hide hrd
  clear hb hsz hrd hbl HA HZ
  go_wp2_with fail
  refine (x1.out b w1 R1.out hs).mono ?_
  rintro e w2 ⟨rfl, hr2, hb2⟩
  have R2 := hide hr2
  have HB2 := hide (HB1.out.trans (hb2.below HLB.out))
  have HZ2 := hide (HZ1.out.but hb2 HNE.out)
  clear hr2 hb2 HB1 HZ1 R1
  go_wp2_with fail
  refine (x2.out b w2 R2.out hs2).mono ?_
  rintro e w3 ⟨rfl, hr2, hb2⟩
  have R3 := hide hr2
  have HB3 := hide (HB2.out.trans (hb2.below HLB.out))
  have HZ3 := hide (HZ2.out.but hb2 HNE.out)
  clear hr2 hb2 HB2 HZ2 R2
  have hal : Below w3.heap.size w3 (w3.alloc (.cells #[.string K, .string V] 28)) := (Below.refl _ _).alloc (Nat.le_refl _) _
  have HB4 := hide (HB3.out.trans (hal.mono HB3.out.size))
  have HZ4 := hide (HZ3.out.below hal HZ3.out.lt)
  have R4 := hide (R3.out.below hal R3.out.lt)
  have N4 : Hid (NBx w3.heap.size 28 ⟨K, V⟩ (w3.alloc (.cells #[.string K, .string V] 28))) := nbx_new 28 ⟨K, V⟩ w3
  have HN4 : Hid (w3.heap.size ≠ b) := by show _ ≠ _; have := R3.out.lt; omega
  have HN5 : Hid (w3.heap.size ≠ w.heap.size) := by show _ ≠ _; have := HZ3.out.lt; omega
  clear hal HB3 HZ3 R3
  go_wp2_with fail
  generalize w3.alloc (.cells #[.string K, .string V] 28) = W4 at *
  generalize w3.heap.size = b4 at *
  refine (rrest_ok b _ W4 R4.out).mono ?_
  rintro e w5 ⟨rfl, hr2, hb2⟩
  have R5 := hide hr2
  have HB5 := hide (HB4.out.trans (hb2.below HLB.out))
  have HZ5 := hide (HZ4.out.but hb2 HNE.out)
  have N5 := hide (N4.out.but hb2 HN4.out)
  clear hr2 hb2 HB4 HZ4 N4 R4
  go_wp2_with fail
  refine (rend_done b w5 R5.out).mono ?_
  rintro e _ ⟨rfl, rfl⟩
  obtain ⟨⟨c0, c1⟩, f0, f1⟩ := HZ5.out.cells
  go_wp2_with fail
  refine bodyPost_ret (res_nd rfl _ _ w.heap.size Nd.zero rfl (HZ5.out.two Nd.zero)) rfl ⟨rfl, below_two HB5.out (Nat.le_refl _) Nd.zero⟩
end Go.Proofs.YtomcdajoeakhdaaDoor
namespace Go.Proofs.YtomcdajoeakhdaaDoor
open Go.RowKit
set_option linter.unusedVariables false
set_option maxRecDepth 100000 in
set_option maxHeartbeats 8000000 in
theorem nread_C2 (s : ByteArray) (w : World) (hKw : KAt w) (hs : s.size ≤ 100000) (K S1 V B : ByteArray) (hK0 : tT s = K) (hS0 : tR s = S1) (hV0 : tT S1 = V) (hB0 : tR S1 = B) (ht0 : tE s = 0) (ht : tE S1 = 0) (hkk : K.size ≤ 100000) (hvv : V.size ≤ 100000) (h32 : 32 ≤ B.size) (hd : B.extract 0 32 ≠ dg V) : Calls Tryd.prog 15 #[.string s] w fun r w' => r = .returned (.tuple #[.agg (ncs Nd.zero), .string ByteArray.empty, .int .i64 5]) ∧ Below w.heap.size w w' := by
  replace hs : s.size ≤ 1000000 := by omega
  have hs2 : S1.size ≤ 1000000 := by have := tR_size s; rw [hS0] at this; omega
  have x1 := hide (rtext_ok (s := s))
  have x2 := hide (rtext_ok (s := S1))
  have HZ := hide (nbx_new 28 Nd.zero w)
  have HA : Hid (Below w.heap.size w (w.alloc (.cells (ncs Nd.zero) 28))) := (Below.refl _ _).alloc (Nat.le_refl _) _
  rw [ht0, hK0, hS0] at x1
  rw [ht, hV0, hB0] at x2
  clear hK0 hS0 hV0 hB0 ht0 ht
  have hq := str_ne hd
  clear hd
  have d32 : decide ((B.size : Int) < 32) = false := by simp; omega
  simp only [ncs, Nd.zero] at HA ⊢
  go_enter Tryd.func15, Tryd.ntmps15
  go_wp2_with fail
  refine (read_any s _).mono ?_
  rintro e w1 ⟨b, rfl, hb, hsz, hrd, hbl⟩
  have HB1 := hide (HA.out.trans (hbl.mono HA.out.size))
  have HZ1 := hide (HZ.out.below hbl HZ.out.lt)
  have HNE : Hid (w.heap.size ≠ b) := by show _ ≠ _; rw [hb, World.size_alloc]; omega
  have HLB : Hid (w.heap.size ≤ b) := by show _ ≤ _; rw [hb, World.size_alloc]; omega
  have R1 := hide hrd
  clear hb hsz hrd hbl HA HZ
  go_wp2_with fail
  refine (x1.out b w1 R1.out hs).mono ?_
  rintro e w2 ⟨rfl, hr2, hb2⟩
  have R2 := hide hr2
  have HB2 := hide (HB1.out.trans (hb2.below HLB.out))
  have HZ2 := hide (HZ1.out.but hb2 HNE.out)
  clear hr2 hb2 HB1 HZ1 R1
  go_wp2_with fail
  refine (x2.out b w2 R2.out hs2).mono ?_
  rintro e w3 ⟨rfl, hr2, hb2⟩
  have R3 := hide hr2
  have HB3 := hide (HB2.out.trans (hb2.below HLB.out))
  have HZ3 := hide (HZ2.out.but hb2 HNE.out)
  clear hr2 hb2 HB2 HZ2 R2
  have hal : Below w3.heap.size w3 (w3.alloc (.cells #[.string K, .string V] 28)) := (Below.refl _ _).alloc (Nat.le_refl _) _
  have HB4 := hide (HB3.out.trans (hal.mono HB3.out.size))
  have HZ4 := hide (HZ3.out.below hal HZ3.out.lt)
  have R4 := hide (R3.out.below hal R3.out.lt)
  have N4 : Hid (NBx w3.heap.size 28 ⟨K, V⟩ (w3.alloc (.cells #[.string K, .string V] 28))) := nbx_new 28 ⟨K, V⟩ w3
  have HN4 : Hid (w3.heap.size ≠ b) := by show _ ≠ _; have := R3.out.lt; omega
  have HN5 : Hid (w3.heap.size ≠ w.heap.size) := by show _ ≠ _; have := HZ3.out.lt; omega
  clear hal HB3 HZ3 R3
  go_wp2_with fail
  generalize w3.alloc (.cells #[.string K, .string V] 28) = W4 at *
  generalize w3.heap.size = b4 at *
  refine (rrest_ok b _ W4 R4.out).mono ?_
  rintro e w5 ⟨rfl, hr2, hb2⟩
  have R5 := hide hr2
  have HB5 := hide (HB4.out.trans (hb2.below HLB.out))
  have HZ5 := hide (HZ4.out.but hb2 HNE.out)
  have N5 := hide (N4.out.but hb2 HN4.out)
  clear hr2 hb2 HB4 HZ4 N4 R4
  go_wp2_with fail
  refine (rend_done b w5 R5.out).mono ?_
  rintro e _ ⟨rfl, rfl⟩
  have hv : V.size ≤ 100000 := hvv
  have HK5 := hide (hKw.below HB5.out)
  have e1 := cell_regrown N5.out.c1
  have r1 := psum_q V w5 HK5.out hv
  simp only at e1
  have hBi : (32 : Int) ≤ (B.size : Int) := by omega
  generalize dg V = G at *
  go_upto_region 9 with fail
  refine wp_region_quiet_below (by kernel_rfl) (by kernel_rfl) ?_
  repeat (quiet_step (first | (with_reducible exact r1 _ _)))
  refine wpQuiet_nil ?_
  intro _ hw'
  obtain ⟨pq, hw''⟩ := hw'
  subst hw''
  have HQ := hide (HB5.out.trans ((below_regrown w5 pq.d pq.os).mono HB5.out.size))
  have HZ6 := hide (HZ5.out.below (below_regrown w5 pq.d pq.os) HZ5.out.lt)
  have N6 := hide (N5.out.below (below_regrown w5 pq.d pq.os) N5.out.lt)
  clear e1 r1 HK5
  generalize Go.Sort.grow (redrawn w5 pq.d) pq.os = WQ at *
  clear HB5 HZ5 N5 R5
  obtain ⟨⟨c0, c1⟩, f0, f1⟩ := HZ6.out.cells
  go_wp2_with fail
  refine bodyPost_ret (res_nd rfl _ _ w.heap.size Nd.zero rfl (HZ6.out.two Nd.zero)) rfl ⟨rfl, below_two HQ.out (Nat.le_refl _) Nd.zero⟩
end Go.Proofs.YtomcdajoeakhdaaDoor
