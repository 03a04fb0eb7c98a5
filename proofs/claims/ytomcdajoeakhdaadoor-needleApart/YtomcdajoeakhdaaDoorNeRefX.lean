/- A part of what the reference's Read answers. A part of what the reference's Read answers. A part of what the reference's Read answers. A part of what the reference's Read answers. -/
import Derived.Test.YtomcdajoeakhdaaDoorNeRd
namespace Go.Proofs.YtomcdajoeakhdaaDoor
open Go.RowKit
set_option linter.unusedVariables false
set_option maxRecDepth 100000 in
set_option maxHeartbeats 8000000 in
theorem rread_A (s : ByteArray) (w : World) (hs : s.size ≤ 100000) (ht : tE s ≠ 0) : Calls Tryd.prog 16 #[.string s] w fun r w' => r = .returned (.tuple #[.agg (ncs Nd.zero), .string ByteArray.empty, .int .i64 ((tE s : Nat) : Int)]) ∧ Below w.heap.size w w' := by
  replace hs : s.size ≤ 1000000 := by omega
  have x1 := hide (qtext_ok (s := s))
  rw [tT_err ht, tR_err ht] at x1
  have q1 : (((tE s : Nat) : Int) == 0) = false := by simp; omega
  have q2 : (((tE s : Nat) : Int) != 0) = true := by simp; omega
  generalize tE s = E at *
  have HB2 : Hid (Below w.heap.size w (((w.alloc (.cells #[.string { data := #[] }, .string { data := #[] }] 23)).alloc (.cells #[.string s, .int .i64 0] 69)).alloc (.cells #[.string { data := #[] }, .string { data := #[] }] 23))) := (((Below.refl _ _).alloc (Nat.le_refl _) _).alloc (by rw [World.size_alloc]; omega) _).alloc (by rw [World.size_alloc, World.size_alloc]; omega) _
  have HZ2 : Hid (NBx w.heap.size 23 Nd.zero (((w.alloc (.cells #[.string { data := #[] }, .string { data := #[] }] 23)).alloc (.cells #[.string s, .int .i64 0] 69)).alloc (.cells #[.string { data := #[] }, .string { data := #[] }] 23))) := (Below.heap_alloc _ _ _ (by rw [World.size_alloc, World.size_alloc]; omega)).trans ((Below.heap_alloc _ _ _ (by rw [World.size_alloc]; omega)).trans (heap_alloc_new w _))
  have R2 : Hid (RdAt (((w.alloc (.cells #[.string { data := #[] }, .string { data := #[] }] 23)).alloc (.cells #[.string s, .int .i64 0] 69)).alloc (.cells #[.string { data := #[] }, .string { data := #[] }] 23)) (w.heap.size + 1) 69 s 0) := by
    have q := heap_alloc_new (w.alloc (.cells #[.string { data := #[] }, .string { data := #[] }] 23)) (.cells #[.string s, .int .i64 0] 69)
    rw [World.size_alloc] at q
    exact (Below.heap_alloc _ _ _ (by rw [World.size_alloc, World.size_alloc]; omega)).trans q
  have N2 : Hid (NBx (w.heap.size + 1 + 1) 23 Nd.zero (((w.alloc (.cells #[.string { data := #[] }, .string { data := #[] }] 23)).alloc (.cells #[.string s, .int .i64 0] 69)).alloc (.cells #[.string { data := #[] }, .string { data := #[] }] 23))) := by
    have q := heap_alloc_new ((w.alloc (.cells #[.string { data := #[] }, .string { data := #[] }] 23)).alloc (.cells #[.string s, .int .i64 0] 69)) (.cells #[.string { data := #[] }, .string { data := #[] }] 23)
    rw [World.size_alloc, World.size_alloc] at q
    exact q
  go_enter Tryd.func16, Tryd.ntmps16
  go_wp2_with fail
  generalize (((w.alloc (.cells #[.string { data := #[] }, .string { data := #[] }] 23)).alloc (.cells #[.string s, .int .i64 0] 69)).alloc (.cells #[.string { data := #[] }, .string { data := #[] }] 23)) = W2 at *
  have L1 : Hid (w.heap.size ≤ w.heap.size + 1) := by show _ ≤ _; omega
  have L2 : Hid (w.heap.size ≤ w.heap.size + 1 + 1) := by show _ ≤ _; omega
  have D1 : Hid (w.heap.size ≠ w.heap.size + 1) := by show _ ≠ _; omega
  have D2 : Hid (w.heap.size ≠ w.heap.size + 1 + 1) := by show _ ≠ _; omega
  have D3 : Hid (w.heap.size + 1 + 1 ≠ w.heap.size + 1) := by show _ ≠ _; omega
  have D4 : Hid (w.heap.size + 1 ≠ w.heap.size + 1 + 1) := by show _ ≠ _; omega
  generalize hb1 : w.heap.size + 1 = b at *
  generalize hb2 : b + 1 = b4 at *
  clear hb1 hb2
  refine (x1.out b W2 R2.out hs).mono ?_
  rintro e u3 ⟨rfl, hr, hb⟩
  have hn := N2.out.but hb D3.out
  have hz := HZ2.out.but hb D1.out
  have hbb := HB2.out.trans (hb.below L1.out)
  obtain ⟨⟨c0, c1⟩, f0, f1⟩ := hn.cells
  clear hb
  go_wp2_with fail
  have N3 := hide (hn.sk ByteArray.empty)
  have HZ3 := hide (hz.away (o := 0) D2.out (.string ByteArray.empty))
  have HB3 := hide (hbb.setCell (p := ⟨b4, 0, none⟩) L2.out (.string ByteArray.empty))
  have R3 := hide (RdAt.away (o := 0) hr D4.out (.string ByteArray.empty))
  clear hn hz hbb hr c0 c1 f0 f1 N2 HZ2 HB2 R2 x1
  generalize u3.setCell ⟨b4, 0, none⟩ (.string ByteArray.empty) = W3 at *
  refine (qtext_err b _ _ W3 R3.out ht).mono ?_
  rintro e u4 ⟨rfl, hr, hb⟩
  have hn := N3.out.but hb D3.out
  have hz := HZ3.out.but hb D1.out
  have hbb := HB3.out.trans (hb.below L1.out)
  obtain ⟨⟨c0, c1⟩, f0, f1⟩ := hn.cells
  clear hb
  simp only at c0 c1
  have r0 := hr.left
  have r1 := hr.err
  go_upto_region 5 with fail
  have N4 := hide (hn.sv ByteArray.empty)
  have HZ4 := hide (hz.away (o := 1) D2.out (.string ByteArray.empty))
  have HB4 := hide (hbb.setCell (p := ⟨b4, 1, none⟩) L2.out (.string ByteArray.empty))
  have R4 := hide (RdAt.away (o := 1) hr D4.out (.string ByteArray.empty))
  clear hn hz hbb hr c0 c1 f0 f1 r0 r1 N3 HZ3 HB3 R3
  generalize u4.setCell ⟨b4, 1, none⟩ (.string ByteArray.empty) = W4 at *
  have r0 := R4.out.left
  have r1 := R4.out.err
  go_upto_region 6 with fail
  clear r0 r1
  refine wp_region_noPanic ?_
  refine wp_region_held_drew (S := fun w' => RdAt w' b 69 ByteArray.empty E) (by kernel_rfl) R4.out (fun hHeld => ?_)
  refine wpAnyH_take (i := 0) (v := ?v1) rfl (by kernel_rfl) (by kernel_rfl) (by kernel_rfl) (fun _ _ _ h => h) (Or.inl ⟨by rfl, ?hy1⟩) hHeld ?rest1
  case hy1 => (intro w' hSw; have s0 := RdAt.left hSw; have s1 := RdAt.err hSw; go_simp; try with_reducible rfl)
  try simp [Act.put]
  refine wpAnyH_take (i := 1) (v := ?v2) rfl (by kernel_rfl) (by kernel_rfl) (by kernel_rfl) (fun _ _ _ h => h) (Or.inl ⟨by rfl, ?hy2⟩) hHeld ?rest2
  case hy2 => (intro w' hSw; have s0 := RdAt.left hSw; have s1 := RdAt.err hSw; go_simp; try with_reducible rfl)
  try simp [Act.put]
  refine wpAnyH_take (i := 2) (v := ?v3) rfl (by kernel_rfl) (by kernel_rfl) (by kernel_rfl) (fun _ _ _ h => h) (Or.inl ⟨by rfl, ?hy3⟩) hHeld ?rest3
  case hy3 => (intro w' hSw; have s0 := RdAt.left hSw; have s1 := RdAt.err hSw; go_simp; try with_reducible rfl)
  try simp [Act.put]
  refine wpAnyH_take (i := 3) (v := ?v4) rfl (by kernel_rfl) (by kernel_rfl) (by kernel_rfl) (fun _ _ _ h => h) (Or.inl ⟨by rfl, ?hy4⟩) hHeld ?rest4
  case hy4 => (intro w' hSw; have s0 := RdAt.left hSw; have s1 := RdAt.err hSw; go_simp; try with_reducible rfl)
  try simp [Act.put]
  refine wpAnyH_take (i := 4) (v := ?v5) rfl (by kernel_rfl) (by kernel_rfl) (by kernel_rfl) (fun _ _ _ h => h) (Or.inl ⟨by rfl, ?hy5⟩) hHeld ?rest5
  case hy5 => (intro w' hSw; have s0 := RdAt.left hSw; have s1 := RdAt.err hSw; go_simp; try with_reducible rfl)
  try simp [Act.put]
  refine wpAnyH_ready (rs := [5]) (by kernel_rfl) (by simp) ?_
  refine AllReadyH.cons rfl (fun K0 hK => ?_) AllReadyH.nil
  obtain ⟨⟨c0, c1⟩, f0, f1⟩ := HZ4.out.cells
  go_simp
  have HZ8 : Hid (NBx w.heap.size 23 Nd.zero (two W4 w.heap.size Nd.zero).drew) := HZ4.out.two Nd.zero
  have HB8 := hide (below_two HB4.out (Nat.le_refl _) Nd.zero).drew
  have R8 : Hid (RdAt (two W4 w.heap.size Nd.zero).drew b 69 ByteArray.empty E) := (RdAt.away (RdAt.away R4.out (Ne.symm D1.out) _) (Ne.symm D1.out) _)
  refine hK.out _ _ R8.out (fun hHeld => ?_)
  clear hK K0 c0 c1 f0 f1
  try simp [Act.put]
  refine wpAnyH_take (i := 6) (v := ?v11) rfl (by kernel_rfl) (by kernel_rfl) (by kernel_rfl) (fun _ _ _ h => h) (Or.inl ⟨by rfl, ?hy11⟩) hHeld ?rest11
  case hy11 => (intro w' hSw; have s0 := RdAt.left hSw; have s1 := RdAt.err hSw; go_simp; try with_reducible rfl)
  try simp [Act.put]
  refine wpAnyH_take (i := 7) (v := ?v12) rfl (by kernel_rfl) (by kernel_rfl) (by kernel_rfl) (fun _ _ _ h => h) (Or.inl ⟨by rfl, ?hy12⟩) hHeld ?rest12
  case hy12 => (intro w' hSw; have s0 := RdAt.left hSw; have s1 := RdAt.err hSw; go_simp; try with_reducible rfl)
  try simp [Act.put]
  refine wpAnyH_done (by kernel_rfl) (NoPanic.normal ?_) _
  go_wp2_with fail
  refine bodyPost_ret (res_rnd rfl _ _ w.heap.size Nd.zero rfl HZ8.out) rfl ⟨rfl, HB8.out⟩
end Go.Proofs.YtomcdajoeakhdaaDoor
namespace Go.Proofs.YtomcdajoeakhdaaDoor
open Go.RowKit
set_option linter.unusedVariables false
set_option maxRecDepth 100000 in
set_option maxHeartbeats 8000000 in
theorem rread_B (s : ByteArray) (w : World) (hs : s.size ≤ 100000) (K S1 : ByteArray) (hK0 : tT s = K) (hS0 : tR s = S1) (ht0 : tE s = 0) (ht : tE S1 ≠ 0) : Calls Tryd.prog 16 #[.string s] w fun r w' => r = .returned (.tuple #[.agg (ncs Nd.zero), .string ByteArray.empty, .int .i64 ((tE S1 : Nat) : Int)]) ∧ Below w.heap.size w w' := by
  replace hs : s.size ≤ 1000000 := by omega
  have x1 := hide (qtext_ok (s := s))
  have hs2 : S1.size ≤ 1000000 := by have := tR_size s; rw [hS0] at this; omega
  have x2 := hide (qtext_ok (s := S1))
  rw [ht0, hK0, hS0] at x1
  rw [tT_err ht, tR_err ht] at x2
  clear hK0 hS0 ht0
  have q1 : (((tE S1 : Nat) : Int) == 0) = false := by simp; omega
  have q2 : (((tE S1 : Nat) : Int) != 0) = true := by simp; omega
  generalize tE S1 = E at *
  have HB2 : Hid (Below w.heap.size w (((w.alloc (.cells #[.string { data := #[] }, .string { data := #[] }] 23)).alloc (.cells #[.string s, .int .i64 0] 69)).alloc (.cells #[.string { data := #[] }, .string { data := #[] }] 23))) := (((Below.refl _ _).alloc (Nat.le_refl _) _).alloc (by rw [World.size_alloc]; omega) _).alloc (by rw [World.size_alloc, World.size_alloc]; omega) _
  have HZ2 : Hid (NBx w.heap.size 23 Nd.zero (((w.alloc (.cells #[.string { data := #[] }, .string { data := #[] }] 23)).alloc (.cells #[.string s, .int .i64 0] 69)).alloc (.cells #[.string { data := #[] }, .string { data := #[] }] 23))) := (Below.heap_alloc _ _ _ (by rw [World.size_alloc, World.size_alloc]; omega)).trans ((Below.heap_alloc _ _ _ (by rw [World.size_alloc]; omega)).trans (heap_alloc_new w _))
  have R2 : Hid (RdAt (((w.alloc (.cells #[.string { data := #[] }, .string { data := #[] }] 23)).alloc (.cells #[.string s, .int .i64 0] 69)).alloc (.cells #[.string { data := #[] }, .string { data := #[] }] 23)) (w.heap.size + 1) 69 s 0) := by
    have q := heap_alloc_new (w.alloc (.cells #[.string { data := #[] }, .string { data := #[] }] 23)) (.cells #[.string s, .int .i64 0] 69)
    rw [World.size_alloc] at q
    exact (Below.heap_alloc _ _ _ (by rw [World.size_alloc, World.size_alloc]; omega)).trans q
  have N2 : Hid (NBx (w.heap.size + 1 + 1) 23 Nd.zero (((w.alloc (.cells #[.string { data := #[] }, .string { data := #[] }] 23)).alloc (.cells #[.string s, .int .i64 0] 69)).alloc (.cells #[.string { data := #[] }, .string { data := #[] }] 23))) := by
    have q := heap_alloc_new ((w.alloc (.cells #[.string { data := #[] }, .string { data := #[] }] 23)).alloc (.cells #[.string s, .int .i64 0] 69)) (.cells #[.string { data := #[] }, .string { data := #[] }] 23)
    rw [World.size_alloc, World.size_alloc] at q
    exact q
  go_enter Tryd.func16, Tryd.ntmps16
  go_wp2_with fail
  generalize (((w.alloc (.cells #[.string { data := #[] }, .string { data := #[] }] 23)).alloc (.cells #[.string s, .int .i64 0] 69)).alloc (.cells #[.string { data := #[] }, .string { data := #[] }] 23)) = W2 at *
  have L1 : Hid (w.heap.size ≤ w.heap.size + 1) := by show _ ≤ _; omega
  have L2 : Hid (w.heap.size ≤ w.heap.size + 1 + 1) := by show _ ≤ _; omega
  have D1 : Hid (w.heap.size ≠ w.heap.size + 1) := by show _ ≠ _; omega
  have D2 : Hid (w.heap.size ≠ w.heap.size + 1 + 1) := by show _ ≠ _; omega
  have D3 : Hid (w.heap.size + 1 + 1 ≠ w.heap.size + 1) := by show _ ≠ _; omega
  have D4 : Hid (w.heap.size + 1 ≠ w.heap.size + 1 + 1) := by show _ ≠ _; omega
  generalize hb1 : w.heap.size + 1 = b at *
  generalize hb2 : b + 1 = b4 at *
  clear hb1 hb2
  refine (x1.out b W2 R2.out hs).mono ?_
  rintro e u3 ⟨rfl, hr, hb⟩
  have hn := N2.out.but hb D3.out
  have hz := HZ2.out.but hb D1.out
  have hbb := HB2.out.trans (hb.below L1.out)
  obtain ⟨⟨c0, c1⟩, f0, f1⟩ := hn.cells
  clear hb
  go_wp2_with fail
  have N3 := hide (hn.sk K)
  have HZ3 := hide (hz.away (o := 0) D2.out (.string K))
  have HB3 := hide (hbb.setCell (p := ⟨b4, 0, none⟩) L2.out (.string K))
  have R3 := hide (RdAt.away (o := 0) hr D4.out (.string K))
  clear hn hz hbb hr c0 c1 f0 f1 N2 HZ2 HB2 R2 x1
  generalize u3.setCell ⟨b4, 0, none⟩ (.string K) = W3 at *
  refine (x2.out b W3 R3.out hs2).mono ?_
  rintro e u4 ⟨rfl, hr, hb⟩
  have hn := N3.out.but hb D3.out
  have hz := HZ3.out.but hb D1.out
  have hbb := HB3.out.trans (hb.below L1.out)
  obtain ⟨⟨c0, c1⟩, f0, f1⟩ := hn.cells
  clear hb
  simp only at c0 c1
  have r0 := hr.left
  have r1 := hr.err
  go_upto_region 5 with fail
  have N4 := hide (hn.sv ByteArray.empty)
  have HZ4 := hide (hz.away (o := 1) D2.out (.string ByteArray.empty))
  have HB4 := hide (hbb.setCell (p := ⟨b4, 1, none⟩) L2.out (.string ByteArray.empty))
  have R4 := hide (RdAt.away (o := 1) hr D4.out (.string ByteArray.empty))
  clear hn hz hbb hr c0 c1 f0 f1 r0 r1 N3 HZ3 HB3 R3
  generalize u4.setCell ⟨b4, 1, none⟩ (.string ByteArray.empty) = W4 at *
  have r0 := R4.out.left
  have r1 := R4.out.err
  go_upto_region 6 with fail
  clear r0 r1
  refine wp_region_noPanic ?_
  refine wp_region_held_drew (S := fun w' => RdAt w' b 69 ByteArray.empty E) (by kernel_rfl) R4.out (fun hHeld => ?_)
  refine wpAnyH_take (i := 0) (v := ?v1) rfl (by kernel_rfl) (by kernel_rfl) (by kernel_rfl) (fun _ _ _ h => h) (Or.inl ⟨by rfl, ?hy1⟩) hHeld ?rest1
  case hy1 => (intro w' hSw; have s0 := RdAt.left hSw; have s1 := RdAt.err hSw; go_simp; try with_reducible rfl)
  try simp [Act.put]
  refine wpAnyH_take (i := 1) (v := ?v2) rfl (by kernel_rfl) (by kernel_rfl) (by kernel_rfl) (fun _ _ _ h => h) (Or.inl ⟨by rfl, ?hy2⟩) hHeld ?rest2
  case hy2 => (intro w' hSw; have s0 := RdAt.left hSw; have s1 := RdAt.err hSw; go_simp; try with_reducible rfl)
  try simp [Act.put]
  refine wpAnyH_take (i := 2) (v := ?v3) rfl (by kernel_rfl) (by kernel_rfl) (by kernel_rfl) (fun _ _ _ h => h) (Or.inl ⟨by rfl, ?hy3⟩) hHeld ?rest3
  case hy3 => (intro w' hSw; have s0 := RdAt.left hSw; have s1 := RdAt.err hSw; go_simp; try with_reducible rfl)
  try simp [Act.put]
  refine wpAnyH_take (i := 3) (v := ?v4) rfl (by kernel_rfl) (by kernel_rfl) (by kernel_rfl) (fun _ _ _ h => h) (Or.inl ⟨by rfl, ?hy4⟩) hHeld ?rest4
  case hy4 => (intro w' hSw; have s0 := RdAt.left hSw; have s1 := RdAt.err hSw; go_simp; try with_reducible rfl)
  try simp [Act.put]
  refine wpAnyH_take (i := 4) (v := ?v5) rfl (by kernel_rfl) (by kernel_rfl) (by kernel_rfl) (fun _ _ _ h => h) (Or.inl ⟨by rfl, ?hy5⟩) hHeld ?rest5
  case hy5 => (intro w' hSw; have s0 := RdAt.left hSw; have s1 := RdAt.err hSw; go_simp; try with_reducible rfl)
  try simp [Act.put]
  refine wpAnyH_ready (rs := [5]) (by kernel_rfl) (by simp) ?_
  refine AllReadyH.cons rfl (fun K0 hK => ?_) AllReadyH.nil
  obtain ⟨⟨c0, c1⟩, f0, f1⟩ := HZ4.out.cells
  go_simp
  have HZ8 : Hid (NBx w.heap.size 23 Nd.zero (two W4 w.heap.size Nd.zero).drew) := HZ4.out.two Nd.zero
  have HB8 := hide (below_two HB4.out (Nat.le_refl _) Nd.zero).drew
  have R8 : Hid (RdAt (two W4 w.heap.size Nd.zero).drew b 69 ByteArray.empty E) := (RdAt.away (RdAt.away R4.out (Ne.symm D1.out) _) (Ne.symm D1.out) _)
  refine hK.out _ _ R8.out (fun hHeld => ?_)
  clear hK K0 c0 c1 f0 f1
  try simp [Act.put]
  refine wpAnyH_take (i := 6) (v := ?v11) rfl (by kernel_rfl) (by kernel_rfl) (by kernel_rfl) (fun _ _ _ h => h) (Or.inl ⟨by rfl, ?hy11⟩) hHeld ?rest11
  case hy11 => (intro w' hSw; have s0 := RdAt.left hSw; have s1 := RdAt.err hSw; go_simp; try with_reducible rfl)
  try simp [Act.put]
  refine wpAnyH_take (i := 7) (v := ?v12) rfl (by kernel_rfl) (by kernel_rfl) (by kernel_rfl) (fun _ _ _ h => h) (Or.inl ⟨by rfl, ?hy12⟩) hHeld ?rest12
  case hy12 => (intro w' hSw; have s0 := RdAt.left hSw; have s1 := RdAt.err hSw; go_simp; try with_reducible rfl)
  try simp [Act.put]
  refine wpAnyH_done (by kernel_rfl) (NoPanic.normal ?_) _
  go_wp2_with fail
  refine bodyPost_ret (res_rnd rfl _ _ w.heap.size Nd.zero rfl HZ8.out) rfl ⟨rfl, HB8.out⟩
end Go.Proofs.YtomcdajoeakhdaaDoor
namespace Go.Proofs.YtomcdajoeakhdaaDoor
open Go.RowKit
set_option linter.unusedVariables false
set_option maxRecDepth 100000 in
set_option maxHeartbeats 8000000 in
theorem rread_C1 (s : ByteArray) (w : World) (hs : s.size ≤ 100000) (K S1 V B : ByteArray) (hK0 : tT s = K) (hS0 : tR s = S1) (hV0 : tT S1 = V) (hB0 : tR S1 = B) (ht0 : tE s = 0) (ht : tE S1 = 0) (hkk : K.size ≤ 100000) (hvv : V.size ≤ 100000) (h32 : B.size < 32) : Calls Tryd.prog 16 #[.string s] w fun r w' => r = .returned (.tuple #[.agg (ncs Nd.zero), .string ByteArray.empty, .int .i64 3]) ∧ Below w.heap.size w w' := by
  replace hs : s.size ≤ 1000000 := by omega
  have hs2 : S1.size ≤ 1000000 := by have := tR_size s; rw [hS0] at this; omega
  have x1 := hide (qtext_ok (s := s))
  have x2 := hide (qtext_ok (s := S1))
  rw [ht0, hK0, hS0] at x1
  rw [ht, hV0, hB0] at x2
  clear hK0 hS0 hV0 hB0 ht0 ht
  have d32 : decide ((B.size : Int) < 32) = true := by simp; omega
  have HB2 : Hid (Below w.heap.size w (((w.alloc (.cells #[.string { data := #[] }, .string { data := #[] }] 23)).alloc (.cells #[.string s, .int .i64 0] 69)).alloc (.cells #[.string { data := #[] }, .string { data := #[] }] 23))) := (((Below.refl _ _).alloc (Nat.le_refl _) _).alloc (by rw [World.size_alloc]; omega) _).alloc (by rw [World.size_alloc, World.size_alloc]; omega) _
  have HZ2 : Hid (NBx w.heap.size 23 Nd.zero (((w.alloc (.cells #[.string { data := #[] }, .string { data := #[] }] 23)).alloc (.cells #[.string s, .int .i64 0] 69)).alloc (.cells #[.string { data := #[] }, .string { data := #[] }] 23))) := (Below.heap_alloc _ _ _ (by rw [World.size_alloc, World.size_alloc]; omega)).trans ((Below.heap_alloc _ _ _ (by rw [World.size_alloc]; omega)).trans (heap_alloc_new w _))
  have R2 : Hid (RdAt (((w.alloc (.cells #[.string { data := #[] }, .string { data := #[] }] 23)).alloc (.cells #[.string s, .int .i64 0] 69)).alloc (.cells #[.string { data := #[] }, .string { data := #[] }] 23)) (w.heap.size + 1) 69 s 0) := by
    have q := heap_alloc_new (w.alloc (.cells #[.string { data := #[] }, .string { data := #[] }] 23)) (.cells #[.string s, .int .i64 0] 69)
    rw [World.size_alloc] at q
    exact (Below.heap_alloc _ _ _ (by rw [World.size_alloc, World.size_alloc]; omega)).trans q
  have N2 : Hid (NBx (w.heap.size + 1 + 1) 23 Nd.zero (((w.alloc (.cells #[.string { data := #[] }, .string { data := #[] }] 23)).alloc (.cells #[.string s, .int .i64 0] 69)).alloc (.cells #[.string { data := #[] }, .string { data := #[] }] 23))) := by
    have q := heap_alloc_new ((w.alloc (.cells #[.string { data := #[] }, .string { data := #[] }] 23)).alloc (.cells #[.string s, .int .i64 0] 69)) (.cells #[.string { data := #[] }, .string { data := #[] }] 23)
    rw [World.size_alloc, World.size_alloc] at q
    exact q
  go_enter Tryd.func16, Tryd.ntmps16
  go_wp2_with fail
  generalize (((w.alloc (.cells #[.string { data := #[] }, .string { data := #[] }] 23)).alloc (.cells #[.string s, .int .i64 0] 69)).alloc (.cells #[.string { data := #[] }, .string { data := #[] }] 23)) = W2 at *
  have L1 : Hid (w.heap.size ≤ w.heap.size + 1) := by show _ ≤ _; omega
  have L2 : Hid (w.heap.size ≤ w.heap.size + 1 + 1) := by show _ ≤ _; omega
  have D1 : Hid (w.heap.size ≠ w.heap.size + 1) := by show _ ≠ _; omega
  have D2 : Hid (w.heap.size ≠ w.heap.size + 1 + 1) := by show _ ≠ _; omega
  have D3 : Hid (w.heap.size + 1 + 1 ≠ w.heap.size + 1) := by show _ ≠ _; omega
  have D4 : Hid (w.heap.size + 1 ≠ w.heap.size + 1 + 1) := by show _ ≠ _; omega
  generalize hb1 : w.heap.size + 1 = b at *
  generalize hb2 : b + 1 = b4 at *
  clear hb1 hb2
  refine (x1.out b W2 R2.out hs).mono ?_
  rintro e u3 ⟨rfl, hr, hb⟩
  have hn := N2.out.but hb D3.out
  have hz := HZ2.out.but hb D1.out
  have hbb := HB2.out.trans (hb.below L1.out)
  obtain ⟨⟨c0, c1⟩, f0, f1⟩ := hn.cells
  clear hb
  go_wp2_with fail
  have N3 := hide (hn.sk K)
  have HZ3 := hide (hz.away (o := 0) D2.out (.string K))
  have HB3 := hide (hbb.setCell (p := ⟨b4, 0, none⟩) L2.out (.string K))
  have R3 := hide (RdAt.away (o := 0) hr D4.out (.string K))
  clear hn hz hbb hr c0 c1 f0 f1 N2 HZ2 HB2 R2 x1
  generalize u3.setCell ⟨b4, 0, none⟩ (.string K) = W3 at *
  refine (x2.out b W3 R3.out hs2).mono ?_
  rintro e u4 ⟨rfl, hr, hb⟩
  have hn := N3.out.but hb D3.out
  have hz := HZ3.out.but hb D1.out
  have hbb := HB3.out.trans (hb.below L1.out)
  obtain ⟨⟨c0, c1⟩, f0, f1⟩ := hn.cells
  clear hb
  simp only at c0 c1
  have r0 := hr.left
  have r1 := hr.err
  go_upto_region 5 with fail
  have N4 := hide (hn.sv V)
  have HZ4 := hide (hz.away (o := 1) D2.out (.string V))
  have HB4 := hide (hbb.setCell (p := ⟨b4, 1, none⟩) L2.out (.string V))
  have R4 := hide (RdAt.away (o := 1) hr D4.out (.string V))
  clear hn hz hbb hr c0 c1 f0 f1 r0 r1 N3 HZ3 HB3 R3
  generalize u4.setCell ⟨b4, 1, none⟩ (.string V) = W4 at *
  have r0 := R4.out.left
  have r1 := R4.out.err
  obtain ⟨⟨c0, c1⟩, f0, f1⟩ := HZ4.out.cells
  go_wp2_with fail
  refine bodyPost_ret (res_rnd rfl _ _ w.heap.size Nd.zero rfl (HZ4.out.two Nd.zero)) rfl ⟨rfl, below_two HB4.out (Nat.le_refl _) Nd.zero⟩
end Go.Proofs.YtomcdajoeakhdaaDoor
namespace Go.Proofs.YtomcdajoeakhdaaDoor
open Go.RowKit
set_option linter.unusedVariables false
set_option maxRecDepth 100000 in
set_option maxHeartbeats 8000000 in
theorem rread_C2 (s : ByteArray) (w : World) (hs : s.size ≤ 100000) (K S1 V B : ByteArray) (hK0 : tT s = K) (hS0 : tR s = S1) (hV0 : tT S1 = V) (hB0 : tR S1 = B) (ht0 : tE s = 0) (ht : tE S1 = 0) (hkk : K.size ≤ 100000) (hvv : V.size ≤ 100000) (h32 : 32 ≤ B.size) (hd : B.extract 0 32 ≠ dg V) : Calls Tryd.prog 16 #[.string s] w fun r w' => r = .returned (.tuple #[.agg (ncs Nd.zero), .string ByteArray.empty, .int .i64 5]) ∧ Below w.heap.size w w' := by
  replace hs : s.size ≤ 1000000 := by omega
  have hs2 : S1.size ≤ 1000000 := by have := tR_size s; rw [hS0] at this; omega
  have x1 := hide (qtext_ok (s := s))
  have x2 := hide (qtext_ok (s := S1))
  rw [ht0, hK0, hS0] at x1
  rw [ht, hV0, hB0] at x2
  clear hK0 hS0 hV0 hB0 ht0 ht
  have hq := str_ne hd
  clear hd
  have d32 : decide ((B.size : Int) < 32) = false := by simp; omega
  have HB2 : Hid (Below w.heap.size w (((w.alloc (.cells #[.string { data := #[] }, .string { data := #[] }] 23)).alloc (.cells #[.string s, .int .i64 0] 69)).alloc (.cells #[.string { data := #[] }, .string { data := #[] }] 23))) := (((Below.refl _ _).alloc (Nat.le_refl _) _).alloc (by rw [World.size_alloc]; omega) _).alloc (by rw [World.size_alloc, World.size_alloc]; omega) _
  have HZ2 : Hid (NBx w.heap.size 23 Nd.zero (((w.alloc (.cells #[.string { data := #[] }, .string { data := #[] }] 23)).alloc (.cells #[.string s, .int .i64 0] 69)).alloc (.cells #[.string { data := #[] }, .string { data := #[] }] 23))) := (Below.heap_alloc _ _ _ (by rw [World.size_alloc, World.size_alloc]; omega)).trans ((Below.heap_alloc _ _ _ (by rw [World.size_alloc]; omega)).trans (heap_alloc_new w _))
  have R2 : Hid (RdAt (((w.alloc (.cells #[.string { data := #[] }, .string { data := #[] }] 23)).alloc (.cells #[.string s, .int .i64 0] 69)).alloc (.cells #[.string { data := #[] }, .string { data := #[] }] 23)) (w.heap.size + 1) 69 s 0) := by
    have q := heap_alloc_new (w.alloc (.cells #[.string { data := #[] }, .string { data := #[] }] 23)) (.cells #[.string s, .int .i64 0] 69)
    rw [World.size_alloc] at q
    exact (Below.heap_alloc _ _ _ (by rw [World.size_alloc, World.size_alloc]; omega)).trans q
  have N2 : Hid (NBx (w.heap.size + 1 + 1) 23 Nd.zero (((w.alloc (.cells #[.string { data := #[] }, .string { data := #[] }] 23)).alloc (.cells #[.string s, .int .i64 0] 69)).alloc (.cells #[.string { data := #[] }, .string { data := #[] }] 23))) := by
    have q := heap_alloc_new ((w.alloc (.cells #[.string { data := #[] }, .string { data := #[] }] 23)).alloc (.cells #[.string s, .int .i64 0] 69)) (.cells #[.string { data := #[] }, .string { data := #[] }] 23)
    rw [World.size_alloc, World.size_alloc] at q
    exact q
  go_enter Tryd.func16, Tryd.ntmps16
  go_wp2_with fail
  generalize (((w.alloc (.cells #[.string { data := #[] }, .string { data := #[] }] 23)).alloc (.cells #[.string s, .int .i64 0] 69)).alloc (.cells #[.string { data := #[] }, .string { data := #[] }] 23)) = W2 at *
  have L1 : Hid (w.heap.size ≤ w.heap.size + 1) := by show _ ≤ _; omega
  have L2 : Hid (w.heap.size ≤ w.heap.size + 1 + 1) := by show _ ≤ _; omega
  have D1 : Hid (w.heap.size ≠ w.heap.size + 1) := by show _ ≠ _; omega
  have D2 : Hid (w.heap.size ≠ w.heap.size + 1 + 1) := by show _ ≠ _; omega
  have D3 : Hid (w.heap.size + 1 + 1 ≠ w.heap.size + 1) := by show _ ≠ _; omega
  have D4 : Hid (w.heap.size + 1 ≠ w.heap.size + 1 + 1) := by show _ ≠ _; omega
  generalize hb1 : w.heap.size + 1 = b at *
  generalize hb2 : b + 1 = b4 at *
  clear hb1 hb2
  refine (x1.out b W2 R2.out hs).mono ?_
  rintro e u3 ⟨rfl, hr, hb⟩
  have hn := N2.out.but hb D3.out
  have hz := HZ2.out.but hb D1.out
  have hbb := HB2.out.trans (hb.below L1.out)
  obtain ⟨⟨c0, c1⟩, f0, f1⟩ := hn.cells
  clear hb
  go_wp2_with fail
  have N3 := hide (hn.sk K)
  have HZ3 := hide (hz.away (o := 0) D2.out (.string K))
  have HB3 := hide (hbb.setCell (p := ⟨b4, 0, none⟩) L2.out (.string K))
  have R3 := hide (RdAt.away (o := 0) hr D4.out (.string K))
  clear hn hz hbb hr c0 c1 f0 f1 N2 HZ2 HB2 R2 x1
  generalize u3.setCell ⟨b4, 0, none⟩ (.string K) = W3 at *
  refine (x2.out b W3 R3.out hs2).mono ?_
  rintro e u4 ⟨rfl, hr, hb⟩
  have hn := N3.out.but hb D3.out
  have hz := HZ3.out.but hb D1.out
  have hbb := HB3.out.trans (hb.below L1.out)
  obtain ⟨⟨c0, c1⟩, f0, f1⟩ := hn.cells
  clear hb
  simp only at c0 c1
  have r0 := hr.left
  have r1 := hr.err
  go_upto_region 5 with fail
  have N4 := hide (hn.sv V)
  have HZ4 := hide (hz.away (o := 1) D2.out (.string V))
  have HB4 := hide (hbb.setCell (p := ⟨b4, 1, none⟩) L2.out (.string V))
  have R4 := hide (RdAt.away (o := 1) hr D4.out (.string V))
  clear hn hz hbb hr c0 c1 f0 f1 r0 r1 N3 HZ3 HB3 R3
  generalize u4.setCell ⟨b4, 1, none⟩ (.string V) = W4 at *
  have r0 := R4.out.left
  have r1 := R4.out.err
  have hBi : (32 : Int) ≤ (B.size : Int) := by omega
  go_upto_region 9 with fail
  clear r0 r1
  have r0 := cell_regrown R4.out.left
  have e1 := cell_regrown N4.out.c1
  have rs := sum_q V W4 hvv
  simp only at e1
  generalize dg V = G at *
  refine wp_region_quiet_below (by kernel_rfl) (by kernel_rfl) ?_
  repeat (quiet_step (first | (with_reducible exact rs _ _)))
  refine wpQuiet_nil ?_
  intro _ hw'
  obtain ⟨pq, hw''⟩ := hw'
  subst hw''
  have HQ := hide (HB4.out.trans ((below_regrown W4 pq.d pq.os).mono HB4.out.size))
  have HZ6 := hide (HZ4.out.below (below_regrown W4 pq.d pq.os) HZ4.out.lt)
  have N6 := hide (N4.out.below (below_regrown W4 pq.d pq.os) N4.out.lt)
  have R6 := hide (R4.out.below (below_regrown W4 pq.d pq.os) R4.out.lt)
  clear e1 r0 rs
  generalize Go.Sort.grow (redrawn W4 pq.d) pq.os = WQ at *
  clear HB4 HZ4 N4 R4
  obtain ⟨⟨c0, c1⟩, f0, f1⟩ := HZ6.out.cells
  go_wp2_with fail
  refine bodyPost_ret (res_rnd rfl _ _ w.heap.size Nd.zero rfl (HZ6.out.two Nd.zero)) rfl ⟨rfl, below_two HQ.out (Nat.le_refl _) Nd.zero⟩
end Go.Proofs.YtomcdajoeakhdaaDoor
