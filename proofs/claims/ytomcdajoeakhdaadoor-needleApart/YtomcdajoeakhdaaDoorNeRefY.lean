/- A part of what the reference's Read answers. A part of what the reference's Read answers. -/
import Derived.Test.YtomcdajoeakhdaaDoorNeRd
namespace Go.Proofs.YtomcdajoeakhdaaDoor
open Go.RowKit
set_option linter.unusedVariables false
set_option maxRecDepth 100000 in
set_option maxHeartbeats 8000000 in
theorem rread_C3 (s : ByteArray) (w : World) (hs : s.size ≤ 100000) (K S1 V B : ByteArray) (hK0 : tT s = K) (hS0 : tR s = S1) (hV0 : tT S1 = V) (hB0 : tR S1 = B) (ht0 : tE s = 0) (ht : tE S1 = 0) (hkk : K.size ≤ 100000) (hvv : V.size ≤ 100000) (h32 : 32 ≤ B.size) (hd : B.extract 0 32 = dg V) (E : Int) (hE0 : ckE ⟨K, V⟩ = E) (hck : E ≠ 0) : Calls Tryd.prog 16 #[.string s] w fun r w' => r = .returned (.tuple #[.agg (ncs Nd.zero), .string ByteArray.empty, .int .i64 E]) ∧ Below w.heap.size w w' := by
  replace hs : s.size ≤ 1000000 := by omega
  have hs2 : S1.size ≤ 1000000 := by have := tR_size s; rw [hS0] at this; omega
  have x1 := hide (qtext_ok (s := s))
  have x2 := hide (qtext_ok (s := S1))
  rw [ht0, hK0, hS0] at x1
  rw [ht, hV0, hB0] at x2
  clear hK0 hS0 hV0 hB0 ht0 ht
  have hq := str_eq hd
  clear hd
  have HCK := hide (fun w => rcheck_any ⟨K, V⟩ w hkk hvv)
  rw [hE0] at HCK
  clear hE0
  have q1 : (E == 0) = false := by simpa using hck
  have q2 : (E != 0) = true := by simpa using hck
  clear hck
  have d32 : decide ((B.size : Int) < 32) = false := by simp; omega
  simp only [ncs] at HCK
  have HB2 : Hid (Below w.heap.size w (((w.alloc (.cells #[.string { data := #[] }, .string { data := #[] }] 23)).alloc (.cells #[.string s, .int .i64 0] 69)).alloc (.cells #[.string { data := #[] }, .string { data := #[] }] 23))) := (((Below.refl _ _).alloc (Nat.le_refl _) _).alloc (by rw [World.size_alloc]; omega) _).alloc (by rw [World.size_alloc, World.size_alloc]; omega) _
  have HZ2 : Hid (NBx w.heap.size 23 Nd.zero (((w.alloc (.cells #[.string { data := #[] }, .string { data := #[] }] 23)).alloc (.cells #[.string s, .int .i64 0] 69)).alloc (.cells #[.string { data := #[] }, .string { data := #[] }] 23))) := (Below.heap_alloc _ _ _ (by rw [World.size_alloc, World.size_alloc]; omega)).trans ((Below.heap_alloc _ _ _ (by rw [World.size_alloc]; omega)).trans (heap_alloc_new w _))
  have R2 : Hid (RdAt (((w.alloc (.cells #[.string { data := #[] }, .string { data := #[] }] 23)).alloc (.cells #[.string s, .int .i64 0] 69)).alloc (.cells #[.string { data := #[] }, .string { data := #[] }] 23)) (w.heap.size + 1) 69 s 0) := by
    have q := heap_alloc_new (w.alloc (.cells #[.string { data := #[] }, .string { data := #[] }] 23)) (.cells #[.string s, .int .i64 0] 69)
    rw [World.size_alloc] at q
    exact (Below.heap_alloc _ _ _ (by rw [World.size_alloc, World.size_alloc]; omega)).trans q
  have N2 : Hid (NBx (w.heap.size + 1 + 1) 23 Nd.zero (((w.alloc (.cells #[.string { data := #[] }, .string { data := #[] }] 23)).alloc (.cells #[.string s, .int .i64 0] 69)).alloc (.cells #[.string { data := #[] }, .string { data := #[] }] 23))) := by
    have q := heap_alloc_new ((w.alloc (.cells #[.string { data := #[] }, .string { data := #[] }] 23)).alloc (.cells #[.string s, .int .i64 0] 69)) (.cells #[.string { data := #[] }, .string { data := #[] }] 23)
    rw [World.size_alloc, World.size_alloc] at q
    exact q
  go_enter Tryd.func16, Tryd.ntmps16
  go_wp2_with fail
  generalize (((w.alloc (.cells #[.string { data := #[] }, .string { data := #[] }] 23)).alloc (.cells #[.string s, .int .i64 0] 69)).alloc (.cells #[.string { data := #[] }, .string { data := #[] }] 23)) = W2 at *
  have L1 : Hid (w.heap.size ≤ w.heap.size + 1) := by show _ ≤ _; omega
  have L2 : Hid (w.heap.size ≤ w.heap.size + 1 + 1) := by show _ ≤ _; omega
  have D1 : Hid (w.heap.size ≠ w.heap.size + 1) := by show _ ≠ _; omega
  have D2 : Hid (w.heap.size ≠ w.heap.size + 1 + 1) := by show _ ≠ _; omega
  have D3 : Hid (w.heap.size + 1 + 1 ≠ w.heap.size + 1) := by show _ ≠ _; omega
  have D4 : Hid (w.heap.size + 1 ≠ w.heap.size + 1 + 1) := by show _ ≠ _; omega
  generalize hb1 : w.heap.size + 1 = b at *
  generalize hb2 : b + 1 = b4 at *
  clear hb1 hb2
  refine (x1.out b W2 R2.out hs).mono ?_
  rintro e u3 ⟨rfl, hr, hb⟩
  have hn := N2.out.but hb D3.out
  have hz := HZ2.out.but hb D1.out
  have hbb := HB2.out.trans (hb.below L1.out)
  obtain ⟨⟨c0, c1⟩, f0, f1⟩ := hn.cells
  clear hb
  go_wp2_with fail
  have N3 := hide (hn.sk K)
  have HZ3 := hide (hz.away (o := 0) D2.out (.string K))
  have HB3 := hide (hbb.setCell (p := ⟨b4, 0, none⟩) L2.out (.string K))
  have R3 := hide (RdAt.away (o := 0) hr D4.out (.string K))
  clear hn hz hbb hr c0 c1 f0 f1 N2 HZ2 HB2 R2 x1
  generalize u3.setCell ⟨b4, 0, none⟩ (.string K) = W3 at *
  refine (x2.out b W3 R3.out hs2).mono ?_
  rintro e u4 ⟨rfl, hr, hb⟩
  have hn := N3.out.but hb D3.out
  have hz := HZ3.out.but hb D1.out
  have hbb := HB3.out.trans (hb.below L1.out)
  obtain ⟨⟨c0, c1⟩, f0, f1⟩ := hn.cells
  clear hb
  simp only at c0 c1
  have r0 := hr.left
  have r1 := hr.err
  go_upto_region 5 with fail
  have N4 := hide (hn.sv V)
  have HZ4 := hide (hz.away (o := 1) D2.out (.string V))
  have HB4 := hide (hbb.setCell (p := ⟨b4, 1, none⟩) L2.out (.string V))
  have R4 := hide (RdAt.away (o := 1) hr D4.out (.string V))
  clear hn hz hbb hr c0 c1 f0 f1 r0 r1 N3 HZ3 HB3 R3
  generalize u4.setCell ⟨b4, 1, none⟩ (.string V) = W4 at *
  have r0 := R4.out.left
  have r1 := R4.out.err
  have hBi : (32 : Int) ≤ (B.size : Int) := by omega
  go_upto_region 9 with fail
  clear r0 r1
  have r0 := cell_regrown R4.out.left
  have e1 := cell_regrown N4.out.c1
  have rs := sum_q V W4 hvv
  simp only at e1
  generalize dg V = G at *
  refine wp_region_quiet_below (by kernel_rfl) (by kernel_rfl) ?_
  repeat (quiet_step (first | (with_reducible exact rs _ _)))
  refine wpQuiet_nil ?_
  intro _ hw'
  obtain ⟨pq, hw''⟩ := hw'
  subst hw''
  have HQ := hide (HB4.out.trans ((below_regrown W4 pq.d pq.os).mono HB4.out.size))
  have HZ6 := hide (HZ4.out.below (below_regrown W4 pq.d pq.os) HZ4.out.lt)
  have N6 := hide (N4.out.below (below_regrown W4 pq.d pq.os) N4.out.lt)
  have R6 := hide (R4.out.below (below_regrown W4 pq.d pq.os) R4.out.lt)
  clear e1 r0 rs
  generalize Go.Sort.grow (redrawn W4 pq.d) pq.os = WQ at *
  clear HB4 HZ4 N4 R4
  obtain ⟨⟨d0, d1⟩, -⟩ := N6.out.cells
  simp only at d0 d1
  go_wp2_with fail
  refine (HCK.out _).mono ?_
  rintro e w7 ⟨rfl, hb⟩
  have HB7 := hide (HQ.out.trans (hb.mono HQ.out.size))
  have HZ7 := hide (HZ6.out.below hb HZ6.out.lt)
  have N7 := hide (N6.out.below hb N6.out.lt)
  have R7 := hide (R6.out.below hb R6.out.lt)
  clear hb HQ HZ6 N6 R6 d0 d1
  obtain ⟨⟨c0, c1⟩, f0, f1⟩ := HZ7.out.cells
  go_wp2_with fail
  refine bodyPost_ret (res_rnd rfl _ _ w.heap.size Nd.zero rfl (HZ7.out.two Nd.zero)) rfl ⟨rfl, below_two HB7.out (Nat.le_refl _) Nd.zero⟩
end Go.Proofs.YtomcdajoeakhdaaDoor
namespace Go.Proofs.YtomcdajoeakhdaaDoor
open Go.RowKit
set_option linter.unusedVariables false
def RS (b b4 : Nat) (B K V : ByteArray) (w : World) : Prop := RdAt w b 69 B 0 ∧ NBx b4 23 ⟨K, V⟩ w
set_option maxRecDepth 100000 in
set_option maxHeartbeats 8000000 in
theorem rread_C4 (s : ByteArray) (w : World) (hs : s.size ≤ 100000) (K S1 V B : ByteArray) (hK0 : tT s = K) (hS0 : tR s = S1) (hV0 : tT S1 = V) (hB0 : tR S1 = B) (ht0 : tE s = 0) (ht : tE S1 = 0) (hkk : K.size ≤ 100000) (hvv : V.size ≤ 100000) (h32 : 32 ≤ B.size) (hd : B.extract 0 32 = dg V) (hck : ckE ⟨K, V⟩ = 0) : Calls Tryd.prog 16 #[.string s] w fun r w' => r = .returned (.tuple #[.agg (ncs ⟨K, V⟩), .string (B.extract 32 B.size), .int .i64 0]) ∧ Below w.heap.size w w' := by
  replace hs : s.size ≤ 1000000 := by omega
  have hs2 : S1.size ≤ 1000000 := by have := tR_size s; rw [hS0] at this; omega
  have x1 := hide (qtext_ok (s := s))
  have x2 := hide (qtext_ok (s := S1))
  rw [ht0, hK0, hS0] at x1
  rw [ht, hV0, hB0] at x2
  clear hK0 hS0 hV0 hB0 ht0 ht
  have hq := str_eq hd
  clear hd
  have HCK := hide (fun w => rcheck_any ⟨K, V⟩ w hkk hvv)
  rw [hck] at HCK
  clear hck
  have d32 : decide ((B.size : Int) < 32) = false := by simp; omega
  simp only [ncs] at HCK
  have HB2 : Hid (Below w.heap.size w (((w.alloc (.cells #[.string { data := #[] }, .string { data := #[] }] 23)).alloc (.cells #[.string s, .int .i64 0] 69)).alloc (.cells #[.string { data := #[] }, .string { data := #[] }] 23))) := (((Below.refl _ _).alloc (Nat.le_refl _) _).alloc (by rw [World.size_alloc]; omega) _).alloc (by rw [World.size_alloc, World.size_alloc]; omega) _
  have HZ2 : Hid (NBx w.heap.size 23 Nd.zero (((w.alloc (.cells #[.string { data := #[] }, .string { data := #[] }] 23)).alloc (.cells #[.string s, .int .i64 0] 69)).alloc (.cells #[.string { data := #[] }, .string { data := #[] }] 23))) := (Below.heap_alloc _ _ _ (by rw [World.size_alloc, World.size_alloc]; omega)).trans ((Below.heap_alloc _ _ _ (by rw [World.size_alloc]; omega)).trans (heap_alloc_new w _))
  have R2 : Hid (RdAt (((w.alloc (.cells #[.string { data := #[] }, .string { data := #[] }] 23)).alloc (.cells #[.string s, .int .i64 0] 69)).alloc (.cells #[.string { data := #[] }, .string { data := #[] }] 23)) (w.heap.size + 1) 69 s 0) := by
    have q := heap_alloc_new (w.alloc (.cells #[.string { data := #[] }, .string { data := #[] }] 23)) (.cells #[.string s, .int .i64 0] 69)
    rw [World.size_alloc] at q
    exact (Below.heap_alloc _ _ _ (by rw [World.size_alloc, World.size_alloc]; omega)).trans q
  have N2 : Hid (NBx (w.heap.size + 1 + 1) 23 Nd.zero (((w.alloc (.cells #[.string { data := #[] }, .string { data := #[] }] 23)).alloc (.cells #[.string s, .int .i64 0] 69)).alloc (.cells #[.string { data := #[] }, .string { data := #[] }] 23))) := by
    have q := heap_alloc_new ((w.alloc (.cells #[.string { data := #[] }, .string { data := #[] }] 23)).alloc (.cells #[.string s, .int .i64 0] 69)) (.cells #[.string { data := #[] }, .string { data := #[] }] 23)
    rw [World.size_alloc, World.size_alloc] at q
    exact q
  go_enter Tryd.func16, Tryd.ntmps16
  go_wp2_with fail
  generalize (((w.alloc (.cells #[.string { data := #[] }, .string { data := #[] }] 23)).alloc (.cells #[.string s, .int .i64 0] 69)).alloc (.cells #[.string { data := #[] }, .string { data := #[] }] 23)) = W2 at *
  have L1 : Hid (w.heap.size ≤ w.heap.size + 1) := by show _ ≤ _; omega
  have L2 : Hid (w.heap.size ≤ w.heap.size + 1 + 1) := by show _ ≤ _; omega
  have D1 : Hid (w.heap.size ≠ w.heap.size + 1) := by show _ ≠ _; omega
  have D2 : Hid (w.heap.size ≠ w.heap.size + 1 + 1) := by show _ ≠ _; omega
  have D3 : Hid (w.heap.size + 1 + 1 ≠ w.heap.size + 1) := by show _ ≠ _; omega
  have D4 : Hid (w.heap.size + 1 ≠ w.heap.size + 1 + 1) := by show _ ≠ _; omega
  generalize hb1 : w.heap.size + 1 = b at *
  generalize hb2 : b + 1 = b4 at *
  clear hb1 hb2
  refine (x1.out b W2 R2.out hs).mono ?_
  rintro e u3 ⟨rfl, hr, hb⟩
  have hn := N2.out.but hb D3.out
  have hz := HZ2.out.but hb D1.out
  have hbb := HB2.out.trans (hb.below L1.out)
  obtain ⟨⟨c0, c1⟩, f0, f1⟩ := hn.cells
  clear hb
  go_wp2_with fail
  have N3 := hide (hn.sk K)
  have HZ3 := hide (hz.away (o := 0) D2.out (.string K))
  have HB3 := hide (hbb.setCell (p := ⟨b4, 0, none⟩) L2.out (.string K))
  have R3 := hide (RdAt.away (o := 0) hr D4.out (.string K))
  clear hn hz hbb hr c0 c1 f0 f1 N2 HZ2 HB2 R2 x1
  generalize u3.setCell ⟨b4, 0, none⟩ (.string K) = W3 at *
  refine (x2.out b W3 R3.out hs2).mono ?_
  rintro e u4 ⟨rfl, hr, hb⟩
  have hn := N3.out.but hb D3.out
  have hz := HZ3.out.but hb D1.out
  have hbb := HB3.out.trans (hb.below L1.out)
  obtain ⟨⟨c0, c1⟩, f0, f1⟩ := hn.cells
  clear hb
  simp only at c0 c1
  have r0 := hr.left
  have r1 := hr.err
  go_upto_region 5 with fail
  have N4 := hide (hn.sv V)
  have HZ4 := hide (hz.away (o := 1) D2.out (.string V))
  have HB4 := hide (hbb.setCell (p := ⟨b4, 1, none⟩) L2.out (.string V))
  have R4 := hide (RdAt.away (o := 1) hr D4.out (.string V))
  clear hn hz hbb hr c0 c1 f0 f1 r0 r1 N3 HZ3 HB3 R3
  generalize u4.setCell ⟨b4, 1, none⟩ (.string V) = W4 at *
  have r0 := R4.out.left
  have r1 := R4.out.err
  have hBi : (32 : Int) ≤ (B.size : Int) := by omega
  go_upto_region 9 with fail
  clear r0 r1
  have r0 := cell_regrown R4.out.left
  have e1 := cell_regrown N4.out.c1
  have rs := sum_q V W4 hvv
  simp only at e1
  generalize dg V = G at *
  refine wp_region_quiet_below (by kernel_rfl) (by kernel_rfl) ?_
  repeat (quiet_step (first | (with_reducible exact rs _ _)))
  refine wpQuiet_nil ?_
  intro _ hw'
  obtain ⟨pq, hw''⟩ := hw'
  subst hw''
  have HQ := hide (HB4.out.trans ((below_regrown W4 pq.d pq.os).mono HB4.out.size))
  have HZ6 := hide (HZ4.out.below (below_regrown W4 pq.d pq.os) HZ4.out.lt)
  have N6 := hide (N4.out.below (below_regrown W4 pq.d pq.os) N4.out.lt)
  have R6 := hide (R4.out.below (below_regrown W4 pq.d pq.os) R4.out.lt)
  clear e1 r0 rs
  generalize Go.Sort.grow (redrawn W4 pq.d) pq.os = WQ at *
  clear HB4 HZ4 N4 R4
  obtain ⟨⟨d0, d1⟩, -⟩ := N6.out.cells
  simp only at d0 d1
  go_wp2_with fail
  refine (HCK.out _).mono ?_
  rintro e w7 ⟨rfl, hb⟩
  have HB7 := hide (HQ.out.trans (hb.mono HQ.out.size))
  have HZ7 := hide (HZ6.out.below hb HZ6.out.lt)
  have N7 := hide (N6.out.below hb N6.out.lt)
  have R7 := hide (R6.out.below hb R6.out.lt)
  clear hb HQ HZ6 N6 R6 d0 d1
  go_upto_region 14 with fail
  refine wp_region_noPanic ?_
  refine wp_region_held_drew (S := RS b b4 B K V) (by kernel_rfl) ⟨R7.out, N7.out⟩ (fun hHeld => ?_)
  refine wpAnyH_take (i := 0) (v := ?v1) rfl (by kernel_rfl) (by kernel_rfl) (by kernel_rfl) (fun _ _ _ h => h) (Or.inl ⟨by rfl, ?hy1⟩) hHeld ?rest1
  case hy1 => (intro w' hSw; have s0 := NBx.c0 hSw.2; have s1 := NBx.c1 hSw.2; have s2 := RdAt.left hSw.1; simp only at s0 s1; go_simp; try with_reducible rfl)
  try simp [Act.put]
  refine wpAnyH_take (i := 1) (v := ?v2) rfl (by kernel_rfl) (by kernel_rfl) (by kernel_rfl) (fun _ _ _ h => h) (Or.inl ⟨by rfl, ?hy2⟩) hHeld ?rest2
  case hy2 => (intro w' hSw; have s0 := NBx.c0 hSw.2; have s1 := NBx.c1 hSw.2; have s2 := RdAt.left hSw.1; simp only at s0 s1; go_simp; try with_reducible rfl)
  try simp [Act.put]
  refine wpAnyH_take (i := 2) (v := ?v3) rfl (by kernel_rfl) (by kernel_rfl) (by kernel_rfl) (fun _ _ _ h => h) (Or.inl ⟨by rfl, ?hy3⟩) hHeld ?rest3
  case hy3 => (intro w' hSw; have s0 := NBx.c0 hSw.2; have s1 := NBx.c1 hSw.2; have s2 := RdAt.left hSw.1; simp only at s0 s1; go_simp; try with_reducible rfl)
  try simp [Act.put]
  refine wpAnyH_take (i := 3) (v := ?v4) rfl (by kernel_rfl) (by kernel_rfl) (by kernel_rfl) (fun _ _ _ h => h) (Or.inl ⟨by rfl, ?hy4⟩) hHeld ?rest4
  case hy4 => (intro w' hSw; have s0 := NBx.c0 hSw.2; have s1 := NBx.c1 hSw.2; have s2 := RdAt.left hSw.1; simp only at s0 s1; go_simp; try with_reducible rfl)
  try simp [Act.put]
  refine wpAnyH_take (i := 4) (v := ?v5) rfl (by kernel_rfl) (by kernel_rfl) (by kernel_rfl) (fun _ _ _ h => h) (Or.inl ⟨by rfl, ?hy5⟩) hHeld ?rest5
  case hy5 => (intro w' hSw; have s0 := NBx.c0 hSw.2; have s1 := NBx.c1 hSw.2; have s2 := RdAt.left hSw.1; simp only at s0 s1; go_simp; try with_reducible rfl)
  try simp [Act.put]
  refine wpAnyH_take (i := 5) (v := ?v6) rfl (by kernel_rfl) (by kernel_rfl) (by kernel_rfl) (fun _ _ _ h => h) (Or.inl ⟨by rfl, ?hy6⟩) hHeld ?rest6
  case hy6 => (intro w' hSw; have s0 := NBx.c0 hSw.2; have s1 := NBx.c1 hSw.2; have s2 := RdAt.left hSw.1; simp only at s0 s1; go_simp; try with_reducible rfl)
  try simp [Act.put]
  refine wpAnyH_ready (rs := [6]) (by kernel_rfl) (by simp) ?_
  refine AllReadyH.cons rfl (fun K0 hK => ?_) AllReadyH.nil
  obtain ⟨⟨c0, c1⟩, f0, f1⟩ := HZ7.out.cells
  go_simp
  have HZ8 : Hid (NBx w.heap.size 23 ⟨K, V⟩ (two w7 w.heap.size ⟨K, V⟩).drew) := HZ7.out.two ⟨K, V⟩
  have HB8 := hide (below_two HB7.out (Nat.le_refl _) ⟨K, V⟩).drew
  have N8 : Hid (RS b b4 B K V (two w7 w.heap.size ⟨K, V⟩).drew) := ⟨RdAt.away (RdAt.away R7.out (Ne.symm D1.out) _) (Ne.symm D1.out) _, N7.out.two_away (Ne.symm D2.out) ⟨K, V⟩⟩
  refine hK.out _ _ N8.out (fun hHeld => ?_)
  clear hK K0 c0 c1 f0 f1
  try simp [Act.put]
  refine wpAnyH_take (i := 7) (v := ?v11) rfl (by kernel_rfl) (by kernel_rfl) (by kernel_rfl) (fun _ _ _ h => h) (Or.inl ⟨by rfl, ?hy11⟩) hHeld ?rest11
  case hy11 => (intro w' hSw; have s0 := NBx.c0 hSw.2; go_simp; try with_reducible rfl)
  try simp [Act.put]
  refine wpAnyH_take (i := 8) (v := ?v12) rfl (by kernel_rfl) (by kernel_rfl) (by kernel_rfl) (fun _ _ _ h => h) (Or.inl ⟨by rfl, ?hy12⟩) hHeld ?rest12
  case hy12 => (intro w' hSw; have s0 := NBx.c0 hSw.2; go_simp; try with_reducible rfl)
  try simp [Act.put]
  refine wpAnyH_done (by kernel_rfl) (NoPanic.normal ?_) _
  go_wp2_with fail
  refine bodyPost_ret (res_rnd rfl _ _ w.heap.size ⟨K, V⟩ rfl HZ8.out) rfl ⟨rfl, HB8.out⟩
end Go.Proofs.YtomcdajoeakhdaaDoor
