/- A part of what the reference's Read answers. -/
import Derived.Test.YtomcdajoeakhdaaDoorNeRd
namespace Go.Proofs.YtomcdajoeakhdaaDoor
open Go.RowKit
set_option linter.unusedVariables false
set_option maxRecDepth 100000 in
set_option maxHeartbeats 8000000 in
theorem rread_C1 (s : ByteArray) (w : World) (hs : s.size ≤ 100000) (K S1 V B : ByteArray) (hK0 : tT s = K) (hS0 : tR s = S1) (hV0 : tT S1 = V) (hB0 : tR S1 = B) (ht0 : tE s = 0) (ht : tE S1 = 0) (hkk : K.size ≤ 100000) (hvv : V.size ≤ 100000) (h32 : B.size < 32) : Calls Tryd.prog 16 #[.string s] w fun r w' => r = .returned (.tuple #[.agg (ncs Nd.zero), .string ByteArray.empty, .int .i64 3]) ∧ Below w.heap.size w w' := by
  replace hs : s.size ≤ 1000000 := by omega
  have hs2 : S1.size ≤ 1000000 := by have := tR_size s; rw [hS0] at this; omega
  have x1 := hide (qtext_ok (s := s))
  have x2 := hide (qtext_ok (s := S1))
  rw [ht0, hK0, hS0] at x1
  rw [ht, hV0, hB0] at x2
  clear hK0 hS0 hV0 hB0 ht0 ht
  have d32 : decide ((B.size : Int) < 32) = true := by simp; omega
  have HB2 : Hid (Below w.heap.size w (((w.alloc (.cells #[.string { data := #[] }, .string { data := #[] }] 23)).alloc (.cells #[.string s, .int .i64 0] 69)).alloc (.cells #[.string { data := #[] }, .string { data := #[] }] 23))) := (((Below.refl _ _).alloc (Nat.le_refl _) _).alloc (by rw [World.size_alloc]; omega) _).alloc (by rw [World.size_alloc, World.size_alloc]; omega) _
  have HZ2 : Hid (NBx w.heap.size 23 Nd.zero (((w.alloc (.cells #[.string { data := #[] }, .string { data := #[] }] 23)).alloc (.cells #[.string s, .int .i64 0] 69)).alloc (.cells #[.string { data := #[] }, .string { data := #[] }] 23))) := (Below.heap_alloc _ _ _ (by rw [World.size_alloc, World.size_alloc]; omega)).trans ((Below.heap_alloc _ _ _ (by rw [World.size_alloc]; omega)).trans (heap_alloc_new w _))
  have R2 : Hid (RdAt (((w.alloc (.cells #[.string { data := #[] }, .string { data := #[] }] 23)).alloc (.cells #[.string s, .int .i64 0] 69)).alloc (.cells #[.string { data := #[] }, .string { data := #[] }] 23)) (w.heap.size + 1) 69 s 0) := by
    have q := heap_alloc_new (w.alloc (.cells #[.string { data := #[] }, .string { data := #[] }] 23)) (.cells #[.string s, .int .i64 0] 69)
    rw [World.size_alloc] at q
    exact (Below.heap_alloc _ _ _ (by rw [World.size_alloc, World.size_alloc]; omega)).trans q
  have N2 : Hid (NBx (w.heap.size + 1 + 1) 23 Nd.zero (((w.alloc (.cells #[.string { data := #[] }, .string { data := #[] }] 23)).alloc (.cells #[.string s, .int .i64 0] 69)).alloc (.cells #[.string { data := #[] }, .string { data := #[] }] 23))) := by
    have q := heap_alloc_new ((w.alloc (.cells #[.string { data := #[] }, .string { data := #[] }] 23)).alloc (.cells #[.string s, .int .i64 0] 69)) (.cells #[.string { data := #[] }, .string { data := #[] }] 23)
    rw [World.size_alloc, World.size_alloc] at q
    exact q
  go_enter Tryd.func16, Tryd.ntmps16
  go_wp2_with fail
  generalize (((w.alloc (.cells #[.string { data := #[] }, .string { data := #[] }] 23)).alloc (.cells #[.string s, .int .i64 0] 69)).alloc (.cells #[.string { data := #[] }, .string { data := #[] }] 23)) = W2 at *
  have L1 : Hid (w.heap.size ≤ w.heap.size + 1) := by show _ ≤ _; omega
  have L2 : Hid (w.heap.size ≤ w.heap.size + 1 + 1) := by show _ ≤ _; omega
  have D1 : Hid (w.heap.size ≠ w.heap.size + 1) := by show _ ≠ _; omega
  have D2 : Hid (w.heap.size ≠ w.heap.size + 1 + 1) := by show _ ≠ _; omega
  have D3 : Hid (w.heap.size + 1 + 1 ≠ w.heap.size + 1) := by show _ ≠ _; omega
  have D4 : Hid (w.heap.size + 1 ≠ w.heap.size + 1 + 1) := by show _ ≠ _; omega
  generalize hb1 : w.heap.size + 1 = b at *
  generalize hb2 : b + 1 = b4 at *
  clear hb1 hb2
  refine (x1.out b W2 R2.out hs).mono ?_
  rintro e u3 ⟨rfl, hr, hb⟩
  have hn := N2.out.but hb D3.out
  have hz := HZ2.out.but hb D1.out
  have hbb := HB2.out.trans (hb.below L1.out)
  obtain ⟨⟨c0, c1⟩, f0, f1⟩ := hn.cells
  clear hb
  go_wp2_with fail
  have N3 := hide (hn.sk K)
  have HZ3 := hide (hz.away (o := 0) D2.out (.string K))
  have HB3 := hide (hbb.setCell (p := ⟨b4, 0, none⟩) L2.out (.string K))
  have R3 := hide (RdAt.away (o := 0) hr D4.out (.string K))
  clear hn hz hbb hr c0 c1 f0 f1 N2 HZ2 HB2 R2 x1
  generalize u3.setCell ⟨b4, 0, none⟩ (.string K) = W3 at *
  refine (x2.out b W3 R3.out hs2).mono ?_
  rintro e u4 ⟨rfl, hr, hb⟩
  have hn := N3.out.but hb D3.out
  have hz := HZ3.out.but hb D1.out
  have hbb := HB3.out.trans (hb.below L1.out)
  obtain ⟨⟨c0, c1⟩, f0, f1⟩ := hn.cells
  clear hb
  simp only at c0 c1
  have r0 := hr.left
  have r1 := hr.err
  go_upto_region 5 with fail
  have N4 := hide (hn.sv V)
  have HZ4 := hide (hz.away (o := 1) D2.out (.string V))
  have HB4 := hide (hbb.setCell (p := ⟨b4, 1, none⟩) L2.out (.string V))
  have R4 := hide (RdAt.away (o := 1) hr D4.out (.string V))
  clear hn hz hbb hr c0 c1 f0 f1 r0 r1 N3 HZ3 HB3 R3
  generalize u4.setCell ⟨b4, 1, none⟩ (.string V) = W4 at *
  have r0 := R4.out.left
  have r1 := R4.out.err
  obtain ⟨⟨c0, c1⟩, f0, f1⟩ := HZ4.out.cells
  go_wp2_with fail
  refine bodyPost_ret (res_rnd rfl _ _ w.heap.size Nd.zero rfl (HZ4.out.two Nd.zero)) rfl ⟨rfl, below_two HB4.out (Nat.le_refl _) Nd.zero⟩
end Go.Proofs.YtomcdajoeakhdaaDoor
