/- A part of what needle.Read answers. -/
import Derived.Test.YtomcdajoeakhdaaDoorNeRd
namespace Go.Proofs.YtomcdajoeakhdaaDoor
open Go.RowKit
set_option linter.unusedVariables false
set_option maxRecDepth 100000 in
set_option maxHeartbeats 8000000 in
theorem nread_A (s : ByteArray) (w : World) (hs : s.size ≤ 100000) (ht : tE s ≠ 0) : Calls Tryd.prog 15 #[.string s] w fun r w' => r = .returned (.tuple #[.agg (ncs Nd.zero), .string ByteArray.empty, .int .i64 ((tE s : Nat) : Int)]) ∧ Below w.heap.size w w' := by
  replace hs : s.size ≤ 1000000 := by omega
  have hs2 : (tR s).size ≤ 1000000 := by have := tR_size s; omega
  have x1 := hide (rtext_ok (s := s))
  have x2 := hide (rtext_ok (s := tR s))
  have HZ := hide (nbx_new 28 Nd.zero w)
  have HA : Hid (Below w.heap.size w (w.alloc (.cells (ncs Nd.zero) 28))) := (Below.refl _ _).alloc (Nat.le_refl _) _
  rw [tT_err ht, tR_err ht] at x1
  clear x2 hs2
  have q1 : (((tE s : Nat) : Int) == 0) = false := by simp; omega
  have q2 : (((tE s : Nat) : Int) != 0) = true := by simp; omega
  generalize tE s = E at *
  simp only [ncs, Nd.zero] at HA ⊢
  go_enter Tryd.func15, Tryd.ntmps15
  go_wp2_with fail
  refine (read_any s _).mono ?_
  rintro e w1 ⟨b, rfl, hb, hsz, hrd, hbl⟩
  have HB1 := hide (HA.out.trans (hbl.mono HA.out.size))
  have HZ1 := hide (HZ.out.below hbl HZ.out.lt)
  have HNE : Hid (w.heap.size ≠ b) := by show _ ≠ _; rw [hb, World.size_alloc]; omega
  have HLB : Hid (w.heap.size ≤ b) := by show _ ≤ _; rw [hb, World.size_alloc]; omega
  have R1 := hide hrd
  clear hb hsz hrd hbl HA HZ
  go_wp2_with fail
  refine (x1.out b w1 R1.out hs).mono ?_
  rintro e w2 ⟨rfl, hr2, hb2⟩
  have R2 := hide hr2
  have HB2 := hide (HB1.out.trans (hb2.below HLB.out))
  have HZ2 := hide (HZ1.out.but hb2 HNE.out)
  clear hr2 hb2 HB1 HZ1 R1
  go_wp2_with fail
  refine (rtext_err b _ _ w2 R2.out ht).mono ?_
  rintro e w3 ⟨rfl, rfl⟩
  have R3 := R2
  have HB3 := HB2
  have HZ3 := HZ2
  clear HB2 HZ2 R2
  have hal : Below w2.heap.size w2 (w2.alloc (.cells #[.string ByteArray.empty, .string ByteArray.empty] 28)) := (Below.refl _ _).alloc (Nat.le_refl _) _
  have HB4 := hide (HB3.out.trans (hal.mono HB3.out.size))
  have HZ4 := hide (HZ3.out.below hal HZ3.out.lt)
  have R4 := hide (R3.out.below hal R3.out.lt)
  have N4 : Hid (NBx w2.heap.size 28 ⟨ByteArray.empty, ByteArray.empty⟩ (w2.alloc (.cells #[.string ByteArray.empty, .string ByteArray.empty] 28))) := nbx_new 28 ⟨ByteArray.empty, ByteArray.empty⟩ w2
  have HN4 : Hid (w2.heap.size ≠ b) := by show _ ≠ _; have := R3.out.lt; omega
  have HN5 : Hid (w2.heap.size ≠ w.heap.size) := by show _ ≠ _; have := HZ3.out.lt; omega
  clear hal HB3 HZ3 R3
  go_wp2_with fail
  generalize w2.alloc (.cells #[.string ByteArray.empty, .string ByteArray.empty] 28) = W4 at *
  generalize w2.heap.size = b4 at *
  refine (rrest_err b _ _ W4 R4.out ht).mono ?_
  rintro e w5 ⟨rfl, rfl⟩
  go_wp2_with fail
  refine (rend_err b _ _ W4 R4.out ht).mono ?_
  rintro e w5 ⟨rfl, rfl⟩
  obtain ⟨⟨c0, c1⟩, f0, f1⟩ := HZ4.out.cells
  go_wp2_with fail
  refine bodyPost_ret (res_nd rfl _ _ w.heap.size Nd.zero rfl (HZ4.out.two Nd.zero)) rfl ⟨rfl, below_two HB4.out (Nat.le_refl _) Nd.zero⟩
end Go.Proofs.YtomcdajoeakhdaaDoor
