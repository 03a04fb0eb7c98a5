/- live() of the field's laws answers true, and leaves all memory that there was. -/
import Derived.Test.YteiddjjakemklaaGfRead
namespace Go.Proofs.Yteiddjjakemklaa
open Go.RowKit
theorem which_29 (b : Nat) (w : World) (ht : TabAt w b) :
    Calls Try.prog 16 #[.pointer (some ⟨b, 0, none⟩), .int .u8 29] w fun e w' => e = .returned (.tuple #[.int .i64 8, .int .i64 0]) ∧ w = w' := by
  have h := which_any b 29 w ht (by decide) (by decide)
  rw [show Gf.lg 29 = 8 from by decide +kernel] at h; exact h
theorem over_12 (b : Nat) (w : World) (ht : TabAt w b) :
    Calls Try.prog 11 #[.pointer (some ⟨b, 0, none⟩), .int .u8 1, .int .u8 2] w fun e w' => e = .returned (.tuple #[.int .u8 142, .int .i64 0]) ∧ ∃ n, w' = w.drewN n := by
  have h := over_any b 1 2 w ht (by decide) (by decide) (by decide)
  rw [show Gf.over 1 2 = 142 from by decide +kernel] at h; exact h
theorem times_16 (b : Nat) (w : World) (ht : TabAt w b) :
    Calls Try.prog 13 #[.pointer (some ⟨b, 0, none⟩), .int .u8 16, .int .u8 16] w fun e w' => e = .returned (.int .u8 29) ∧ ∃ n, w' = w.drewN n := by
  have h := times_any b 16 16 w ht (by decide) (by decide)
  rw [show Gf.mul 16 16 = 29 from by decide +kernel] at h; exact h
theorem power_255 (b : Nat) (w : World) (ht : TabAt w b) :
    Calls Try.prog 18 #[.pointer (some ⟨b, 0, none⟩), .int .i64 255] w fun e w' => e = .returned (.int .u8 1) ∧ w = w' := by
  have h := power_any b 255 w ht
  rw [show Gf.pwI 255 = 1 from by decide +kernel] at h; exact h
theorem power_m1 (b : Nat) (w : World) (ht : TabAt w b) :
    Calls Try.prog 18 #[.pointer (some ⟨b, 0, none⟩), .int .i64 (-1)] w fun e w' => e = .returned (.int .u8 142) ∧ w = w' := by
  have h := power_any b (-1) w ht
  rw [show Gf.pwI (-1) = 142 from by decide +kernel] at h; exact h
theorem below_drewN {B : Nat} {a w : World} (h : Below B a w) (n : Nat) : Below B a (w.drewN n) := ⟨h.os, h.tape, h.output, h.size, h.block⟩
set_option maxRecDepth 100000 in
set_option maxHeartbeats 1000000 in
theorem live_any (w : World) :
    Calls Try.prog 15 #[] w fun e w' => e = .returned (.bool true) ∧ Below w.heap.size w w' := by
  go_enter Try.func15, Try.ntmps15
  go_wp2_with fail
  refine (new_any _).mono ?_
  rintro e w1 ⟨rfl, ht, hb⟩
  go_wp2_with fail
  refine (which_29 _ _ ht).mono ?_
  rintro e w2 ⟨rfl, rfl⟩
  go_wp2_with fail
  refine (which_zero _ _).mono ?_
  rintro e w2 ⟨rfl, rfl⟩
  go_wp2_with fail
  refine (over_12 _ _ ht).mono ?_
  rintro e w2 ⟨rfl, n2, rfl⟩
  go_wp2_with fail
  refine (over_zero _ _ _).mono ?_
  rintro e w2 ⟨rfl, rfl⟩
  go_wp2_with fail
  refine (times_16 _ _ (ht.drewN _)).mono ?_
  rintro e w2 ⟨rfl, n3, rfl⟩
  go_wp2_with fail
  refine (power_255 _ _ (ht.drewN _)).mono ?_
  rintro e w2 ⟨rfl, rfl⟩
  go_wp2_with fail
  refine (power_m1 _ _ (ht.drewN _)).mono ?_
  rintro e w2 ⟨rfl, rfl⟩
  go_wp2_with fail
  go_ret
  exact ⟨rfl, below_drewN hb _⟩
end Go.Proofs.Yteiddjjakemklaa
