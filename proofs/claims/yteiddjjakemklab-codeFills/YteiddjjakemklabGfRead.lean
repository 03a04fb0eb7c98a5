/- What a table's methods answer, the table as New leaves it, and of no table at all. -/
import Derived.Test.YteiddjjakemklabGfNew
import Derived.Deep.QuietTactic
import Derived.BigQuiet
namespace Go.Proofs.Yteiddjjakemklab
open Go.RowKit
theorem tmod_neg {n : Int} (h : n.tmod 255 < 0) : n.tmod 255 + 255 = n % 255 := by
  rw [Int.tmod_eq_emod] at *
  by_cases c : 0 ≤ n ∨ (255 : Int) ∣ n
  · rw [if_pos c] at h; omega
  · rw [if_neg c]; simp
theorem tmod_pos {n : Int} (h : 0 ≤ n.tmod 255) : n.tmod 255 = n % 255 := by
  rw [Int.tmod_eq_emod] at *
  by_cases c : 0 ≤ n ∨ (255 : Int) ∣ n
  · rw [if_pos c]; simp
  · rw [if_neg c] at h; simp at h; omega
set_option maxHeartbeats 400000 in
theorem power_any (b : Nat) (n : Int) (w : World) (ht : TabAt w b) :
    Calls Try.prog 31 #[.pointer (some ⟨b, 0, none⟩), .int .i64 n] w fun e w' => e = .returned (.int .u8 (Gf.pwI n : Nat)) ∧ w = w' := by
  have hc := ht.power (n := (n % 255).toNat) (by omega)
  by_cases hn : n.tmod 255 < 0
  · have e := tmod_neg hn
    go_enter Try.func31, Try.ntmps31
    go_wp2
    go_ret
    exact ⟨rfl, rfl⟩
  · have e := tmod_pos (Int.not_lt.1 hn)
    go_enter Try.func31, Try.ntmps31
    go_wp2
    go_ret
    exact ⟨rfl, rfl⟩
set_option maxHeartbeats 400000 in
theorem power_nil (n : Int) (w : World) :
    Calls Try.prog 31 #[.pointer none, .int .i64 n] w fun e w' => e = .returned (.int .u8 0) ∧ w = w' := by
  go_enter Try.func31, Try.ntmps31
  go_wp2
  go_ret
  exact ⟨rfl, rfl⟩
set_option maxHeartbeats 400000 in
theorem times_nil (a c : Int) (w : World) :
    Calls Try.prog 33 #[.pointer none, .int .u8 a, .int .u8 c] w fun e w' => e = .returned (.int .u8 0) ∧ w = w' := by
  go_enter Try.func33, Try.ntmps33
  go_wp2
  go_ret
  exact ⟨rfl, rfl⟩
set_option maxHeartbeats 400000 in
theorem over_nil (a c : Int) (w : World) :
    Calls Try.prog 21 #[.pointer none, .int .u8 a, .int .u8 c] w fun e w' => e = .returned (.tuple #[.int .u8 0, .int .i64 1]) ∧ w = w' := by
  go_enter Try.func21, Try.ntmps21
  go_wp2
  go_ret2
  exact ⟨rfl, rfl⟩
set_option maxHeartbeats 400000 in
theorem over_zero (b : Nat) (a : Int) (w : World) :
    Calls Try.prog 21 #[.pointer (some ⟨b, 0, none⟩), .int .u8 a, .int .u8 0] w fun e w' => e = .returned (.tuple #[.int .u8 0, .int .i64 1]) ∧ w = w' := by
  go_enter Try.func21, Try.ntmps21
  go_wp2
  go_ret2
  exact ⟨rfl, rfl⟩
set_option maxHeartbeats 400000 in
theorem over_of_zero (b c : Nat) (w : World) (h0 : 0 < c) :
    Calls Try.prog 21 #[.pointer (some ⟨b, 0, none⟩), .int .u8 0, .int .u8 (c : Int)] w fun e w' => e = .returned (.tuple #[.int .u8 0, .int .i64 0]) ∧ w = w' := by
  have hne : ((c : Int) == 0) = false := by simp; omega
  go_enter Try.func21, Try.ntmps21
  go_wp2
  go_ret2
  exact ⟨rfl, rfl⟩
set_option maxHeartbeats 400000 in
theorem times_zero_left (b : Nat) (c : Int) (w : World) :
    Calls Try.prog 33 #[.pointer (some ⟨b, 0, none⟩), .int .u8 0, .int .u8 c] w fun e w' => e = .returned (.int .u8 0) ∧ w = w' := by
  go_enter Try.func33, Try.ntmps33
  go_wp2
  go_ret
  exact ⟨rfl, rfl⟩
set_option maxHeartbeats 400000 in
theorem times_zero_right (b a : Nat) (w : World) (h0 : 0 < a) :
    Calls Try.prog 33 #[.pointer (some ⟨b, 0, none⟩), .int .u8 (a : Int), .int .u8 0] w fun e w' => e = .returned (.int .u8 0) ∧ w = w' := by
  have hne : ((a : Int) == 0) = false := by simp; omega
  go_enter Try.func33, Try.ntmps33
  go_wp2
  go_ret
  exact ⟨rfl, rfl⟩
set_option maxHeartbeats 400000 in
theorem times_pos (b a c : Nat) (w : World) (ht : TabAt w b) (h0 : 0 < a) (h1 : a < 256) (h2 : 0 < c) (h3 : c < 256) :
    Calls Try.prog 33 #[.pointer (some ⟨b, 0, none⟩), .int .u8 (a : Int), .int .u8 (c : Int)] w
      fun e w' => e = .returned (.int .u8 (Gf.pwI ((Gf.lg a : Int) + (Gf.lg c : Int)) : Nat)) ∧ ∃ n, w' = w.drewN n := by
  have hc := ht.which h1
  have hc' := ht.which h3
  have hl := Gf.lg_lt h0 h1
  have hl' := Gf.lg_lt h2 h3
  have hne : ((a : Int) == 0) = false := by simp; omega
  have hne' : ((c : Int) == 0) = false := by simp; omega
  have HT := hide ht
  clear ht
  go_enter Try.func33, Try.ntmps33
  go_wp2
  go_quiet ((go_at_call 31; exact Calls.quiet_of_same ((power_any _ _ _ (HT.out.drewN _)).mono fun _ _ h => ⟨h.1, h.2.symm⟩)))
  go_wp2
  go_ret
  exact ⟨rfl, _, rfl⟩
set_option maxHeartbeats 400000 in
theorem over_pos (b a c : Nat) (w : World) (ht : TabAt w b) (h0 : 0 < a) (h1 : a < 256) (h2 : 0 < c) (h3 : c < 256) :
    Calls Try.prog 21 #[.pointer (some ⟨b, 0, none⟩), .int .u8 (a : Int), .int .u8 (c : Int)] w
      fun e w' => e = .returned (.tuple #[.int .u8 (Gf.pwI ((Gf.lg a : Int) - (Gf.lg c : Int)) : Nat), .int .i64 0]) ∧ ∃ n, w' = w.drewN n := by
  have hc := ht.which h1
  have hc' := ht.which h3
  have hl := Gf.lg_lt h0 h1
  have hl' := Gf.lg_lt h2 h3
  have hne : ((a : Int) == 0) = false := by simp; omega
  have hne' : ((c : Int) == 0) = false := by simp; omega
  have HT := hide ht
  clear ht
  go_enter Try.func21, Try.ntmps21
  go_wp2
  go_quiet ((go_at_call 31; exact Calls.quiet_of_same ((power_any _ _ _ (HT.out.drewN _)).mono fun _ _ h => ⟨h.1, h.2.symm⟩)))
  go_wp2
  go_ret2
  exact ⟨rfl, _, rfl⟩
theorem drewN_zero (w : World) : w = w.drewN 0 := rfl
/-- the product of any two numbers -/
theorem times_any (b a c : Nat) (w : World) (ht : TabAt w b) (h1 : a < 256) (h3 : c < 256) :
    Calls Try.prog 33 #[.pointer (some ⟨b, 0, none⟩), .int .u8 (a : Int), .int .u8 (c : Int)] w
      fun e w' => e = .returned (.int .u8 (Gf.mul a c : Nat)) ∧ ∃ n, w' = w.drewN n := by
  rcases Nat.eq_zero_or_pos a with rfl | h0
  · exact (times_zero_left b c w).mono fun _ _ h => ⟨by rw [Gf.zero_mul]; exact h.1, 0, h.2.symm⟩
  rcases Nat.eq_zero_or_pos c with rfl | h2
  · exact (times_zero_right b a w h0).mono fun _ _ h => ⟨by rw [Gf.mul_zero]; exact h.1, 0, h.2.symm⟩
  · exact (times_pos b a c w ht h0 h1 h2 h3).mono fun _ _ h => ⟨by rw [Gf.mul_of h0 h2]; exact h.1, h.2⟩
/-- what any number is over any other than 0 -/
theorem over_any (b a c : Nat) (w : World) (ht : TabAt w b) (h1 : a < 256) (h2 : 0 < c) (h3 : c < 256) :
    Calls Try.prog 21 #[.pointer (some ⟨b, 0, none⟩), .int .u8 (a : Int), .int .u8 (c : Int)] w
      fun e w' => e = .returned (.tuple #[.int .u8 (Gf.over a c : Nat), .int .i64 0]) ∧ ∃ n, w' = w.drewN n := by
  rcases Nat.eq_zero_or_pos a with rfl | h0
  · exact (over_of_zero b c w h2).mono fun _ _ h => ⟨h.1, 0, h.2.symm⟩
  · exact (over_pos b a c w ht h0 h1 h2 h3).mono fun _ _ h => ⟨by unfold Gf.over; rw [if_neg (by omega)]; exact h.1, h.2⟩
end Go.Proofs.Yteiddjjakemklab
