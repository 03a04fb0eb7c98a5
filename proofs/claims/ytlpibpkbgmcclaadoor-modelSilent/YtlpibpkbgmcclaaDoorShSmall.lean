/- What the small functions of package digest answer: rot, turned, shifted, choice, majority. -/
import Derived.Test.YtlpibpkbgmcclaaDoorBaseX
import Derived.Test.YtlpibpkbgmcclaaDoorShRef
namespace Go.Proofs.YtlpibpkbgmcclaaDoor
open Go.RowKit
theorem neg_and {n m : Nat} (h0 : 0 < n) (hm : m + n = 32) : bits .and .u64 (IntKind.u64.wrap (-(n : Int))) 31 = (m : Int) := by
  have hw : IntKind.u64.wrap (-(n : Int)) = (-(n : Int)) % 18446744073709551616 := by simp [IntKind.wrap, IntKind.bits, IntKind.signed]
  rw [hw, show (-(n : Int)) % 18446744073709551616 = ((18446744073709551616 - n : Nat) : Int) by omega, show (31 : Int) = ((31 : Nat) : Int) from rfl, u64_and_nat _ _ (by omega) (by omega), nat_mask5]
  omega
theorem rotL_int {x n : Nat} (hx : x < 4294967296) : bits .or .u32 ((x : Int) * 2 ^ (32 - n) % 4294967296) ((x : Int) / 2 ^ n) = ((Sh.rot x n : Nat) : Int) := by
  have e1 : (x : Int) / 2 ^ n = ((x >>> n : Nat) : Int) := by rw [Nat.shiftRight_eq_div_pow]; simp
  have e2 : (x : Int) * 2 ^ (32 - n) % 4294967296 = (((x <<< (32 - n)) % Sh.M : Nat) : Int) := by rw [Nat.shiftLeft_eq]; unfold Sh.M; simp
  rw [e1, e2, u32_or_nat _ _ (show x <<< (32 - n) % Sh.M < 4294967296 from Nat.mod_lt _ (by decide)) (Nat.lt_of_le_of_lt (Nat.shiftRight_le x n) hx), Nat.or_comm]
  rfl
set_option maxRecDepth 100000 in
set_option maxHeartbeats 1000000 in
theorem rotL_any (x n : Nat) (w : World) (hx : x < 4294967296) (h0 : 0 < n) (hn : n < 32) :
    Calls Tryd.prog 90 #[.int .u32 (x : Int), .int .i64 (-(n : Int))] w fun e w' => e = .returned (.int .u32 (Sh.rot x n : Nat)) ∧ w = w' := by
  obtain ⟨m, hm⟩ : ∃ m, m + n = 32 := ⟨32 - n, by omega⟩
  have ha := neg_and h0 hm
  have hm2 : m < 32 := by omega
  go_enter Tryd.func90, Tryd.ntmps90
  go_wp2_with fail
  go_ret
  refine ⟨ret_int ?_, rfl⟩
  have := rotL_int (n := n) hx
  rw [show 32 - n = m by omega] at this
  rw [show n = 32 - m by omega] at this ⊢
  exact this
set_option maxRecDepth 100000 in
set_option maxHeartbeats 1000000 in
theorem rot_any (x n : Nat) (w : World) (hx : x < 4294967296) (h0 : 0 < n) (hn : n < 32) :
    Calls Tryd.prog 87 #[.int .u32 (x : Int), .int .i64 (n : Int)] w fun e w' => e = .returned (.int .u32 (Sh.rot x n : Nat)) ∧ w = w' := by
  go_enter Tryd.func87, Tryd.ntmps87
  go_wp2_with fail
  refine (rotL_any x n w hx h0 hn).mono ?_
  rintro e w1 ⟨rfl, rfl⟩
  go_wp2_with fail
  go_ret
  exact ⟨rfl, rfl⟩
theorem xor3_int {a b c : Nat} (ha : a < 4294967296) (hb : b < 4294967296) (hc : c < 4294967296) : bits .xor .u32 (bits .xor .u32 (a : Int) (b : Int)) (c : Int) = ((a ^^^ b ^^^ c : Nat) : Int) := by
  rw [u32_xor_nat _ _ ha hb, u32_xor_nat _ _ (Nat.xor_lt_two_pow (n := 32) ha hb) hc]
set_option maxRecDepth 100000 in
set_option maxHeartbeats 1000000 in
theorem turned_any (x i j k : Nat) (w : World) (hx : x < 4294967296) (hi : 0 < i ∧ i < 32) (hj : 0 < j ∧ j < 32) (hk : 0 < k ∧ k < 32) :
    Calls Tryd.prog 78 #[.int .u32 (x : Int), .int .i64 (i : Int), .int .i64 (j : Int), .int .i64 (k : Int)] w fun e w' => e = .returned (.int .u32 (Sh.rot x i ^^^ Sh.rot x j ^^^ Sh.rot x k : Nat)) ∧ w = w' := by
  go_enter Tryd.func78, Tryd.ntmps78
  go_wp2_with fail
  refine (rot_any x i w hx hi.1 hi.2).mono ?_
  rintro e w1 ⟨rfl, rfl⟩
  go_wp2_with fail
  refine (rot_any x j w hx hj.1 hj.2).mono ?_
  rintro e w1 ⟨rfl, rfl⟩
  go_wp2_with fail
  refine (rot_any x k w hx hk.1 hk.2).mono ?_
  rintro e w1 ⟨rfl, rfl⟩
  go_wp2_with fail
  go_ret
  exact ⟨ret_int (xor3_int (Sh.rot_lt hx) (Sh.rot_lt hx) (Sh.rot_lt hx)), rfl⟩
theorem shr_int (x k : Nat) : (x : Int) / 2 ^ k = ((x >>> k : Nat) : Int) := by rw [Nat.shiftRight_eq_div_pow]; simp
set_option maxRecDepth 100000 in
set_option maxHeartbeats 1000000 in
theorem shifted_any (x i j k : Nat) (w : World) (hx : x < 4294967296) (hi : 0 < i ∧ i < 32) (hj : 0 < j ∧ j < 32) (hk : k < 32) :
    Calls Tryd.prog 86 #[.int .u32 (x : Int), .int .i64 (i : Int), .int .i64 (j : Int), .int .i64 (k : Int)] w fun e w' => e = .returned (.int .u32 (Sh.rot x i ^^^ Sh.rot x j ^^^ x >>> k : Nat)) ∧ ∃ n, w' = w.drewN n := by
  go_enter Tryd.func86, Tryd.ntmps86
  go_wp2_with fail
  go_quiet (first | (go_at_call 87; exact Calls.quiet_of_same ((rot_any x i _ hx hi.1 hi.2).mono fun _ _ h => ⟨h.1, h.2.symm⟩)) | (go_at_call 87; exact Calls.quiet_of_same ((rot_any x j _ hx hj.1 hj.2).mono fun _ _ h => ⟨h.1, h.2.symm⟩)))
  go_wp2_with fail
  go_ret
  refine ⟨ret_int ?_, nq, rfl⟩
  rw [shr_int]
  exact xor3_int (Sh.rot_lt hx) (Sh.rot_lt hx) (Nat.lt_of_le_of_lt (Nat.shiftRight_le x k) hx)
theorem shifted_s0 (x : Nat) (w : World) (hx : x < 4294967296) :
    Calls Tryd.prog 86 #[.int .u32 (x : Int), .int .i64 7, .int .i64 18, .int .i64 3] w fun e w' => e = .returned (.int .u32 (Sh.s0 x : Nat)) ∧ ∃ n, w' = w.drewN n :=
  shifted_any x 7 18 3 w hx (by decide) (by decide) (by decide)
theorem shifted_s1 (x : Nat) (w : World) (hx : x < 4294967296) :
    Calls Tryd.prog 86 #[.int .u32 (x : Int), .int .i64 17, .int .i64 19, .int .i64 10] w fun e w' => e = .returned (.int .u32 (Sh.s1 x : Nat)) ∧ ∃ n, w' = w.drewN n :=
  shifted_any x 17 19 10 w hx (by decide) (by decide) (by decide)
theorem turned_S0 (x : Nat) (w : World) (hx : x < 4294967296) :
    Calls Tryd.prog 78 #[.int .u32 (x : Int), .int .i64 2, .int .i64 13, .int .i64 22] w fun e w' => e = .returned (.int .u32 (Sh.S0 x : Nat)) ∧ w = w' :=
  turned_any x 2 13 22 w hx (by decide) (by decide) (by decide)
theorem turned_S1 (x : Nat) (w : World) (hx : x < 4294967296) :
    Calls Tryd.prog 78 #[.int .u32 (x : Int), .int .i64 6, .int .i64 11, .int .i64 25] w fun e w' => e = .returned (.int .u32 (Sh.S1 x : Nat)) ∧ w = w' :=
  turned_any x 6 11 25 w hx (by decide) (by decide) (by decide)
theorem not_int {x : Nat} (hx : x < 4294967296) : bits .xor .u32 IntKind.u32.max (x : Int) = ((Sh.M - 1 - x : Nat) : Int) := by
  rw [show IntKind.u32.max = ((4294967295 : Nat) : Int) from rfl, u32_xor_nat _ _ (by omega) hx]
  congr 1
  apply Nat.eq_of_testBit_eq
  intro i
  have h1 := Nat.testBit_two_pow_sub_one 32 i
  have h2 := Nat.testBit_two_pow_sub_succ (n := 32) (x := x) hx i
  rw [show (4294967295 : Nat) = 2 ^ 32 - 1 from rfl, Nat.testBit_xor, h1, show Sh.M - 1 - x = 2 ^ 32 - (x + 1) by unfold Sh.M; omega, h2]
  by_cases c : i < 32
  · simp [c]
  · simp [c, Nat.testBit_lt_two_pow (Nat.lt_of_lt_of_le hx (Nat.pow_le_pow_right (n := 2) (by decide) (show 32 ≤ i by omega)))]
set_option maxRecDepth 100000 in
set_option maxHeartbeats 1000000 in
theorem choice_any (x y z : Nat) (w : World) (hx : x < 4294967296) (hy : y < 4294967296) (hz : z < 4294967296) :
    Calls Tryd.prog 79 #[.int .u32 (x : Int), .int .u32 (y : Int), .int .u32 (z : Int)] w fun e w' => e = .returned (.int .u32 (Sh.ch x y z : Nat)) ∧ w = w' := by
  go_enter Tryd.func79, Tryd.ntmps79
  go_wp2_with fail
  go_ret
  refine ⟨ret_int ?_, rfl⟩
  have h1 : Sh.M - 1 - x < 4294967296 := by unfold Sh.M; omega
  rw [not_int hx, u32_and_nat _ _ hx hy, u32_and_nat _ _ h1 hz, u32_xor_nat _ _ (Nat.and_lt_two_pow (n := 32) _ hy) (Nat.and_lt_two_pow (n := 32) _ hz)]
  rfl
set_option maxRecDepth 100000 in
set_option maxHeartbeats 1000000 in
theorem majority_any (x y z : Nat) (w : World) (hx : x < 4294967296) (hy : y < 4294967296) (hz : z < 4294967296) :
    Calls Tryd.prog 80 #[.int .u32 (x : Int), .int .u32 (y : Int), .int .u32 (z : Int)] w fun e w' => e = .returned (.int .u32 (Sh.mj x y z : Nat)) ∧ w = w' := by
  go_enter Tryd.func80, Tryd.ntmps80
  go_wp2_with fail
  go_ret
  refine ⟨ret_int ?_, rfl⟩
  rw [u32_and_nat _ _ hx hy, u32_and_nat _ _ hx hz, u32_and_nat _ _ hy hz]
  exact xor3_int (Nat.and_lt_two_pow (n := 32) _ hy) (Nat.and_lt_two_pow (n := 32) _ hz) (Nat.and_lt_two_pow (n := 32) _ hz)
end Go.Proofs.YtlpibpkbgmcclaaDoor
