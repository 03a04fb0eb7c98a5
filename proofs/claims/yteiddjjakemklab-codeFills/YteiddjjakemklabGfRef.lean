/- What the document's answers (package sluicegateref01) come to. -/
import Derived.Test.YteiddjjakemklabGfNew
import Derived.Laws.BitsAllLaws
namespace Go.Proofs.Yteiddjjakemklab
open Go.RowKit
theorem bit_int (b k : Nat) : ((b : Int) / 2 ^ k).tmod 2 = (((b >>> k) % 2 : Nat) : Int) := by
  have e : (b : Int) / 2 ^ k = ((b / 2 ^ k : Nat) : Int) := by simp
  rw [e, Nat.shiftRight_eq_div_pow]
  generalize b / 2 ^ k = x
  rw [Int.tmod_eq_emod_of_nonneg (by omega)]
  omega
theorem shl_int {a k : Nat} (ha : a < 512) (hk : k < 15) : wrap64 ((a : Int) * 2 ^ k) = ((a <<< k : Nat) : Int) ∧ a <<< k < 16777216 := by
  have hp : (2 : Nat) ^ k ≤ 2 ^ 14 := Nat.pow_le_pow_right (by decide) (by omega)
  have hm : a * 2 ^ k ≤ 512 * 2 ^ 14 := Nat.mul_le_mul (by omega) hp
  have e : (a : Int) * 2 ^ k = ((a * 2 ^ k : Nat) : Int) := by simp
  rw [e, Nat.shiftLeft_eq]
  refine ⟨?_, by omega⟩
  unfold wrap64
  omega
theorem refA_bd {a b : Nat} (ha : a < 256) : ∀ k, k ≤ 8 → Gf.refA a b k < 16777216 := by
  intro k
  induction k with
  | zero => intro _; show 0 < 16777216; decide
  | succ k ih =>
    intro hk
    rw [Gf.refA_form]
    refine Nat.xor_lt_two_pow (n := 24) (ih (by omega)) ?_
    split
    · exact (shl_int (by omega) (by omega)).2
    · decide
theorem refB_bd {p : Nat} (hp : p < 16777216) : ∀ k, k ≤ 7 → Gf.refB p k < 16777216 := by
  intro k
  induction k with
  | zero => intro _; exact hp
  | succ k ih =>
    intro hk
    rw [Gf.refB_form]
    refine Nat.xor_lt_two_pow (n := 24) (ih (by omega)) ?_
    split
    · exact (shl_int (a := 285) (by omega) (by omega)).2
    · decide
theorem stepA_yes {a b k : Nat} (ha : a < 256) (hk : k < 8) (h : (((b : Int) / 2 ^ k).tmod 2 == 1) = true) :
    bits .xor .i64 (Gf.refA a b k : Nat) (wrap64 ((a : Int) * 2 ^ k)) = ((Gf.refA a b (k + 1) : Nat) : Int) := by
  rw [bit_int] at h
  have h' : (b >>> k) % 2 = 1 := by have := beq_iff_eq.1 h; omega
  obtain ⟨e, l⟩ := shl_int (a := a) (k := k) (by omega) (by omega)
  rw [e, i64_xor_nat _ _ (by have := refA_bd (b := b) ha k (by omega); omega) (by omega), Gf.refA, if_pos h']
theorem stepA_no {a b k : Nat} (h : (((b : Int) / 2 ^ k).tmod 2 == 1) = false) : ((Gf.refA a b k : Nat) : Int) = ((Gf.refA a b (k + 1) : Nat) : Int) := by
  rw [bit_int] at h
  have h' : ¬ (b >>> k) % 2 = 1 := by have := beq_eq_false_iff_ne.1 h; omega
  rw [Gf.refA, if_neg h']
theorem stepB_yes {p m : Nat} (hp : p < 16777216) (h8 : 8 ≤ m) (h14 : m ≤ 14) (h : (((Gf.refB p (14 - m) : Nat) / 2 ^ m : Int).tmod 2 == 1) = true) :
    bits .xor .i64 (Gf.refB p (14 - m) : Nat) (wrap64 (285 * 2 ^ (m - 8))) = ((Gf.refB p (14 - (m - 1)) : Nat) : Int) := by
  rw [bit_int] at h
  have h' : (Gf.refB p (14 - m) >>> m) % 2 = 1 := by have := beq_iff_eq.1 h; omega
  obtain ⟨e, l⟩ := shl_int (a := 285) (k := m - 8) (by omega) (by omega)
  rw [show (285 : Int) = ((285 : Nat) : Int) from rfl, e, i64_xor_nat _ _ (by have := refB_bd hp (14 - m) (by omega); omega) (by omega), show 14 - (m - 1) = (14 - m) + 1 from by omega, Gf.refB,
    show 14 - (14 - m) = m from by omega, if_pos h', show 6 - (14 - m) = m - 8 from by omega]
theorem stepB_no {p m : Nat} (h8 : 8 ≤ m) (h14 : m ≤ 14) (h : (((Gf.refB p (14 - m) : Nat) / 2 ^ m : Int).tmod 2 == 1) = false) :
    ((Gf.refB p (14 - m) : Nat) : Int) = ((Gf.refB p (14 - (m - 1)) : Nat) : Int) := by
  rw [bit_int] at h
  have h' : ¬ (Gf.refB p (14 - m) >>> m) % 2 = 1 := by have := beq_eq_false_iff_ne.1 h; omega
  rw [show 14 - (m - 1) = (14 - m) + 1 from by omega, Gf.refB, show 14 - (14 - m) = m from by omega, if_neg h']
set_option maxRecDepth 100000 in
set_option maxHeartbeats 1000000 in
theorem refTimes_any (a b : Nat) (w : World) (ha : a < 256) (hb : b < 256) :
    Calls Try.prog 32 #[.int .u8 (a : Int), .int .u8 (b : Int)] w fun e w' => e = .returned (.int .u8 (Gf.mul a b : Nat)) ∧ w = w' := by
  go_enter Try.func32, Try.ntmps32
  go_wp2
  go_loop [5, 6] (fun p i => ∃ k : Nat, k ≤ 8 ∧ i = .int .i64 k ∧ p = .int .i64 (Gf.refA a b k : Nat)) (fun _ i => 8 - (intOf i).toNat)
  case atStart => exact ⟨0, Nat.zero_le _, rfl, rfl⟩
  case round =>
    obtain ⟨k, hk, rfl, rfl⟩ := hrel
    by_cases hlt : k < 8
    · go_wp2_with fail
      · go_round
        case rel => exact ⟨k + 1, by omega, by go_num, congrArg (Value.int IntKind.i64) (stepA_yes ha hlt (by assumption))⟩
        case measure => simp [intOf]; omega
      · go_round
        case rel => exact ⟨k + 1, by omega, by go_num, congrArg (Value.int IntKind.i64) (stepA_no (by assumption))⟩
        case measure => simp [intOf]; omega
    · obtain rfl : k = 8 := by omega
      have hp := refA_bd (b := b) ha 8 (by omega)
      have HF := hide (Gf.refT_eq ha hb)
      generalize hq : Gf.refA a b 8 = p at *
      have HQ := hide hq
      clear hq hlt hk
      go_wp2_with fail
      go_loop [5, 7] (fun x i => ∃ m : Nat, 7 ≤ m ∧ m ≤ 14 ∧ i = .int .i64 m ∧ x = .int .i64 (Gf.refB p (14 - m) : Nat)) (fun _ i => (intOf i).toNat)
      case atStart => exact ⟨14, by omega, by omega, rfl, rfl⟩
      case round =>
        obtain ⟨m, h7, h14, rfl, rfl⟩ := hrel
        by_cases h8 : 8 ≤ m
        · go_wp2_with fail
          · go_round
            case rel => exact ⟨m - 1, by omega, by omega, by go_num, congrArg (Value.int IntKind.i64) (stepB_yes hp h8 h14 (by assumption))⟩
            case measure => simp [intOf]; omega
          · go_round
            case rel => exact ⟨m - 1, by omega, by omega, by go_num, congrArg (Value.int IntKind.i64) (stepB_no h8 h14 (by assumption))⟩
            case measure => simp [intOf]; omega
        · obtain rfl : m = 7 := by omega
          go_wp2_with fail
          go_ret
          refine ⟨ret_int ?_, rfl⟩
          have e := HF.out
          unfold Gf.refT at e
          rw [HQ.out] at e
          rw [e]
          have := Gf.mul_lt a b
          omega
set_option maxRecDepth 100000 in
set_option maxHeartbeats 1000000 in
theorem refOver_zero (a : Int) (w : World) :
    Calls Try.prog 22 #[.int .u8 a, .int .u8 0] w fun e w' => e = .returned (.tuple #[.int .u8 0, .int .i64 1]) ∧ w = w' := by
  go_enter Try.func22, Try.ntmps22
  go_wp2
  go_ret2
  exact ⟨rfl, rfl⟩
set_option maxRecDepth 100000 in
set_option maxHeartbeats 1000000 in
theorem refOver_any (a b : Nat) (w : World) (ha : a < 256) (h0 : 0 < b) (hb : b < 256) :
    Calls Try.prog 22 #[.int .u8 (a : Int), .int .u8 (b : Int)] w fun e w' => e = .returned (.tuple #[.int .u8 (Gf.over a b : Nat), .int .i64 0]) ∧ w = w' := by
  have hne : ((b : Int) == 0) = false := by simp; omega
  have hov := Gf.over_lt a b
  go_enter Try.func22, Try.ntmps22
  go_wp2_with fail
  go_loop [6] (fun x => ∃ k : Nat, k ≤ Gf.over a b ∧ x = .int .i64 k) (fun x => 256 - (intOf x).toNat)
  case atStart => exact ⟨0, Nat.zero_le _, rfl⟩
  case round =>
    obtain ⟨k, hk, rfl⟩ := hrel
    by_cases he : k = Gf.over a b
    · subst he
      go_wp2_with fail
      refine (refTimes_any _ b _ hov hb).mono ?_
      rintro e w1 ⟨hr, rfl⟩
      rw [Gf.mul_over ha h0] at hr; subst hr
      go_wp2_with fail
      go_ret2
      exact ⟨rfl, rfl⟩
    · have hk' : k < Gf.over a b := by omega
      have hno : ((Gf.mul k b : Nat) == a) = false := by
        rw [beq_eq_false_iff_ne]; intro h; exact he (Gf.over_unique (by omega) h0 h).symm
      clear he
      go_wp2_with fail
      refine (refTimes_any k b _ (by omega) hb).mono ?_
      rintro e w1 ⟨rfl, rfl⟩
      go_wp2_with fail
      go_round
      case rel => exact ⟨k + 1, by omega, by go_num⟩
      case measure => simp [intOf]; omega
end Go.Proofs.Yteiddjjakemklab
