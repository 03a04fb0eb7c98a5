/- What sluicegateref03.Hex answers: the same digits. -/
import Derived.Test.YtlpibpkbgmcclaaDoorShHex
namespace Go.Proofs.YtlpibpkbgmcclaaDoor
open Go.RowKit
theorem app_bt (a b : ByteArray) (p : Nat) : bt (a ++ b) p = if p < a.size then bt a p else bt b (p - a.size) := by
  by_cases h : p < a.size
  · rw [if_pos h, ← bt_eq h, ← bt_eq (s := a ++ b) (by rw [ByteArray.size_append]; omega), ByteArray.getElem_append_left h]
  · rw [if_neg h]
    by_cases h2 : p - a.size < b.size
    · rw [← bt_eq h2, ← bt_eq (s := a ++ b) (by rw [ByteArray.size_append]; omega), ByteArray.getElem_append_right (by omega)]
    · unfold bt
      rw [dif_neg h2, dif_neg (by rw [ByteArray.size_append]; omega)]
theorem mkS_two (f : Nat → Nat) (k : Nat) (h : ∀ p, f p < 256) : mkS (2 * k) (hx f) ++ mkS 1 (fun _ => dgt (f k / 16)) ++ mkS 1 (fun _ => dgt (f k % 16)) = mkS (2 * (k + 1)) (hx f) := by
  have hk := h k
  have e0 : hx f (2 * k) = dgt (f k / 16) := by unfold hx; rw [if_pos (by omega), show 2 * k / 2 = k by omega]
  have e1 : hx f (2 * k + 1) = dgt (f k % 16) := by unfold hx; rw [if_neg (by omega), show (2 * k + 1) / 2 = k by omega]
  apply ext_bt
  · simp only [ByteArray.size_append, mkS_size]; omega
  · intro p hp
    simp only [ByteArray.size_append, mkS_size] at hp
    rw [mkS_bt (by omega) (hx_lt h p), app_bt, app_bt]
    simp only [ByteArray.size_append, mkS_size]
    by_cases h1 : p < 2 * k
    · rw [if_pos (by omega), if_pos h1, mkS_bt h1 (hx_lt h p)]
    · by_cases h2 : p = 2 * k
      · subst h2
        rw [if_pos (by omega), if_neg h1, Nat.sub_self, mkS_bt (f := fun _ => dgt (f k / 16)) (p := 0) (by omega) (dgt_lt (by omega)), e0]
      · obtain rfl : p = 2 * k + 1 := by omega
        rw [if_neg (by omega), Nat.sub_self, mkS_bt (f := fun _ => dgt (f k % 16)) (p := 0) (by omega) (dgt_lt (by omega)), e1]
theorem dig_ext {n : Nat} (h : n < 16) : (⟨#[48, 49, 50, 51, 52, 53, 54, 55, 56, 57, 97, 98, 99, 100, 101, 102]⟩ : ByteArray).extract n (n + 1) = mkS 1 (fun _ => dgt n) := by
  rcases lt16 h with rfl | rfl | rfl | rfl | rfl | rfl | rfl | rfl | rfl | rfl | rfl | rfl | rfl | rfl | rfl | rfl <;> decide
theorem dig_slice {n : Nat} (h : n < 16) (wx : World) : (Instr.slice 9 (.string ⟨#[48, 49, 50, 51, 52, 53, 54, 55, 56, 57, 97, 98, 99, 100, 101, 102]⟩) (some (.int .u8 (n : Int))) (some (.int .u8 ((n : Int) + 1))) none).run Tryd.prog wx = .ok (.string (mkS 1 (fun _ => dgt n))) wx := by
  have hl : (⟨#[48, 49, 50, 51, 52, 53, 54, 55, 56, 57, 97, 98, 99, 100, 101, 102]⟩ : ByteArray).size = 16 := rfl
  have := run_slice_string (P := Tryd.prog) wx 9 ⟨#[48, 49, 50, 51, 52, 53, 54, 55, 56, 57, 97, 98, 99, 100, 101, 102]⟩ .u8 .u8 (n : Int) ((n : Int) + 1) Tryd.underlying9 (by omega) (by omega) (by rw [hl]; omega)
  rw [this, show ((n : Int) + 1).toNat = n + 1 by omega, Int.toNat_natCast, dig_ext h]
end Go.Proofs.YtlpibpkbgmcclaaDoor
