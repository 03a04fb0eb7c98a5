/- Numbers in digits. -/
import Derived.Test.YtlpibpkbgmcclaaDoorBaseX
import Derived.Lib.ItoaNum
namespace Go.Proofs.YtlpibpkbgmcclaaDoor
open Go.RowKit
set_option linter.unusedVariables false
def ofL (l : List UInt8) : ByteArray := ⟨l.toArray⟩
theorem ofL_app (a b : List UInt8) : ofL (a ++ b) = ofL a ++ ofL b := by
  apply ByteArray.ext
  simp [ofL, ByteArray.data_append]
theorem ofL_size (l : List UInt8) : (ofL l).size = l.length := by simp [ofL, ByteArray.size]
theorem ofL_data (s : ByteArray) : ofL s.data.toList = s := by simp [ofL]
theorem ofL_one {x : Nat} (h : x < 256) : ofL [UInt8.ofNat x] = mkS 1 fun _ => x := by
  apply ext_bt
  · rw [ofL_size, mkS_size]; rfl
  · intro p hp
    rw [ofL_size] at hp
    obtain rfl : p = 0 := by simp at hp; omega
    rw [mkS_bt (f := fun _ => x) (p := 0) (by omega) h]
    show (UInt8.ofNat x).toNat = x
    simp
    omega
/-- a number in digits -/
def dcN (n : Nat) : ByteArray := ofL (Lib.decDigits n)
theorem dcN_small {n : Nat} (h : n < 10) : dcN n = mkS 1 fun _ => 48 + n % 10 := by
  unfold dcN
  rw [Lib.decDigits, dif_pos h, ofL_one (by omega), show n % 10 = n by omega]
theorem dcN_step {n : Nat} (h : 10 ≤ n) : dcN n = dcN (n / 10) ++ mkS 1 fun _ => 48 + n % 10 := by
  unfold dcN
  conv => lhs; rw [Lib.decDigits, dif_neg (by omega)]
  rw [ofL_app, ofL_one (by omega)]
theorem dcN_len : ∀ (k n : Nat), n < 10 ^ (k + 1) → (dcN n).size ≤ k + 1
  | 0, n, h => by rw [dcN_small (by simpa using h), mkS_size]; omega
  | k + 1, n, h => by
    by_cases q : n < 10
    · rw [dcN_small q, mkS_size]; omega
    · rw [dcN_step (by omega), ByteArray.size_append, mkS_size]
      have := dcN_len k (n / 10) (by rw [Nat.pow_succ] at h; omega)
      omega
theorem dcN_le {n : Nat} (h : n ≤ 9223372036854775807) : (dcN n).size ≤ 19 := dcN_len 18 n (by omega)
theorem itoa_nat (n : Nat) : (⟨(Lib.itoa (n : Int)).toArray⟩ : ByteArray) = dcN n := by
  unfold Lib.itoa dcN ofL
  rw [if_neg (by omega), Int.toNat_natCast]
end Go.Proofs.YtlpibpkbgmcclaaDoor
