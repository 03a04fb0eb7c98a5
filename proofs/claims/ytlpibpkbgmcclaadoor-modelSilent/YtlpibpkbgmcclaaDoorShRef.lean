/- What the functions of package sluicegateref03 answer. -/
import Derived.Test.YtlpibpkbgmcclaaDoorBaseX
import Derived.Test.YtlpibpkbgmcclaaDoorShMath
import Derived.Deep.RegionHeld3
import Derived.BigRegion
namespace Go.Proofs.YtlpibpkbgmcclaaDoor
open Go.RowKit
theorem Sh.rot_lt {x n : Nat} (hx : x < 4294967296) : Sh.rot x n < 4294967296 := by
  unfold Sh.rot
  have h1 : x >>> n < 2 ^ 32 := Nat.lt_of_le_of_lt (Nat.shiftRight_le x n) hx
  have h2 : (x <<< (32 - n)) % Sh.M < 2 ^ 32 := Nat.mod_lt _ (by decide)
  exact Nat.or_lt_two_pow h1 h2
theorem rot_int {x n : Nat} (hx : x < 4294967296) : bits .or .u32 ((x : Int) / 2 ^ n) ((x : Int) * 2 ^ (32 - n) % 4294967296) = ((Sh.rot x n : Nat) : Int) := by
  have e1 : (x : Int) / 2 ^ n = ((x >>> n : Nat) : Int) := by rw [Nat.shiftRight_eq_div_pow]; simp
  have e2 : (x : Int) * 2 ^ (32 - n) % 4294967296 = (((x <<< (32 - n)) % Sh.M : Nat) : Int) := by rw [Nat.shiftLeft_eq]; unfold Sh.M; simp
  rw [e1, e2, u32_or_nat _ _ (Nat.lt_of_le_of_lt (Nat.shiftRight_le x n) hx) (show x <<< (32 - n) % Sh.M < 4294967296 from Nat.mod_lt _ (by decide))]
  rfl
theorem kV_at {i : Nat} (hi : i < 64) : (Sh.kL.map fun n : Nat => Value.int .u32 (n : Int))[i]'(by rw [List.length_map]; exact hi) = .int .u32 (Sh.kk i : Nat) := by
  have hl : Sh.kL.length = 64 := rfl
  rw [List.getElem_map]
  unfold Sh.kk
  rw [List.getD_eq_getElem?_getD, List.getElem?_eq_getElem (by omega)]
  rfl
end Go.Proofs.YtlpibpkbgmcclaaDoor
