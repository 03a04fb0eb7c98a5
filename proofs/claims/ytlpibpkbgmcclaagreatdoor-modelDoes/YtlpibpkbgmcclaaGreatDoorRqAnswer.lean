/- Numbers in digits; keys in a line; what request.Answer answers, and the document's. -/
import Derived.Test.YtlpibpkbgmcclaaGreatDoorRqWordsX
import Derived.Test.YtlpibpkbgmcclaaGreatDoorRqKd
import Derived.Test.YtlpibpkbgmcclaaGreatDoorRowX
import Derived.Test.YtlpibpkbgmcclaaGreatDoorShelf
import Derived.Test.YtlpibpkbgmcclaaGreatDoorPkRefsX
import Derived.Test.YtlpibpkbgmcclaaGreatDoorRqMathX
import Derived.Lib.Join
import Derived.Lib.ItoaNum
import Derived.Maps.AppendAt
namespace Go.Proofs.YtlpibpkbgmcclaaGreatDoor
open Go.RowKit
set_option linter.unusedVariables false
set_option maxRecDepth 100000 in
set_option maxHeartbeats 4000000 in
theorem refNumber_small (n : Nat) (hn : n < 10) (w : World) : Calls Tryz.prog 20 #[.int .i64 (n : Int)] w fun e w' => e = .returned (.string (dcN n)) ∧ Below w.heap.size w w' := by
  have HN := hide (dcN_small hn)
  have h0 : decide ((10 : Int) ≤ (n : Int)) = false := by simp; omega
  have hm : (n : Int).tmod 10 = ((n % 10 : Nat) : Int) := by rw [Int.tmod_eq_emod_of_nonneg (by omega)]; omega
  have hm2 : (n : Int) % 10 = ((n % 10 : Nat) : Int) := by omega
  have hb : n % 10 < 10 := Nat.mod_lt _ (by omega)
  have hx : (48 : Int) + ((n % 10 : Nat) : Int) = ((48 + n % 10 : Nat) : Int) := by omega
  have hw : IntKind.u8.wrap ((48 + n % 10 : Nat) : Int) = ((48 + n % 10 : Nat) : Int) := by rw [IntKind.wrap_u8]; omega
  have hX : 48 + n % 10 < 58 := by omega
  generalize 48 + n % 10 = X at *
  generalize n % 10 = q at *
  have hcv := one_string X w
  go_enter Tryz.func20, Tryz.ntmps20
  go_wp2_with fail
  first | go_ret | go_returns
  exact ⟨ret_str HN.out.symm, (Below.refl _ _).alloc (Nat.le_refl _) _⟩
set_option maxRecDepth 100000 in
set_option maxHeartbeats 4000000 in
theorem refNumber_step (n : Nat) (hn : 10 ≤ n) (h63 : n ≤ 9223372036854775807) (ih : ∀ w : World, Calls Tryz.prog 20 #[.int .i64 ((n / 10 : Nat) : Int)] w fun e w' => e = .returned (.string (dcN (n / 10))) ∧ Below w.heap.size w w') (w : World) : Calls Tryz.prog 20 #[.int .i64 (n : Int)] w fun e w' => e = .returned (.string (dcN n)) ∧ Below w.heap.size w w' := by
  have HN := hide (dcN_step hn)
  have HIH := hide ih
  clear ih
  have h0 : decide ((10 : Int) ≤ (n : Int)) = true := by simp; omega
  have hm : (n : Int).tmod 10 = ((n % 10 : Nat) : Int) := by rw [Int.tmod_eq_emod_of_nonneg (by omega)]; omega
  have hm2 : (n : Int) % 10 = ((n % 10 : Nat) : Int) := by omega
  have hb : n % 10 < 10 := Nat.mod_lt _ (by omega)
  have hx : (48 : Int) + ((n % 10 : Nat) : Int) = ((48 + n % 10 : Nat) : Int) := by omega
  have hw : IntKind.u8.wrap ((48 + n % 10 : Nat) : Int) = ((48 + n % 10 : Nat) : Int) := by rw [IntKind.wrap_u8]; omega
  have hX : 48 + n % 10 < 58 := by omega
  have hq1 : (n : Int) / 10 = ((n / 10 : Nat) : Int) := by omega
  have hq2 : (n : Int).tdiv 10 = ((n / 10 : Nat) : Int) := by rw [Int.tdiv_eq_ediv_of_nonneg (by omega)]; omega
  have z1 := dcN_le (n := n / 10) (by omega)
  have z2 : (mkS 1 fun _ => 48 + n % 10).size = 1 := mkS_size _ _
  have hs1 : ∀ wx, (Op.stringOp .add (dcN (n / 10)) (mkS 1 fun _ => 48 + n % 10)).run Tryz.prog wx = .ok (.string (dcN (n / 10) ++ mkS 1 fun _ => 48 + n % 10)) wx := fun wx => run_string_add_sum wx _ _ (by omega)
  generalize dcN (n / 10) = T at *
  generalize 48 + n % 10 = X at *
  generalize n % 10 = q at *
  generalize n / 10 = Q at *
  have hcv := one_string X w
  have HB : Hid (Below w.heap.size w (w.alloc (.cells #[.int .u8 (X : Int)] 5))) := (Below.refl _ _).alloc (Nat.le_refl _) _
  go_enter Tryz.func20, Tryz.ntmps20
  go_wp2_with fail
  refine (HIH.out _).mono ?_
  rintro e w1 ⟨rfl, hb1⟩
  have HB1 := hide (HB.out.trans (hb1.mono HB.out.size))
  clear hb1
  go_wp2_with fail
  first | go_ret | go_returns
  exact ⟨ret_str HN.out.symm, HB1.out⟩
theorem refNumber_any (n : Nat) (h63 : n ≤ 9223372036854775807) (w : World) : Calls Tryz.prog 20 #[.int .i64 (n : Int)] w fun e w' => e = .returned (.string (dcN n)) ∧ Below w.heap.size w w' := by
  induction n using Nat.strongRecOn generalizing w with
  | _ n ih =>
    by_cases h : n < 10
    · exact refNumber_small n h w
    · exact refNumber_step n (by omega) h63 (fun w => ih (n / 10) (by omega) (by omega) w) w
end Go.Proofs.YtlpibpkbgmcclaaGreatDoor
