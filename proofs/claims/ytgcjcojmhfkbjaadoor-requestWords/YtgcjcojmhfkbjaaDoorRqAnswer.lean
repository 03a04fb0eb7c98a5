/- Numbers in digits; keys in a line; what request.Answer answers, and the document's. -/
import Derived.Test.YtgcjcojmhfkbjaaDoorRqPrint
import Derived.Test.YtgcjcojmhfkbjaaDoorRqKd
import Derived.Test.YtgcjcojmhfkbjaaDoorRpSmall
import Derived.Test.YtgcjcojmhfkbjaaDoorShelf
import Derived.Test.YtgcjcojmhfkbjaaDoorPkRefNum
import Derived.Lib.Join
import Derived.Lib.ItoaNum
import Derived.Maps.AppendAt
namespace Go.Proofs.YtgcjcojmhfkbjaaDoor
open Go.RowKit
set_option linter.unusedVariables false
def ofL (l : List UInt8) : ByteArray := ⟨l.toArray⟩
theorem ofL_app (a b : List UInt8) : ofL (a ++ b) = ofL a ++ ofL b := by
  apply ByteArray.ext
  simp [ofL, ByteArray.data_append]
theorem ofL_size (l : List UInt8) : (ofL l).size = l.length := by simp [ofL, ByteArray.size]
theorem ofL_data (s : ByteArray) : ofL s.data.toList = s := by simp [ofL]
theorem ofL_one {x : Nat} (h : x < 256) : ofL [UInt8.ofNat x] = mkS 1 fun _ => x := by
  apply ext_bt
  · rw [ofL_size, mkS_size]; rfl
  · intro p hp
    rw [ofL_size] at hp
    obtain rfl : p = 0 := by simp at hp; omega
    rw [mkS_bt (f := fun _ => x) (p := 0) (by omega) h]
    show (UInt8.ofNat x).toNat = x
    simp
    omega
/-- a number in digits -/
def dcN (n : Nat) : ByteArray := ofL (Lib.decDigits n)
theorem dcN_small {n : Nat} (h : n < 10) : dcN n = mkS 1 fun _ => 48 + n % 10 := by
  unfold dcN
  rw [Lib.decDigits, dif_pos h, ofL_one (by omega), show n % 10 = n by omega]
theorem dcN_step {n : Nat} (h : 10 ≤ n) : dcN n = dcN (n / 10) ++ mkS 1 fun _ => 48 + n % 10 := by
  unfold dcN
  conv => lhs; rw [Lib.decDigits, dif_neg (by omega)]
  rw [ofL_app, ofL_one (by omega)]
theorem dcN_len : ∀ (k n : Nat), n < 10 ^ (k + 1) → (dcN n).size ≤ k + 1
  | 0, n, h => by rw [dcN_small (by simpa using h), mkS_size]; omega
  | k + 1, n, h => by
    by_cases q : n < 10
    · rw [dcN_small q, mkS_size]; omega
    · rw [dcN_step (by omega), ByteArray.size_append, mkS_size]
      have := dcN_len k (n / 10) (by rw [Nat.pow_succ] at h; omega)
      omega
theorem dcN_le {n : Nat} (h : n ≤ 9223372036854775807) : (dcN n).size ≤ 19 := dcN_len 18 n (by omega)
theorem itoa_nat (n : Nat) : (⟨(Lib.itoa (n : Int)).toArray⟩ : ByteArray) = dcN n := by
  unfold Lib.itoa dcN ofL
  rw [if_neg (by omega), Int.toNat_natCast]
set_option maxRecDepth 100000 in
set_option maxHeartbeats 4000000 in
theorem refNumber_small (n : Nat) (hn : n < 10) (w : World) : Calls Tryd.prog 31 #[.int .i64 (n : Int)] w fun e w' => e = .returned (.string (dcN n)) ∧ Below w.heap.size w w' := by
  have HN := hide (dcN_small hn)
  have h0 : decide ((10 : Int) ≤ (n : Int)) = false := by simp; omega
  have hm : (n : Int).tmod 10 = ((n % 10 : Nat) : Int) := by rw [Int.tmod_eq_emod_of_nonneg (by omega)]; omega
  have hm2 : (n : Int) % 10 = ((n % 10 : Nat) : Int) := by omega
  have hb : n % 10 < 10 := Nat.mod_lt _ (by omega)
  have hx : (48 : Int) + ((n % 10 : Nat) : Int) = ((48 + n % 10 : Nat) : Int) := by omega
  have hw : IntKind.u8.wrap ((48 + n % 10 : Nat) : Int) = ((48 + n % 10 : Nat) : Int) := by rw [IntKind.wrap_u8]; omega
  have hX : 48 + n % 10 < 58 := by omega
  generalize 48 + n % 10 = X at *
  generalize n % 10 = q at *
  have hcv := one_string X w
  go_enter Tryd.func31, Tryd.ntmps31
  go_wp2_with fail
  first | go_ret | go_returns
  exact ⟨ret_str HN.out.symm, (Below.refl _ _).alloc (Nat.le_refl _) _⟩
set_option maxRecDepth 100000 in
set_option maxHeartbeats 4000000 in
theorem refNumber_step (n : Nat) (hn : 10 ≤ n) (h63 : n ≤ 9223372036854775807) (ih : ∀ w : World, Calls Tryd.prog 31 #[.int .i64 ((n / 10 : Nat) : Int)] w fun e w' => e = .returned (.string (dcN (n / 10))) ∧ Below w.heap.size w w') (w : World) : Calls Tryd.prog 31 #[.int .i64 (n : Int)] w fun e w' => e = .returned (.string (dcN n)) ∧ Below w.heap.size w w' := by
  have HN := hide (dcN_step hn)
  have HIH := hide ih
  clear ih
  have h0 : decide ((10 : Int) ≤ (n : Int)) = true := by simp; omega
  have hm : (n : Int).tmod 10 = ((n % 10 : Nat) : Int) := by rw [Int.tmod_eq_emod_of_nonneg (by omega)]; omega
  have hm2 : (n : Int) % 10 = ((n % 10 : Nat) : Int) := by omega
  have hb : n % 10 < 10 := Nat.mod_lt _ (by omega)
  have hx : (48 : Int) + ((n % 10 : Nat) : Int) = ((48 + n % 10 : Nat) : Int) := by omega
  have hw : IntKind.u8.wrap ((48 + n % 10 : Nat) : Int) = ((48 + n % 10 : Nat) : Int) := by rw [IntKind.wrap_u8]; omega
  have hX : 48 + n % 10 < 58 := by omega
  have hq1 : (n : Int) / 10 = ((n / 10 : Nat) : Int) := by omega
  have hq2 : (n : Int).tdiv 10 = ((n / 10 : Nat) : Int) := by rw [Int.tdiv_eq_ediv_of_nonneg (by omega)]; omega
  have z1 := dcN_le (n := n / 10) (by omega)
  have z2 : (mkS 1 fun _ => 48 + n % 10).size = 1 := mkS_size _ _
  have hs1 : ∀ wx, (Op.stringOp .add (dcN (n / 10)) (mkS 1 fun _ => 48 + n % 10)).run Tryd.prog wx = .ok (.string (dcN (n / 10) ++ mkS 1 fun _ => 48 + n % 10)) wx := fun wx => run_string_add_sum wx _ _ (by omega)
  generalize dcN (n / 10) = T at *
  generalize 48 + n % 10 = X at *
  generalize n % 10 = q at *
  generalize n / 10 = Q at *
  have hcv := one_string X w
  have HB : Hid (Below w.heap.size w (w.alloc (.cells #[.int .u8 (X : Int)] 5))) := (Below.refl _ _).alloc (Nat.le_refl _) _
  go_enter Tryd.func31, Tryd.ntmps31
  go_wp2_with fail
  refine (HIH.out _).mono ?_
  rintro e w1 ⟨rfl, hb1⟩
  have HB1 := hide (HB.out.trans (hb1.mono HB.out.size))
  clear hb1
  go_wp2_with fail
  first | go_ret | go_returns
  exact ⟨ret_str HN.out.symm, HB1.out⟩
theorem refNumber_any (n : Nat) (h63 : n ≤ 9223372036854775807) (w : World) : Calls Tryd.prog 31 #[.int .i64 (n : Int)] w fun e w' => e = .returned (.string (dcN n)) ∧ Below w.heap.size w w' := by
  induction n using Nat.strongRecOn generalizing w with
  | _ n ih =>
    by_cases h : n < 10
    · exact refNumber_small n h w
    · exact refNumber_step n (by omega) h63 (fun w => ih (n / 10) (by omega) (by omega) w) w
end Go.Proofs.YtgcjcojmhfkbjaaDoor
