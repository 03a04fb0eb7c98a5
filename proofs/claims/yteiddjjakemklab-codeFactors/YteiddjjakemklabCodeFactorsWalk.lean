/- The law CodeFactors returns true at every input, and writes nothing that was there. -/
import Derived.Test.YteiddjjakemklabCdLive
import Derived.OpenShut
namespace Go.Proofs.Yteiddjjakemklab
open Go.RowKit
set_option maxRecDepth 100000 in
set_option maxHeartbeats 1000000 in
theorem factor_bad (b : Nat) (i j : Int) (w : World) (h : i < 0 ∨ 9 ≤ i ∨ j < 0 ∨ 6 ≤ j) :
    Calls Try.prog 8 #[.pointer (some ⟨b, 0, none⟩), .int .i64 i, .int .i64 j] w fun e w' => e = .returned (.tuple #[.int .u8 0, .int .i64 1]) ∧ w = w' := by
  by_cases h1 : i < 0
  · clear h
    go_enter Try.func8, Try.ntmps8
    go_wp2
    go_ret2
    exact ⟨rfl, rfl⟩
  have h1' : 0 ≤ i := by omega
  clear h1
  by_cases h2 : 9 ≤ i
  · clear h
    go_enter Try.func8, Try.ntmps8
    go_wp2
    go_ret2
    exact ⟨rfl, rfl⟩
  have h2' : i < 9 := by omega
  clear h2
  by_cases h3 : j < 0
  · clear h
    go_enter Try.func8, Try.ntmps8
    go_wp2
    go_ret2
    exact ⟨rfl, rfl⟩
  have h3' : 0 ≤ j := by omega
  have h4' : 6 ≤ j := by omega
  clear h h3
  go_enter Try.func8, Try.ntmps8
  go_wp2
  go_ret2
  exact ⟨rfl, rfl⟩
set_option maxRecDepth 100000 in
set_option maxHeartbeats 1000000 in
theorem factor_nil (i j : Int) (w : World) :
    Calls Try.prog 8 #[.pointer none, .int .i64 i, .int .i64 j] w fun e w' => e = .returned (.tuple #[.int .u8 0, .int .i64 1]) ∧ w = w' := by
  go_enter Try.func8, Try.ntmps8
  go_wp2
  go_ret2
  exact ⟨rfl, rfl⟩
set_option maxRecDepth 100000 in
set_option maxHeartbeats 1000000 in
theorem factors_out (i j : Int) (w : World) (h : i < 0 ∨ 9 ≤ i ∨ j < 0 ∨ 6 ≤ j) :
    Calls Try.prog 3 #[.int .i64 i, .int .i64 j] w fun e w' => e = .returned (.bool true) ∧ Below w.heap.size w w' := by
  have H := hide h
  clear h
  rcases Int.lt_or_le i 0 with h1 | h1
  case' inr => rcases Int.lt_or_le 8 i with h2 | h2
  case' inr.inr => rcases Int.lt_or_le j 0 with h3 | h3
  case' inr.inr.inr => have h4 : 5 < j := by have := H.out; omega
  all_goals
    go_enter Try.func3, Try.ntmps3
    go_wp2_with fail
    refine (new_any _).mono ?_
    rintro e w1 ⟨rfl, ht, hb1⟩
    go_wp2_with fail
    refine (factor_bad _ i j _ H.out).mono ?_
    rintro e w2 ⟨rfl, rfl⟩
    go_wp2_with fail
    refine (live_any _).mono ?_
    rintro e w2 ⟨rfl, hb2⟩
    go_wp2_with fail
    go_ret
    exact ⟨rfl, hb1.trans (hb2.mono hb1.size)⟩
set_option maxRecDepth 100000 in
set_option maxHeartbeats 1000000 in
theorem walkCodeFactors (i j : Int) (w : World) (_ : (Lit.int .i64 i).wf = true) (_ : (Lit.int .i64 j).wf = true) :
    Calls Try.prog 3 #[.int .i64 i, .int .i64 j] w fun e w' => e = .returned (.bool true) ∧ Below w.heap.size w w' := by
  by_cases h : i < 0 ∨ 9 ≤ i ∨ j < 0 ∨ 6 ≤ j
  · exact factors_out i j w h
  · obtain ⟨a, rfl⟩ := Int.eq_ofNat_of_zero_le (show 0 ≤ i by omega)
    obtain ⟨c, rfl⟩ := Int.eq_ofNat_of_zero_le (show 0 ≤ j by omega)
    have ha : a < 9 := by omega
    have hc : c < 6 := by omega
    clear h
    go_enter Try.func3, Try.ntmps3
    go_wp2_with fail
    refine (new_any _).mono ?_
    rintro e w1 ⟨rfl, ht, hb1⟩
    go_wp2_with fail
    refine (factor_any _ a c _ ht ha hc).mono ?_
    rintro e w2 ⟨rfl, n2, rfl⟩
    go_wp2_with fail
    refine (factor_nil _ _ _).mono ?_
    rintro e w2 ⟨rfl, rfl⟩
    go_wp2_with fail
    refine (refFactor_any a c _ ha hc).mono ?_
    rintro e w2 ⟨rfl, rfl⟩
    go_wp2_with fail
    refine (live_any _).mono ?_
    rintro e w2 ⟨rfl, hb2⟩
    go_wp2_with fail
    go_ret
    exact ⟨rfl, (below_draws hb1 n2).trans (hb2.mono hb1.size)⟩
end Go.Proofs.Yteiddjjakemklab
