/- The law FieldAdds returns true at every input, and writes nothing that was there. -/
import Derived.Test.YteiddjjakemklaaGfLive
import Derived.OpenShut
namespace Go.Proofs.Yteiddjjakemklaa
open Go.RowKit
set_option maxRecDepth 100000 in
set_option maxHeartbeats 1000000 in
theorem walkFieldAdds (a0 a1 : Int) (w : World) (w0 : (Lit.int .u8 a0).wf = true) (w1 : (Lit.int .u8 a1).wf = true) :
    Calls Try.prog 7 #[.int .u8 a0, .int .u8 a1] w fun e w' => e = .returned (.bool true) ∧ Below w.heap.size w w' := by
  have b0 := bounds_u8 w0
  have b1 := bounds_u8 w1
  clear w0 w1
  obtain ⟨a, rfl⟩ := Int.eq_ofNat_of_zero_le b0.1
  obtain ⟨b, rfl⟩ := Int.eq_ofNat_of_zero_le b1.1
  have ha : a < 256 := by omega
  have hb : b < 256 := by omega
  clear b0 b1
  rcases Nat.eq_zero_or_pos a with rfl | h0
  · rcases Nat.eq_zero_or_pos b with rfl | h1
    · go_enter Try.func7, Try.ntmps7
      go_wp2_with fail
      refine (new_any _).mono ?_
      rintro e w1 ⟨rfl, ht, hbel⟩
      go_wp2_with fail
      refine (which_zero _ _).mono ?_
      rintro e w2 ⟨rfl, rfl⟩
      go_wp2_with fail
      refine (which_zero _ _).mono ?_
      rintro e w2 ⟨rfl, rfl⟩
      go_wp2_with fail
      refine (times_any _ 0 0 _ ht ha hb).mono ?_
      rintro e w2 ⟨he, n, rfl⟩
      rw [Gf.zero_mul] at he; subst he
      go_wp2_with fail
      refine (live_any _).mono ?_
      rintro e w2 ⟨rfl, hb2⟩
      go_wp2_with fail
      go_ret
      exact ⟨rfl, (below_drewN hbel _).trans (hb2.mono hbel.size)⟩
    · have hne : ((b : Int) == 0) = false := by simp; omega
      go_enter Try.func7, Try.ntmps7
      go_wp2_with fail
      refine (new_any _).mono ?_
      rintro e w1 ⟨rfl, ht, hbel⟩
      go_wp2_with fail
      refine (which_zero _ _).mono ?_
      rintro e w2 ⟨rfl, rfl⟩
      go_wp2_with fail
      refine (which_any _ b _ ht h1 hb).mono ?_
      rintro e w2 ⟨rfl, rfl⟩
      go_wp2_with fail
      refine (times_any _ 0 b _ ht ha hb).mono ?_
      rintro e w2 ⟨he, n, rfl⟩
      rw [Gf.zero_mul] at he; subst he
      go_wp2_with fail
      refine (live_any _).mono ?_
      rintro e w2 ⟨rfl, hb2⟩
      go_wp2_with fail
      go_ret
      exact ⟨rfl, (below_drewN hbel _).trans (hb2.mono hbel.size)⟩
  · have hne0 : ((a : Int) == 0) = false := by simp; omega
    rcases Nat.eq_zero_or_pos b with rfl | h1
    · go_enter Try.func7, Try.ntmps7
      go_wp2_with fail
      refine (new_any _).mono ?_
      rintro e w1 ⟨rfl, ht, hbel⟩
      go_wp2_with fail
      refine (which_any _ a _ ht h0 ha).mono ?_
      rintro e w2 ⟨rfl, rfl⟩
      go_wp2_with fail
      refine (which_zero _ _).mono ?_
      rintro e w2 ⟨rfl, rfl⟩
      go_wp2_with fail
      refine (times_any _ a 0 _ ht ha hb).mono ?_
      rintro e w2 ⟨he, n, rfl⟩
      rw [Gf.mul_zero] at he; subst he
      go_wp2_with fail
      refine (live_any _).mono ?_
      rintro e w2 ⟨rfl, hb2⟩
      go_wp2_with fail
      go_ret
      exact ⟨rfl, (below_drewN hbel _).trans (hb2.mono hbel.size)⟩
    · have hne1 : ((b : Int) == 0) = false := by simp; omega
      have hl := Gf.lg_lt h0 ha
      have hm := Gf.lg_lt h1 hb
      go_enter Try.func7, Try.ntmps7
      go_wp2_with fail
      refine (new_any _).mono ?_
      rintro e w1 ⟨rfl, ht, hbel⟩
      go_wp2_with fail
      refine (which_any _ a _ ht h0 ha).mono ?_
      rintro e w2 ⟨rfl, rfl⟩
      go_wp2_with fail
      refine (which_any _ b _ ht h1 hb).mono ?_
      rintro e w2 ⟨rfl, rfl⟩
      go_wp2_with fail
      refine (power_any _ _ _ ht).mono ?_
      rintro e w2 ⟨he, rfl⟩
      rw [Gf.pwI_lg h0 ha] at he; subst he
      go_wp2_with fail
      refine (power_any _ _ _ ht).mono ?_
      rintro e w2 ⟨he, rfl⟩
      rw [← Gf.mul_of h0 h1] at he; subst he
      go_wp2_with fail
      refine (times_any _ a b _ ht ha hb).mono ?_
      rintro e w2 ⟨rfl, n, rfl⟩
      go_wp2_with fail
      refine (live_any _).mono ?_
      rintro e w2 ⟨rfl, hb2⟩
      go_wp2_with fail
      go_ret
      exact ⟨rfl, (below_drewN hbel _).trans (hb2.mono hbel.size)⟩
end Go.Proofs.Yteiddjjakemklaa
