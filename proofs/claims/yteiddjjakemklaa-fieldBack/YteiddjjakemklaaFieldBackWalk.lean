/- The law FieldBack returns true at every input, and writes nothing that was there. -/
import Derived.Test.YteiddjjakemklaaGfLive
import Derived.OpenShut
namespace Go.Proofs.Yteiddjjakemklaa
open Go.RowKit
set_option maxRecDepth 100000 in
set_option maxHeartbeats 1000000 in
theorem walkFieldBack (a0 a1 : Int) (w : World) (w0 : (Lit.int .u8 a0).wf = true) (w1 : (Lit.int .u8 a1).wf = true) :
    Calls Try.prog 6 #[.int .u8 a0, .int .u8 a1] w fun e w' => e = .returned (.bool true) ∧ Below w.heap.size w w' := by
  have b0 := bounds_u8 w0
  have b1 := bounds_u8 w1
  clear w0 w1
  obtain ⟨a, rfl⟩ := Int.eq_ofNat_of_zero_le b0.1
  obtain ⟨b, rfl⟩ := Int.eq_ofNat_of_zero_le b1.1
  have ha : a < 256 := by omega
  have hb : b < 256 := by omega
  clear b0 b1
  rcases Nat.eq_zero_or_pos b with rfl | h0
  · go_enter Try.func6, Try.ntmps6
    go_wp2_with fail
    refine (new_any _).mono ?_
    rintro e w1 ⟨rfl, ht, hbel⟩
    go_wp2_with fail
    refine (times_any _ a 0 _ ht ha hb).mono ?_
    rintro e w2 ⟨rfl, n, rfl⟩
    go_wp2_with fail
    refine (over_zero _ _ _).mono ?_
    rintro e w2 ⟨rfl, rfl⟩
    go_wp2_with fail
    refine (live_any _).mono ?_
    rintro e w2 ⟨rfl, hb2⟩
    go_wp2_with fail
    go_ret
    exact ⟨rfl, (below_drewN hbel _).trans (hb2.mono hbel.size)⟩
  · have hne : ((b : Int) == 0) = false := by simp; omega
    go_enter Try.func6, Try.ntmps6
    go_wp2_with fail
    refine (new_any _).mono ?_
    rintro e w1 ⟨rfl, ht, hbel⟩
    go_wp2_with fail
    refine (times_any _ a b _ ht ha hb).mono ?_
    rintro e w2 ⟨rfl, n, rfl⟩
    go_wp2_with fail
    refine (over_any _ (Gf.mul a b) b _ (ht.drewN _) (Gf.mul_lt _ _) h0 hb).mono ?_
    rintro e w2 ⟨he, n, rfl⟩
    rw [Gf.over_mul ha h0] at he; subst he
    go_wp2_with fail
    refine (live_any _).mono ?_
    rintro e w2 ⟨rfl, hb2⟩
    go_wp2_with fail
    go_ret
    exact ⟨rfl, (below_drewN hbel _).trans (hb2.mono hbel.size)⟩
end Go.Proofs.Yteiddjjakemklaa
