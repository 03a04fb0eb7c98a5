/- The law FieldPowers returns true at every input, and writes nothing that was there. -/
import Derived.Test.YteiddjjakemklaaGfLive
import Derived.Test.YteiddjjakemklaaGfRef
import Derived.OpenShut
namespace Go.Proofs.Yteiddjjakemklaa
open Go.RowKit
set_option maxRecDepth 100000 in
set_option maxHeartbeats 1000000 in
theorem walkFieldPowers (n a0 : Int) (w : World) (_ : (Lit.int .i64 n).wf = true) (w0 : (Lit.int .u8 a0).wf = true) :
    Calls Try.prog 4 #[.int .i64 n, .int .u8 a0] w fun e w' => e = .returned (.bool true) ∧ Below w.heap.size w w' := by
  have b0 := bounds_u8 w0
  clear w0
  obtain ⟨a, rfl⟩ := Int.eq_ofNat_of_zero_le b0.1
  have ha : a < 256 := by omega
  clear b0
  rcases Nat.eq_zero_or_pos a with rfl | h0
  · go_enter Try.func4, Try.ntmps4
    go_wp2_with fail
    refine (new_any _).mono ?_
    rintro e w1 ⟨rfl, ht, hbel⟩
    go_wp2_with fail
    refine (which_zero _ _).mono ?_
    rintro e w2 ⟨rfl, rfl⟩
    go_wp2_with fail
    refine (refWhich_zero _).mono ?_
    rintro e w2 ⟨rfl, rfl⟩
    go_wp2_with fail
    refine (power_any _ n _ ht).mono ?_
    rintro e w2 ⟨rfl, rfl⟩
    go_wp2_with fail
    refine (refPower_any n _).mono ?_
    rintro e w2 ⟨rfl, rfl⟩
    go_wp2_with fail
    refine (live_any _).mono ?_
    rintro e w2 ⟨rfl, hb2⟩
    go_wp2_with fail
    go_ret
    exact ⟨rfl, hbel.trans (hb2.mono hbel.size)⟩
  · go_enter Try.func4, Try.ntmps4
    go_wp2_with fail
    refine (new_any _).mono ?_
    rintro e w1 ⟨rfl, ht, hbel⟩
    go_wp2_with fail
    refine (which_any _ a _ ht h0 ha).mono ?_
    rintro e w2 ⟨rfl, rfl⟩
    go_wp2_with fail
    refine (refWhich_any a _ h0 ha).mono ?_
    rintro e w2 ⟨rfl, rfl⟩
    go_wp2_with fail
    refine (power_any _ n _ ht).mono ?_
    rintro e w2 ⟨rfl, rfl⟩
    go_wp2_with fail
    refine (refPower_any n _).mono ?_
    rintro e w2 ⟨rfl, rfl⟩
    go_wp2_with fail
    refine (live_any _).mono ?_
    rintro e w2 ⟨rfl, hb2⟩
    go_wp2_with fail
    go_ret
    exact ⟨rfl, hbel.trans (hb2.mono hbel.size)⟩
end Go.Proofs.Yteiddjjakemklaa
