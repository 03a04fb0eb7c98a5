/- The law FieldRules returns true at every input, and writes nothing that was there. -/
import Derived.Test.YteiddjjakemklaaGfLive
import Derived.OpenShut
import Derived.Laws.BitsAllLaws
namespace Go.Proofs.Yteiddjjakemklaa
open Go.RowKit
set_option maxRecDepth 100000 in
set_option maxHeartbeats 1000000 in
theorem walkFieldRules (a0 a1 a2 : Int) (w : World) (w0 : (Lit.int .u8 a0).wf = true) (w1 : (Lit.int .u8 a1).wf = true) (w2 : (Lit.int .u8 a2).wf = true) :
    Calls Try.prog 5 #[.int .u8 a0, .int .u8 a1, .int .u8 a2] w fun e w' => e = .returned (.bool true) ∧ Below w.heap.size w w' := by
  have b0 := bounds_u8 w0
  have b1 := bounds_u8 w1
  have b2 := bounds_u8 w2
  clear w0 w1 w2
  obtain ⟨a, rfl⟩ := Int.eq_ofNat_of_zero_le b0.1
  obtain ⟨b, rfl⟩ := Int.eq_ofNat_of_zero_le b1.1
  obtain ⟨c, rfl⟩ := Int.eq_ofNat_of_zero_le b2.1
  have ha : a < 256 := by omega
  have hb : b < 256 := by omega
  have hc : c < 256 := by omega
  clear b0 b1 b2
  go_enter Try.func5, Try.ntmps5
  go_wp2_with fail
  refine (new_any _).mono ?_
  rintro e w1 ⟨rfl, ht, hbel⟩
  go_wp2_with fail
  refine (times_any _ a b _ ht ha hb).mono ?_
  rintro e w2 ⟨rfl, n, rfl⟩
  go_wp2_with fail
  refine (times_any _ b a _ (ht.drewN _) hb ha).mono ?_
  rintro e w2 ⟨he, n, rfl⟩
  rw [Gf.mul_comm b a] at he; subst he
  go_wp2_with fail
  refine (times_any _ a b _ (ht.drewN _) ha hb).mono ?_
  rintro e w2 ⟨rfl, n, rfl⟩
  go_wp2_with fail
  refine (times_any _ (Gf.mul a b) c _ (ht.drewN _) (Gf.mul_lt _ _) hc).mono ?_
  rintro e w2 ⟨rfl, n, rfl⟩
  go_wp2_with fail
  refine (times_any _ b c _ (ht.drewN _) hb hc).mono ?_
  rintro e w2 ⟨rfl, n, rfl⟩
  go_wp2_with fail
  refine (times_any _ a (Gf.mul b c) _ (ht.drewN _) ha (Gf.mul_lt _ _)).mono ?_
  rintro e w2 ⟨he, n, rfl⟩
  rw [← Gf.mul_assoc] at he; subst he
  go_wp2_with fail
  rw [u8_xor_nat b c hb hc]
  refine (times_any _ a (b ^^^ c) _ (ht.drewN _) ha (Gf.xor_lt hb hc)).mono ?_
  rintro e w2 ⟨he, n, rfl⟩
  rw [Gf.mul_xor ha hb hc, ← u8_xor_nat _ _ (Gf.mul_lt _ _) (Gf.mul_lt _ _)] at he; subst he
  go_wp2_with fail
  refine (times_any _ a b _ (ht.drewN _) ha hb).mono ?_
  rintro e w2 ⟨rfl, n, rfl⟩
  go_wp2_with fail
  refine (times_any _ a c _ (ht.drewN _) ha hc).mono ?_
  rintro e w2 ⟨rfl, n, rfl⟩
  go_wp2_with fail
  refine (times_any _ a 1 _ (ht.drewN _) ha (by decide)).mono ?_
  rintro e w2 ⟨he, n, rfl⟩
  rw [Gf.mul_one ha] at he; subst he
  go_wp2_with fail
  refine (live_any _).mono ?_
  rintro e w2 ⟨rfl, hb2⟩
  go_wp2_with fail
  go_ret
  exact ⟨rfl, (below_drewN hbel _).trans (hb2.mono hbel.size)⟩
end Go.Proofs.Yteiddjjakemklaa
