/- The row of the law PackApart, out of its walk: for every input the law answers true, and the input reads as it did. -/
import Derived.Test.YtjjdfmgmomndlaaRows
import Derived.Test.YtjjdfmgmomndlaaPackApartWalk
import Derived.WalkKit
import Derived.ProofKit
import Derived.OpenShut
import Derived.ShutString
import Derived.ChangeOld
import Derived.Below
import Derived.Lib.SmallJoins
namespace Go.Proofs.Ytjjdfmgmomndlaa.RowPackApart
open Go.ChangeShapes Go.WideShapes Go.ChangeAt Go.RowKit
open Go.ChangeMaps (open_string shut_string)
set_option linter.unusedVariables false
theorem own : ownKnob Try.prog.godebug = none := by kernel_rfl
theorem laidOut : laidOutB Try.prog = true := by kernel_rfl
set_option maxRecDepth 100000 in
theorem lifted (os : Os) (started : os.Started) (H : Type) (enc : TypeId × Value → H) :
    ReturnsInHanded {} Try.checked os 9 .any (Rows.packApartSpec.pre6 enc Try.prog Try.f9 Rows.packApartRow.domain false) (Rows.packApartSpec.post enc Try.prog Try.f9 false true false false) := by
  refine returnsInHanded_of_change (C := Try.checked) own started (by kernel_rfl) Try.func9
    (ChangeSpec.witness6 (enc := enc) (C := Try.checked) false ⟨#[], #[.agg #[.int .i64 0, .int .i64 0, .string ByteArray.empty, .string ByteArray.empty]], []⟩ 8 (by kernel_rfl) (by kernel_rfl) (by kernel_rfl) (by kernel_rfl)) ?_
  intro W base args ds gs before hval0 hW hcnd _
  have hval : ∀ (j : Nat) t v, Try.f9.params[j]? = some t → args[j]? = some v → Value.okWide Try.prog W .any base t v := hval0
  have hW' := hW
  obtain ⟨p, q, hA0, hV, rfl, hfz, hnd⟩ := hW
  have hA : DataW.TrodAll enc Try.prog W 0 (fun _ => true) true Try.f9.params.toList args.toList ds p := hA0
  rw [Try.params9] at hA hval
  obtain ⟨v0, vs0, d0, ds0, p0, q0, hargs, rfl, rfl, h0, r0⟩ := trodAll_cons hA
  obtain ⟨rfl, rfl, rfl⟩ := trodAll_nil r0
  obtain rfl : args = #[v0] := by cases args; simp_all
  obtain ⟨rfl, rfl⟩ := trodVars_none hV
  have hh0 := h0
  obtain ⟨cs0, rfl, hsz0⟩ := okWide_struct Try.underlying43 (hval 0 43 v0 rfl rfl)
  rw [show Try.prog.cellsOf 43 = 4 by kernel_rfl] at hsz0
  obtain ⟨c0f0, c0f1, c0f2, c0f3, rfl⟩ := Go.Joins.array4 hsz0
  obtain ⟨fuel0, hf0⟩ := hh0
  obtain ⟨y0f0, y0f1, y0f2, y0f3, m0, hx0, _, hy0f0, hy0f1, hy0f2, hy0f3⟩ := Go.Joins.trod_struct4 Try.underlying43 hf0
  obtain ⟨a0f0, e0f0, -, -⟩ := DataW.trod_int Try.underlying3 hy0f0
  obtain ⟨a0f1, e0f1, -, -⟩ := DataW.trod_int Try.underlying3 hy0f1
  obtain ⟨a0f2, e0f2, -, w0f2⟩ := DataW.trod_string Try.underlying9 hy0f2
  obtain ⟨a0f3, e0f3, -, w0f3⟩ := DataW.trod_string Try.underlying9 hy0f3
  have k3 : Try.prog.cellsOf 3 = 1 := by kernel_rfl
  have k9 : Try.prog.cellsOf 9 = 1 := by kernel_rfl
  simp [Value.cells, k3, k9] at e0f0 e0f1 e0f2 e0f3
  subst e0f0 e0f1 e0f2 e0f3
  clear hx0 hf0 hy0f0 hy0f1 hy0f2 hy0f3
  have lt0 : ∀ x ∈ p0, x.block < W.heap.size := by obtain ⟨m, hm⟩ := h0; exact DataW.trod_lt m _ _ _ hm
  clear hA0 hval0
  refine (walkPackApart a0f0 a0f1 a0f2 a0f3 W w0f2 w0f3).mono fun e W' ⟨he, bel⟩ => ?_
  subst he
  exact ⟨_, rfl, _, _, _, [], _, [], hW', trodAll_mk1 (shut_bool Try.underlying4 _), (trodAll_cons_mk (Below.trod laidOut (by kernel_rfl) (of_decide_eq_true (by kernel_rfl)) h0 bel lt0) trodAll_mk0), rfl, bel.frame _, fun h => by cases h⟩
end Go.Proofs.Ytjjdfmgmomndlaa.RowPackApart
namespace Go.Proofs.Ytjjdfmgmomndlaa
theorem packApart_holds : Rows.PackApartSaid :=
  OpenClaim.holds_of_wide 9 Try.f9 rfl rfl rfl rfl rfl rfl rfl ⟨rfl, rfl, rfl, rfl, rfl⟩ rfl rfl rfl rfl rfl (by kernel_rfl) Try.func9 (by kernel_rfl)
    (of_decide_eq_true (by kernel_rfl)) (by unfold Func.isWrapper; first | (rw [if_pos (by decide +kernel)]; kernel_rfl) | (rw [if_neg (by decide +kernel)]; exact ⟨rfl, rfl⟩))
    (fun os started H enc _ => RowPackApart.lifted os started H enc)
#print axioms packApart_holds
end Go.Proofs.Ytjjdfmgmomndlaa
