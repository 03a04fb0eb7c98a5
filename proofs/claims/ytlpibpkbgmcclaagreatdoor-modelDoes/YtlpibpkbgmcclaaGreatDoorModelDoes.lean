/- The row of the law ModelDoes, out of its walk: for every input the law answers true, and the input reads as it did. -/
import Derived.Test.YtlpibpkbgmcclaaGreatDoorRows
import Derived.Test.YtlpibpkbgmcclaaGreatDoorModelDoesWalk
import Derived.Test.YtlpibpkbgmcclaaGreatDoorMdDoor
import Derived.Test.YtlpibpkbgmcclaaGreatDoorCards
import Derived.Test.YtlpibpkbgmcclaaGreatDoorTie
import Derived.SevenTiedAt
import Derived.WalkKit
import Derived.ProofKit
import Derived.OpenShut
import Derived.ShutString
import Derived.ChangeOld
import Derived.Below
import Derived.SizedLaws
namespace Go.Proofs.YtlpibpkbgmcclaaGreatDoor.RowModelDoes
open Go.ChangeShapes Go.WideShapes Go.ChangeAt Go.RowKit
open Go.ChangeMaps (open_string shut_string)
set_option linter.unusedVariables false
theorem own : ownKnob Tryz.prog.godebug = none := by kernel_rfl
theorem laidOut : laidOutB Tryz.prog = true := by kernel_rfl
set_option maxRecDepth 100000 in
theorem lifted (os : Os) (started : os.Started) (H : Type) (enc : TypeId × Value → H) :
    ReturnsInHanded {} Tryz.checked os 3 .any (fun w args => (Rows.modelDoesSpec.pre enc Tryz.prog Tryz.f3 [] false w args ∧ laidMetH Tryz.prog laidK w) ∧ sizedMet enc Tryz.prog Tryz.f3 (OpenSpec.ofChange Rows.modelDoesSpec) false w args)
      (Rows.modelDoesSpec.post enc Tryz.prog Tryz.f3 false true false false) := by
  refine returnsInHanded_of_calls (C := Tryz.checked) own started (by kernel_rfl)
    (ChangeSpec.witness_shaped (enc := enc) (C := Tryz.checked) (os := os) (X := fun w _ => laidMetH Tryz.prog laidK w) false (World.laidAll Tryz.prog os laidK) #[.slice none 0 0] 8 (World.laidAll_os _ _ _) (World.shaped_of_ZipB (by kernel_rfl) (by kernel_rfl)) (by kernel_rfl) (by kernel_rfl) (by kernel_rfl) (door_met os _)) ?_
  intro wx tape ip _ hsh _ hok hpre _
  obtain ⟨_, _, _, fn9, hfn9, _, _, _, _, hval9⟩ := hok
  obtain rfl : fn9 = Tryz.f3 := Option.some.inj (hfn9.symm.trans Tryz.func3)
  obtain ⟨⟨⟨ds, gs, before, hw9, hcnd⟩, hx9⟩, hz9⟩ := hpre
  have hW := DataW.Whole.of_heap (w' := wx.forCall tape ip) (by rfl) hw9
  have hL : laidMetH Tryz.prog laidK (wx.forCall tape ip) := laidMetH.of_heap (by rfl) hx9
  have hsz0 := hz9.weights hw9
  have hval0 := hval9
  suffices hgoal : Calls Tryz.prog 3 ip.args (wx.forCall tape ip) fun e W' => ∃ v, e = .returned v ∧ Rows.modelDoesSpec.post enc Tryz.prog Tryz.f3 false true false false (wx.forCall tape ip) ip.args v W' from
    hgoal.mono fun e W' ⟨v, he, hp⟩ => by subst he; exact ChangeSpec.post_blind hp
  clear hw9 hx9 hz9 hval9
  revert hsh hcnd hW hL hsz0 hval0
  generalize wx.forCall tape ip = W
  generalize ip.args = args
  intro hsh hcnd hW hL hsz0 hval0
  have hsz : (DataW.weightsEach Tryz.prog (Tryz.f3.params.toList ++ Rows.modelDoesSpec.plain.varTypes Tryz.prog) (ds ++ gs)).all (· ≤ reachBytes) = true := hsz0
  have hval : ∀ (j : Nat) t v, Tryz.f3.params[j]? = some t → args[j]? = some v → Value.okWide Tryz.prog W .any _ t v := hval0
  have hW' := hW
  obtain ⟨p, q, hA0, hV, rfl, hfz, hnd⟩ := hW
  have hA : DataW.TrodAll enc Tryz.prog W 0 (fun _ => true) true Tryz.f3.params.toList args.toList ds p := hA0
  rw [Tryz.params3] at hA hval hsz
  obtain ⟨v0, vs0, d0, ds0, p0, q0, hargs, rfl, rfl, h0, r0⟩ := trodAll_cons hA
  obtain ⟨rfl, rfl, rfl⟩ := trodAll_nil r0
  obtain rfl : args = #[v0] := by cases args; simp_all
  obtain ⟨rfl, rfl⟩ := trodVars_none hV
  obtain ⟨a0, l0, c0, rfl⟩ := okWide_slice Tryz.underlying22 (hval 0 22 v0 rfl rfl)
  have lt0 : ∀ x ∈ p0, x.block < W.heap.size := by obtain ⟨m, hm⟩ := h0; exact DataW.trod_lt m _ _ _ hm
  have w0 : ∃ (H : Type) (enc : TypeId × Value → H) (d : DataW H) (ps : List MemPlace), DataW.Trod enc Tryz.prog W 0 (fun _ => true) true 22 (.slice a0 l0 c0) d ps := ⟨H, enc, d0, p0, h0⟩
  clear hA0 hval0
  refine (walkModelDoes a0 l0 c0 W (kd_of hL hsh) w0).mono fun e W' ⟨he, bel⟩ => ?_
  subst he
  exact ⟨_, rfl, _, _, _, [], _, [], hW', trodAll_mk1 (shut_bool Tryz.underlying4 _), (trodAll_cons_mk (Below.trod laidOut (by kernel_rfl) (of_decide_eq_true (by kernel_rfl)) h0 bel lt0) trodAll_mk0), rfl, bel.frame _, fun h => by cases h⟩
end Go.Proofs.YtlpibpkbgmcclaaGreatDoor.RowModelDoes
namespace Go.Proofs.YtlpibpkbgmcclaaGreatDoor
theorem modelDoes_row : Rows.ModelDoesSaid :=
  OpenClaim.holds_of_wide 3 Tryz.f3 rfl rfl rfl rfl rfl rfl rfl ⟨rfl, rfl, rfl, rfl, rfl⟩ rfl rfl rfl rfl rfl (by kernel_rfl) Tryz.func3 (by kernel_rfl)
    (of_decide_eq_true (by kernel_rfl)) (by unfold Func.isWrapper; first | (rw [if_pos (by decide +kernel)]; kernel_rfl) | (rw [if_neg (by decide +kernel)]; exact ⟨rfl, rfl⟩))
    (fun os started H enc _ => RowModelDoes.lifted os started H enc)
theorem modelDoes_holds : Rows.ModelDoesCardSaid :=
  Claim7.holds_tied_plain_at .later [] [.data, .data, .data, .data] true (true, "886d8f740887553020e742b85febd694a929b9f32a29d8d60ad61ad8932962e7") false
    modelDoes_row (fun _ h => by cases h) (by kernel_rfl) (fun _ h => by cases h) modelDoes_row_tie rfl ⟨rfl, rfl⟩ (by kernel_rfl) rfl
    (fun f fn hf hfn => by
      obtain rfl : f = 3 := Option.some.inj ((show Tryz.prog.funcNamed "sluicegate/sluicegatelaw16.ModelDoes" = some 3 by kernel_rfl).symm.trans hf) |>.symm
      obtain rfl : fn = Tryz.f3 := (Option.some.inj (Tryz.func3.symm.trans hfn)).symm
      exact ⟨by kernel_rfl, fun j t ht => by
        rw [Tryz.params3] at ht
        have hm : t ∈ [22] := by simpa using Array.mem_of_getElem? ht
        have hall : ([22].all fun u => !Tryz.prog.wantsStandIn u) = true := by kernel_rfl
        exact (show Tryz.prog.wantsStandIn t = false by simpa using List.all_eq_true.1 hall t hm)⟩)
    (by kernel_rfl)
#print axioms modelDoes_holds
end Go.Proofs.YtlpibpkbgmcclaaGreatDoor
