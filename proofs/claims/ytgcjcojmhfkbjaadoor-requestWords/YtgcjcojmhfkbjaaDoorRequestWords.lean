/- The row of the law RequestWords, out of its walk: for every input the law answers true, and the input reads as it did. -/
import Derived.Test.YtgcjcojmhfkbjaaDoorRows
import Derived.Test.YtgcjcojmhfkbjaaDoorRequestWordsWalk
import Derived.Test.YtgcjcojmhfkbjaaDoorRqDoor
import Derived.Test.YtgcjcojmhfkbjaaDoorCards
import Derived.Test.YtgcjcojmhfkbjaaDoorTie
import Derived.SevenTiedAt
import Derived.WalkKit
import Derived.ProofKit
import Derived.OpenShut
import Derived.ShutString
import Derived.ChangeOld
import Derived.Below
namespace Go.Proofs.YtgcjcojmhfkbjaaDoor.RowRequestWords
open Go.ChangeShapes Go.WideShapes Go.ChangeAt Go.RowKit
open Go.ChangeMaps (open_string shut_string)
set_option linter.unusedVariables false
theorem own : ownKnob Tryd.prog.godebug = none := by kernel_rfl
theorem laidOut : laidOutB Tryd.prog = true := by kernel_rfl
set_option maxRecDepth 100000 in
theorem lifted (os : Os) (started : os.Started) (H : Type) (enc : TypeId × Value → H) :
    ReturnsInHanded {} Tryd.checked os 8 .any (fun w args => (Rows.requestWordsSpec.pre enc Tryd.prog Tryd.f8 [] false w args ∧ laidMetH Tryd.prog laidK w) ∧ sizedMet enc Tryd.prog Tryd.f8 (OpenSpec.ofChange Rows.requestWordsSpec) false w args)
      (Rows.requestWordsSpec.post enc Tryd.prog Tryd.f8 false true false false) := by
  refine returnsInHanded_of_calls (C := Tryd.checked) own started (by kernel_rfl)
    (ChangeSpec.witness_shaped (enc := enc) (C := Tryd.checked) (os := os) (X := fun w _ => laidMetH Tryd.prog laidK w) false (World.laidAll Tryd.prog os laidK) #[.agg #[.int .i64 0, .string ByteArray.empty, .string ByteArray.empty]] 8 (World.laidAll_os _ _ _) (World.shaped_of_ZipB (by kernel_rfl) (by kernel_rfl)) (by kernel_rfl) (by kernel_rfl) (by kernel_rfl) (door_met os _)) ?_
  intro wx tape ip _ hsh _ hok hpre _
  obtain ⟨_, _, _, fn9, hfn9, _, _, _, _, hval9⟩ := hok
  obtain rfl : fn9 = Tryd.f8 := Option.some.inj (hfn9.symm.trans Tryd.func8)
  obtain ⟨⟨⟨ds, gs, before, hw9, hcnd⟩, hx9⟩, hz9⟩ := hpre
  have hW := DataW.Whole.of_heap (w' := wx.forCall tape ip) (by rfl) hw9
  have hL : laidMetH Tryd.prog laidK (wx.forCall tape ip) := laidMetH.of_heap (by rfl) hx9
  have hsz0 := hz9.weights hw9
  have hval0 := hval9
  suffices hgoal : Calls Tryd.prog 8 ip.args (wx.forCall tape ip) fun e W' => ∃ v, e = .returned v ∧ Rows.requestWordsSpec.post enc Tryd.prog Tryd.f8 false true false false (wx.forCall tape ip) ip.args v W' from
    hgoal.mono fun e W' ⟨v, he, hp⟩ => by subst he; exact ChangeSpec.post_blind hp
  clear hw9 hx9 hz9 hval9
  revert hsh hcnd hW hL hsz0 hval0
  generalize wx.forCall tape ip = W
  generalize ip.args = args
  intro hsh hcnd hW hL hsz0 hval0
  have hval : ∀ (j : Nat) t v, Tryd.f8.params[j]? = some t → args[j]? = some v → Value.okWide Tryd.prog W .any _ t v := hval0
  have hW' := hW
  obtain ⟨p, q, hA0, hV, rfl, hfz, hnd⟩ := hW
  have hA : DataW.TrodAll enc Tryd.prog W 0 (fun _ => true) true Tryd.f8.params.toList args.toList ds p := hA0
  rw [Tryd.params8] at hA hval
  obtain ⟨v0, vs0, d0, ds0, p0, q0, hargs, rfl, rfl, h0, r0⟩ := trodAll_cons hA
  obtain ⟨rfl, rfl, rfl⟩ := trodAll_nil r0
  obtain rfl : args = #[v0] := by cases args; simp_all
  obtain ⟨rfl, rfl⟩ := trodVars_none hV
  obtain ⟨cs0, rfl, hsz0⟩ := okWide_struct Tryd.underlying23 (hval 0 23 v0 rfl rfl)
  rw [show Tryd.prog.cellsOf 23 = 3 by kernel_rfl] at hsz0
  have lt0 : ∀ x ∈ p0, x.block < W.heap.size := by obtain ⟨m, hm⟩ := h0; exact DataW.trod_lt m _ _ _ hm
  have w0 : CameV 23 3 W (.agg cs0) := ⟨⟨cs0, rfl, hsz0⟩, H, enc, d0, p0, h0⟩
  clear hA0 hval0
  refine (walkRequestWords (.agg cs0) W (kd_of hL hsh) w0).mono fun e W' ⟨he, bel⟩ => ?_
  subst he
  exact ⟨_, rfl, _, _, _, [], _, [], hW', trodAll_mk1 (shut_bool Tryd.underlying4 _), (trodAll_cons_mk (Below.trod laidOut (by kernel_rfl) (of_decide_eq_true (by kernel_rfl)) h0 bel lt0) trodAll_mk0), rfl, bel.frame _, fun h => by cases h⟩
end Go.Proofs.YtgcjcojmhfkbjaaDoor.RowRequestWords
namespace Go.Proofs.YtgcjcojmhfkbjaaDoor
theorem requestWords_row : Rows.RequestWordsSaid :=
  OpenClaim.holds_of_wide 8 Tryd.f8 rfl rfl rfl rfl rfl rfl rfl ⟨rfl, rfl, rfl, rfl, rfl⟩ rfl rfl rfl rfl rfl (by kernel_rfl) Tryd.func8 (by kernel_rfl)
    (of_decide_eq_true (by kernel_rfl)) (by unfold Func.isWrapper; first | (rw [if_pos (by decide +kernel)]; kernel_rfl) | (rw [if_neg (by decide +kernel)]; exact ⟨rfl, rfl⟩))
    (fun os started H enc _ => RowRequestWords.lifted os started H enc)
theorem requestWords_holds : Rows.RequestWordsCardSaid :=
  Claim7.holds_tied_plain_at .later [] [.data, .data, .data, .data, .pinned] true (true, "f78197b0aa6d8daaa9aca1b6d63aa349be02386f5b2a8c8cbf78d32fe0aca9a5") false
    requestWords_row (fun _ h => by cases h) (by kernel_rfl) (fun _ h => by cases h) requestWords_row_tie rfl ⟨rfl, rfl⟩ (by kernel_rfl) rfl
    (fun f fn hf hfn => by
      obtain rfl : f = 8 := Option.some.inj ((show Tryd.prog.funcNamed "sluicegate/sluicegatelaw15.RequestWords" = some 8 by kernel_rfl).symm.trans hf) |>.symm
      obtain rfl : fn = Tryd.f8 := (Option.some.inj (Tryd.func8.symm.trans hfn)).symm
      exact ⟨by kernel_rfl, fun j t ht => by
        rw [Tryd.params8] at ht
        have hm : t ∈ [23] := by simpa using Array.mem_of_getElem? ht
        have hall : ([23].all fun u => !Tryd.prog.wantsStandIn u) = true := by kernel_rfl
        exact (show Tryd.prog.wantsStandIn t = false by simpa using List.all_eq_true.1 hall t hm)⟩)
    (by kernel_rfl)
#print axioms requestWords_holds
end Go.Proofs.YtgcjcojmhfkbjaaDoor
