/- The row of the law ModelOrder, out of its walk: for every input the law answers true, and the input reads as it did. -/
import Derived.Test.YtlpibpkbgmcclaaDoorRows
import Derived.Test.YtlpibpkbgmcclaaDoorModelOrderWalk
import Derived.Test.YtlpibpkbgmcclaaDoorMdDoor
import Derived.Test.YtlpibpkbgmcclaaDoorCards
import Derived.Test.YtlpibpkbgmcclaaDoorTie
import Derived.SevenTiedAt
import Derived.WalkKit
import Derived.ProofKit
import Derived.OpenShut
import Derived.ShutString
import Derived.ChangeOld
import Derived.Below
import Derived.SizedLaws
namespace Go.Proofs.YtlpibpkbgmcclaaDoor.RowModelOrder
open Go.ChangeShapes Go.WideShapes Go.ChangeAt Go.RowKit
open Go.ChangeMaps (open_string shut_string)
set_option linter.unusedVariables false
theorem own : ownKnob Tryd.prog.godebug = none := by kernel_rfl
theorem laidOut : laidOutB Tryd.prog = true := by kernel_rfl
set_option maxRecDepth 100000 in
theorem lifted (os : Os) (started : os.Started) (H : Type) (enc : TypeId × Value → H) :
    ReturnsInHanded {} Tryd.checked os 6 .any (fun w args => (Rows.modelOrderSpec.pre enc Tryd.prog Tryd.f6 [] false w args ∧ laidMetH Tryd.prog laidK w) ∧ sizedMet enc Tryd.prog Tryd.f6 (OpenSpec.ofChange Rows.modelOrderSpec) false w args)
      (Rows.modelOrderSpec.post enc Tryd.prog Tryd.f6 false true false false) := by
  refine returnsInHanded_of_calls (C := Tryd.checked) own started (by kernel_rfl)
    (ChangeSpec.witness_shaped (enc := enc) (C := Tryd.checked) (os := os) (X := fun w _ => laidMetH Tryd.prog laidK w) false (World.laidAll Tryd.prog os laidK) #[.slice none 0 0, .agg #[.int .i64 0, .string ByteArray.empty, .string ByteArray.empty], .agg #[.int .i64 0, .string ByteArray.empty, .string ByteArray.empty]] 8 (World.laidAll_os _ _ _) (World.shaped_of_ZipB (by kernel_rfl) (by kernel_rfl)) (by kernel_rfl) (by kernel_rfl) (by kernel_rfl) (door_met os _)) ?_
  intro wx tape ip _ hsh _ hok hpre _
  obtain ⟨_, _, _, fn9, hfn9, _, _, _, _, hval9⟩ := hok
  obtain rfl : fn9 = Tryd.f6 := Option.some.inj (hfn9.symm.trans Tryd.func6)
  obtain ⟨⟨⟨ds, gs, before, hw9, hcnd⟩, hx9⟩, hz9⟩ := hpre
  have hW := DataW.Whole.of_heap (w' := wx.forCall tape ip) (by rfl) hw9
  have hL : laidMetH Tryd.prog laidK (wx.forCall tape ip) := laidMetH.of_heap (by rfl) hx9
  have hsz0 := hz9.weights hw9
  have hval0 := hval9
  suffices hgoal : Calls Tryd.prog 6 ip.args (wx.forCall tape ip) fun e W' => ∃ v, e = .returned v ∧ Rows.modelOrderSpec.post enc Tryd.prog Tryd.f6 false true false false (wx.forCall tape ip) ip.args v W' from
    hgoal.mono fun e W' ⟨v, he, hp⟩ => by subst he; exact ChangeSpec.post_blind hp
  clear hw9 hx9 hz9 hval9
  revert hsh hcnd hW hL hsz0 hval0
  generalize wx.forCall tape ip = W
  generalize ip.args = args
  intro hsh hcnd hW hL hsz0 hval0
  have hsz : (DataW.weightsEach Tryd.prog (Tryd.f6.params.toList ++ Rows.modelOrderSpec.plain.varTypes Tryd.prog) (ds ++ gs)).all (· ≤ reachBytes) = true := hsz0
  have hval : ∀ (j : Nat) t v, Tryd.f6.params[j]? = some t → args[j]? = some v → Value.okWide Tryd.prog W .any _ t v := hval0
  have hW' := hW
  obtain ⟨p, q, hA0, hV, rfl, hfz, hnd⟩ := hW
  have hA : DataW.TrodAll enc Tryd.prog W 0 (fun _ => true) true Tryd.f6.params.toList args.toList ds p := hA0
  rw [Tryd.params6] at hA hval hsz
  obtain ⟨v0, vs0, d0, ds0, p0, q0, hargs, rfl, rfl, h0, r0⟩ := trodAll_cons hA
  obtain ⟨v1, vs1, d1, ds1, p1, q1, rfl, rfl, rfl, h1, r1⟩ := trodAll_cons r0
  obtain ⟨v2, vs2, d2, ds2, p2, q2, rfl, rfl, rfl, h2, r2⟩ := trodAll_cons r1
  obtain ⟨rfl, rfl, rfl⟩ := trodAll_nil r2
  obtain rfl : args = #[v0, v1, v2] := by cases args; simp_all
  obtain ⟨rfl, rfl⟩ := trodVars_none hV
  obtain ⟨a0, l0, c0, rfl⟩ := okWide_slice Tryd.underlying22 (hval 0 22 v0 rfl rfl)
  have lt0 : ∀ x ∈ p0, x.block < W.heap.size := by obtain ⟨m, hm⟩ := h0; exact DataW.trod_lt m _ _ _ hm
  have w0 : ∃ (H : Type) (enc : TypeId × Value → H) (d : DataW H) (ps : List MemPlace), DataW.Trod enc Tryd.prog W 0 (fun _ => true) true 22 (.slice a0 l0 c0) d ps := ⟨H, enc, d0, p0, h0⟩
  obtain ⟨cs1, rfl, hsz1⟩ := okWide_struct Tryd.underlying24 (hval 1 24 v1 rfl rfl)
  rw [show Tryd.prog.cellsOf 24 = 3 by kernel_rfl] at hsz1
  have lt1 : ∀ x ∈ p1, x.block < W.heap.size := by obtain ⟨m, hm⟩ := h1; exact DataW.trod_lt m _ _ _ hm
  have w1 : CameV 24 3 W (.agg cs1) := ⟨⟨cs1, rfl, hsz1⟩, H, enc, d1, p1, h1⟩
  obtain ⟨cs2, rfl, hsz2⟩ := okWide_struct Tryd.underlying24 (hval 2 24 v2 rfl rfl)
  rw [show Tryd.prog.cellsOf 24 = 3 by kernel_rfl] at hsz2
  have lt2 : ∀ x ∈ p2, x.block < W.heap.size := by obtain ⟨m, hm⟩ := h2; exact DataW.trod_lt m _ _ _ hm
  have w2 : CameV 24 3 W (.agg cs2) := ⟨⟨cs2, rfl, hsz2⟩, H, enc, d2, p2, h2⟩
  clear hA0 hval0
  refine (walkModelOrder a0 l0 c0 (.agg cs1) (.agg cs2) W (kd_of hL hsh) w0 w1 w2).mono fun e W' ⟨he, bel⟩ => ?_
  subst he
  exact ⟨_, rfl, _, _, _, [], _, [], hW', trodAll_mk1 (shut_bool Tryd.underlying4 _), (trodAll_cons_mk (Below.trod laidOut (by kernel_rfl) (of_decide_eq_true (by kernel_rfl)) h0 bel lt0) (trodAll_cons_mk (Below.trod laidOut (by kernel_rfl) (of_decide_eq_true (by kernel_rfl)) h1 bel lt1) (trodAll_cons_mk (Below.trod laidOut (by kernel_rfl) (of_decide_eq_true (by kernel_rfl)) h2 bel lt2) trodAll_mk0))), rfl, bel.frame _, fun h => by cases h⟩
end Go.Proofs.YtlpibpkbgmcclaaDoor.RowModelOrder
namespace Go.Proofs.YtlpibpkbgmcclaaDoor
theorem modelOrder_row : Rows.ModelOrderSaid :=
  OpenClaim.holds_of_wide 6 Tryd.f6 rfl rfl rfl rfl rfl rfl rfl ⟨rfl, rfl, rfl, rfl, rfl⟩ rfl rfl rfl rfl rfl (by kernel_rfl) Tryd.func6 (by kernel_rfl)
    (of_decide_eq_true (by kernel_rfl)) (by unfold Func.isWrapper; first | (rw [if_pos (by decide +kernel)]; kernel_rfl) | (rw [if_neg (by decide +kernel)]; exact ⟨rfl, rfl⟩))
    (fun os started H enc _ => RowModelOrder.lifted os started H enc)
theorem modelOrder_holds : Rows.ModelOrderCardSaid :=
  Claim7.holds_tied_plain_at .later [] [.data, .data, .data, .data] true (true, "fc0f45478d35ecf1d122f79ff0455653ff0e5d4a4614e9c70674bed44d4ec5cc") true
    modelOrder_row (fun _ h => by cases h) (by kernel_rfl) (fun _ h => by cases h) modelOrder_row_tie rfl ⟨rfl, rfl⟩ (by kernel_rfl) rfl
    (fun f fn hf hfn => by
      obtain rfl : f = 6 := Option.some.inj ((show Tryd.prog.funcNamed "sluicegate/sluicegatelaw16.ModelOrder" = some 6 by kernel_rfl).symm.trans hf) |>.symm
      obtain rfl : fn = Tryd.f6 := (Option.some.inj (Tryd.func6.symm.trans hfn)).symm
      exact ⟨by kernel_rfl, fun j t ht => by
        rw [Tryd.params6] at ht
        have hm : t ∈ [22, 24, 24] := by simpa using Array.mem_of_getElem? ht
        have hall : ([22, 24, 24].all fun u => !Tryd.prog.wantsStandIn u) = true := by kernel_rfl
        exact (show Tryd.prog.wantsStandIn t = false by simpa using List.all_eq_true.1 hall t hm)⟩)
    (by kernel_rfl)
#print axioms modelOrder_holds
end Go.Proofs.YtlpibpkbgmcclaaDoor
