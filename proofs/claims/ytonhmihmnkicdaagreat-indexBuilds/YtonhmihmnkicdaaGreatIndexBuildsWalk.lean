/- The law IndexBuilds, walked. (Written by genky.py.) -/
import Derived.Test.YtonhmihmnkicdaaGreatKxSame
import Derived.Test.YtonhmihmnkicdaaGreatKxBuild
namespace Go.Proofs.YtonhmihmnkicdaaGreat
open Go.RowKit
set_option linter.unusedVariables false
set_option maxRecDepth 100000 in
set_option maxHeartbeats 32000000 in
theorem walkIndexBuilds (a0 : Option Addr) (l0 c0 : Nat) (a1 : Option Addr) (l1 c1 : Nat) (w : World) (h0 : Came 22 w a0 l0 c0) (h1 : CameSz 23 w a1 l1 c1) : Calls Tryz.prog 4 #[.slice a0 l0 c0, .slice a1 l1 c1] w fun e w' => e = .returned (.bool true) ∧ Below w.heap.size w w' := by
  obtain ⟨ls, hls, hc1, z1, hR, hcm⟩ := came_recs h0
  obtain ⟨ks, hkl, z2, hks, hok⟩ := came_keys h1
  clear h0 h1 hc1
  have HRW := hide hR
  have HLS := hide hls
  have HCM := hide hcm
  have HLK := hide (fun x hx => LocsK.came (hR.2 x hx) : ∀ x ∈ ls, LocsK w.heap.size w x.2.1 x.1.ls)
  have HKL := hide hkl
  have HKS := hide hks
  have HKO := hide hok
  clear hR hls hcm hkl hks hok
  by_cases h30 : 30 < l0
  · have d1 : decide ((30 : Int) < (l0 : Int)) = true := by simp; omega
    have d2 : decide (30 < l0) = true := by simpa using h30
    clear h30
    clear z1
    go_enter Tryz.func4, Tryz.ntmps4
    go_wp2_with fail
    refine (live13_any w).mono ?_
    rintro e w2 ⟨rfl, hb⟩
    have HF := hide hb
    clear hb
    go_wp2_with fail
    try go_ret
    exact ⟨rfl, HF.out⟩
  have d1 : decide ((30 : Int) < (l0 : Int)) = false := by simp; omega
  have d2 : decide (30 < l0) = false := by simpa using h30
  have H30 : Hid (l0 ≤ 30) := by unfold Hid; omega
  clear h30
  by_cases h12 : 12 < l1
  · have d3 : decide ((12 : Int) < (l1 : Int)) = true := by simp; omega
    have d4 : decide (12 < l1) = true := by simpa using h12
    clear h12
    clear z1
    go_enter Tryz.func4, Tryz.ntmps4
    go_wp2_with fail
    refine (live13_any w).mono ?_
    rintro e w2 ⟨rfl, hb⟩
    have HF := hide hb
    clear hb
    go_wp2_with fail
    try go_ret
    exact ⟨rfl, HF.out⟩
  have d3 : decide ((12 : Int) < (l1 : Int)) = false := by simp; omega
  have d4 : decide (12 < l1) = false := by simpa using h12
  have H12 : Hid (l1 ≤ 12) := by unfold Hid; omega
  clear h12 z1 z2
  go_enter Tryz.func4, Tryz.ntmps4
  go_wp2_with fail
  go_loopw [5] (fun y wr => ∃ k : Nat, k ≤ l0 ∧ y = .int .i64 k ∧ Hid (Below w.heap.size w wr ∧ ∀ x ∈ ls.take k, x.1.sm)) (fun y _ => l0 - (kIx y).toNat)
  case atStart => exact ⟨0, by omega, rfl, hide ⟨Below.refl _ _, fun x hx => by simp at hx⟩⟩
  case round =>
    obtain ⟨k, hk, rfl, HO⟩ := hrel
    by_cases hlt : k < l0
    · have hd : decide ((k : Int) < (l0 : Int)) = true := by simp; omega
      have hdi : (k : Int) < (l0 : Int) := by omega
      have hd0 : (0 : Int) ≤ (k : Int) := by omega
      have hl30 : l0 ≤ 30 := H30.out
      obtain ⟨⟨x, xa, xc⟩, hx⟩ : ∃ x, ls[k]? = some x := ⟨_, List.getElem?_eq_getElem (by have := HLS.out; omega)⟩
      have hxm : (x, xa, xc) ∈ ls := List.mem_of_getElem? hx
      have HPN : Hid (∀ W, Below w.heap.size w W → ∃ b1 o1, a0 = some ⟨b1, o1, none⟩ ∧ W.rangeAt b1 (o1 + k * 14) (rtC (x, xa, xc)).toList) := fun W hW => by
        obtain ⟨b1, o1, e, hb1, p1, q1⟩ := (HRW.out.below hW).nth hx
        exact ⟨b1, o1, e, p1⟩
      obtain ⟨b1, o1, rfl, p1⟩ := HPN.out wr HO.out.1
      have HPX : Hid (∀ W, Below w.heap.size w W → W.rangeAt b1 (o1 + k * 14) (rtC (x, xa, xc)).toList) := fun W hW => by
        obtain ⟨b2, o2, e, p2⟩ := HPN.out W hW
        cases e; exact p2
      have P1 := hide p1
      have HCX := hide (HCM.out _ hxm)
      have HKX := hide (HLK.out _ hxm)
      have HSX := hide (small_any x xa xc wr HCX.out)
      have HXX := hide hx
      clear hx hxm p1 HPN
      go_wp2_with (first | (refine wpList_load_mid rfl 40 (.tmp 27) rfl b1 (o1 + k * 14) rfl (rtC (x, xa, xc)).toList _ P1.out Tryz.underlying40 rfl ref_info ?_; rw [show (rtC (x, xa, xc)).toList.toArray = rcs x xa xc from rfl]))
      refine HSX.out.mono ?_
      rintro e w3 ⟨rfl, hb⟩
      have HB3 := hide (HO.out.1.trans (hb.mono HO.out.1.size))
      clear hb HSX P1
      cases hsx : smlB x with
      | false =>
        go_wp2_with fail
        refine (live13_any w3).mono ?_
        rintro e w4 ⟨rfl, hb⟩
        have HF := hide (HB3.out.trans (hb.mono HB3.out.size))
        clear hb
        go_wp2_with fail
        try go_ret
        exact ⟨rfl, HF.out⟩
      | true =>
        have HN : Hid (Below w.heap.size w w3 ∧ ∀ y ∈ ls.take (k + 1), y.1.sm) := ⟨HB3.out, fun y hy => by
          rw [List.take_add_one, HXX.out] at hy
          rcases List.mem_append.1 hy with q | q
          · exact HO.out.2 y q
          · rw [show y = (x, xa, xc) by simpa using q]; exact sm_of HCX.out hsx⟩
        clear hsx
        go_wp2_with fail
        all_goals exact ⟨⟨k + 1, by omega, by go_num, HN⟩, by simp [kIx]; omega⟩
    · have hd : decide ((k : Int) < (l0 : Int)) = false := by simp; omega
      have HSA : Hid (∀ x ∈ ls, x.1.sm) := by have := HO.out.2; rw [List.take_of_length_le (by have := HLS.out; omega)] at this; exact this
      have HB := hide HO.out.1
      have HLM : Hid ((ls.map Prod.fst).length = l0) := by unfold Hid; rw [List.length_map]; exact HLS.out
      clear HO
      go_wp2_with fail
      refine (owns13_any a0 c0 l0 ls wr HLS.out (by have := H30.out; omega) (HRW.out.below HB.out)).mono ?_
      rintro e w1 ⟨oa, oc, rfl, hoc, hor, hb⟩
      have HB1 := hide (HB.out.trans (hb.mono HB.out.size))
      have HQ1 := hide (ix_build oa l0 oc ls w1 HLS.out (by have := H30.out; omega) hor HSA.out)
      clear hb hor hoc
      go_wp2_with fail
      refine HQ1.out.mono ?_
      rintro e w2 ⟨I, n1, rfl, hbi, hix, hb⟩
      have HB2 := hide (HB1.out.trans (hb.mono HB1.out.size))
      have HBI := hide hbi
      have HIX := hide hix
      clear hb hbi hix HQ1
      have HQ2 := hide (kx_build a0 l0 c0 ls w2 HLS.out (by have := H30.out; omega) (HRW.out.below HB2.out) HSA.out)
      go_wp2_with fail
      refine HQ2.out.mono ?_
      rintro e w3 ⟨K, S, n2, rfl, hbi2, hkx, hrl, hle, hb⟩
      obtain rfl := build_same HBI.out hbi2
      have HB3 := hide (HB2.out.trans (hb.mono HB2.out.size))
      have HIX3 := hide (HIX.out.below hb)
      have HIV : Hid ((appN FX.nil ((ls.map Prod.fst).take n1)).Inv) := inv_appN inv_nil _ fun r hr => by
        obtain ⟨x, hx, rfl⟩ := List.mem_map.1 (List.mem_of_mem_take hr)
        exact sm_ek (HSA.out x hx)
      have h30 := H30.out
      have h12 := H12.out
      have hlm := HLM.out
      have hlev := hle.v
      have HQ3 := hide (kx_same HIX3.out hkx hrl HIV.out (by omega) (hle.mono (by omega)) (by omega) a1 l1 c1 ks HKL.out (by omega) (HKS.out.below HB3.out) HKO.out)
      clear hb hbi2 hkx hrl hle HQ2 hlm hlev
      go_wp2_with fail
      refine HQ3.out.mono ?_
      rintro e w4 ⟨rfl, hb⟩
      have HB4 := hide (HB3.out.trans (hb.mono HB3.out.size))
      clear hb HQ3
      go_wp2_with fail
      refine (live13_any w4).mono ?_
      rintro e w5 ⟨rfl, hb⟩
      have HF := hide (HB4.out.trans (hb.mono HB4.out.size))
      clear hb
      go_wp2_with fail
      try go_ret
      exact ⟨rfl, HF.out⟩
end Go.Proofs.YtonhmihmnkicdaaGreat
