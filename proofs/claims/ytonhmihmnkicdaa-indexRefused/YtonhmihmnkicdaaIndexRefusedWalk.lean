/- The law IndexRefused, walked. (Written by genxw.py.) -/
import Derived.Test.YtonhmihmnkicdaaIxLaw
namespace Go.Proofs.Ytonhmihmnkicdaa
open Go.RowKit
set_option linter.unusedVariables false
/-- a whole struct is loaded where the guard says so -/
theorem wpList_want {ops : Array Oper} {rest : List Oper} {o : Oper} {a : Act} {w : World} {Q : Exit → Act → World → Prop} (hw : Region.wanted o (yielded ops a.tmps) = true) (h : ∀ K : Act → World → Prop, (∀ a w, wpList Try.prog ops Q rest a w → K a w) → o.wp Try.prog a w K Q) : wpList Try.prog ops Q (o :: rest) a w :=
  wpList_step fun K hK => by rw [if_pos hw]; exact h K hK
theorem app_refused {X : FX} {r : Rc} (h : X.may r ≠ 0) : X.app r = X := by unfold FX.app; rw [if_neg h]
set_option maxRecDepth 100000 in
set_option maxHeartbeats 16000000 in
theorem walkIndexRefused (a0 : Option Addr) (l0 c0 : Nat) (v1 : Value) (w : World) (h0 : Came 22 w a0 l0 c0) (h1 : CameV 33 14 w v1) : Calls Try.prog 4 #[.slice a0 l0 c0, v1] w fun e w' => e = .returned (.bool true) ∧ Below w.heap.size w w' := by
  obtain ⟨ls, hls, hc1, z1, hR, hcm⟩ := came_recs h0
  obtain ⟨r, ra, rc, rfl, hT, htm⟩ := rc_open h1
  clear h0 h1 hc1
  have hb1 : Below w.heap.size w (w.alloc (.cells (rcs r ra rc) 33)) := (Below.refl _ _).alloc (Nat.le_refl _) _
  have HK0 := hide (rbx_new 33 r ra rc w)
  have HB0 := hide hb1
  have HS := hide (small_any r ra rc)
  have HTM := hide htm
  have HRW := hide hR
  have HTW := hide hT
  have HLS := hide hls
  have HCM := hide hcm
  clear hb1 hR hT hls hcm
  by_cases h30 : 30 < l0
  · have d1 : decide ((30 : Int) < (l0 : Int)) = true := by simp; omega
    have d2 : decide (30 < l0) = true := by simpa using h30
    clear h30 z1
    go_enter Try.func4, Try.ntmps4
    go_upto_region 1 with fail
    generalize w.alloc (.cells (rcs r ra rc) 33) = W1 at *
    go_wp2_with fail
    refine (live13_any W1).mono ?_
    rintro e w2 ⟨rfl, hb⟩
    have HF := hide (HB0.out.trans (hb.mono HB0.out.size))
    clear hb
    go_wp2_with fail
    try go_ret
    exact ⟨rfl, HF.out⟩
  have d1 : decide ((30 : Int) < (l0 : Int)) = false := by simp; omega
  have d2 : decide (30 < l0) = false := by simpa using h30
  have H30 : Hid (l0 ≤ 30) := by unfold Hid; omega
  clear h30 z1
  go_enter Try.func4, Try.ntmps4
  go_upto_region 1 with fail
  generalize w.alloc (.cells (rcs r ra rc) 33) = W1 at *
  go_wp2_with (first | (refine wpList_want (by first | rfl | simp [Region.wanted, yielded]) (fun K hK => wp_load_row 33 (.tmp 3) rfl w.heap.size rfl 33 (rcs r ra rc) (0, 0) _ HK0.out Try.underlying33 rfl ref_info (hK _ _ ?_))))
  refine (HS.out W1 HTM.out).mono ?_
  rintro e w2 ⟨rfl, hb⟩
  have HB2 := hide (HB0.out.trans (hb.mono HB0.out.size))
  have HK2 := hide (HK0.out.below hb HK0.out.lt)
  clear hb HB0 HK0 HS
  cases hsr : smlB r with
  | false =>
    go_wp2_with fail
    refine (live13_any w2).mono ?_
    rintro e w3 ⟨rfl, hb⟩
    have HF := hide (HB2.out.trans (hb.mono HB2.out.size))
    clear hb
    go_wp2_with fail
    try go_ret
    exact ⟨rfl, HF.out⟩
  | true =>
  have HSR := hide (sm_of HTM.out hsr)
  clear hsr HTM
  go_wp2_with fail
  go_loopw [5] (fun y wr => ∃ k : Nat, k ≤ l0 ∧ y = .int .i64 k ∧ Below w.heap.size w wr ∧ RBx w.heap.size 33 r ra rc wr ∧ ∀ i x, i < k → ls[i]? = some x → smlB x.1 = true) (fun y _ => l0 - (vInt y).toNat)
  case atStart => exact ⟨0, by omega, rfl, HB2.out, HK2.out, fun i x hi => by omega⟩
  case round =>
    obtain ⟨k, hk, rfl, hbk, hrk, hsk⟩ := hrel
    have HBk := hide hbk
    have HRk := hide hrk
    have HSk := hide hsk
    clear hbk hrk hsk
    by_cases hlt : k < l0
    · have hd : decide ((k : Int) < (l0 : Int)) = true := by simp; omega
      have hdi : (k : Int) < (l0 : Int) := by omega
      have hd0 : (0 : Int) ≤ (k : Int) := by omega
      have hl30 : l0 ≤ 30 := H30.out
      obtain ⟨⟨x, xa, xc⟩, hx⟩ : ∃ x, ls[k]? = some x := ⟨_, List.getElem?_eq_getElem (by have := HLS.out; omega)⟩
      obtain ⟨b1, o1, rfl, hb1, p1, q1⟩ := (HRW.out.below HBk.out).nth hx
      have P1 := hide p1
      have HX := hide hx
      have HSX := hide (small_any x xa xc wr (HCM.out _ (List.mem_of_getElem? hx)))
      clear hx p1 q1
      go_wp2_with (first | (refine wpList_load_mid rfl 33 (.tmp 31) rfl b1 (o1 + k * 14) rfl (rtC (x, xa, xc)).toList _ P1.out Try.underlying33 rfl ref_info ?_; rw [show (rtC (x, xa, xc)).toList.toArray = rcs x xa xc from rfl]))
      refine HSX.out.mono ?_
      rintro e w3 ⟨rfl, hb⟩
      have HB3 := hide (HBk.out.trans (hb.mono HBk.out.size))
      have HR3 := hide (HRk.out.below hb HRk.out.lt)
      clear hb HSX
      cases hsx : smlB x with
      | false =>
        go_wp2_with fail
        refine (live13_any w3).mono ?_
        rintro e w4 ⟨rfl, hb⟩
        have HF := hide (HB3.out.trans (hb.mono HB3.out.size))
        clear hb
        go_wp2_with fail
        try go_ret
        exact ⟨rfl, HF.out⟩
      | true =>
        have HN : Hid (∀ i y, i < k + 1 → ls[i]? = some y → smlB y.1 = true) := fun i y hi hy => by
          by_cases e : i = k
          · subst e; rw [HX.out] at hy; cases hy; exact hsx
          · exact HSk.out i y (by omega) hy
        clear hsx
        go_wp2_with fail
        exact ⟨⟨k + 1, by omega, by go_num, HB3.out, HR3.out, HN.out⟩, by simp [vInt]; omega⟩
    · have hkl : k = l0 := by omega
      subst hkl
      have hd : decide ((k : Int) < (k : Int)) = false := by simp
      have HSM : Hid (∀ x ∈ ls, x.1.sm) := fun x hx => by
        obtain ⟨i, hi, e⟩ := List.getElem_of_mem hx
        have hy : ls[i]? = some x := by rw [List.getElem?_eq_getElem hi, e]
        exact sm_of (HCM.out x hx) (HSk.out i x (by have := HLS.out; omega) hy)
      have hown := owns13_any a0 c0 k ls wr HLS.out (by have := H30.out; omega) (HRW.out.below HBk.out)
      have HOW := hide hown
      clear hown hlt
      go_wp2_with fail
      refine HOW.out.mono ?_
      rintro e wo ⟨oa, oc, rfl, hoc, hrec, hb⟩
      have HREC := hide (hrec)
      clear hrec hoc HOW
      have HBk_1 := hide (HBk.out.trans (hb.mono HBk.out.size))
      have HRk_1 := hide (HRk.out.below hb HRk.out.lt)
      clear HBk HRk hb
      have HBD := hide (ix_build oa k oc ls wo HLS.out (by have := H30.out; omega) HREC.out HSM.out)
      have HLK := hide (LocsK.came (HTW.out.below HBk_1.out))
      have HLE := hide (HBk_1.out.size)
      go_wp2_with fail
      refine HBD.out.mono ?_
      rintro e wb ⟨I, kk, rfl, hbi, hix, hb⟩
      have HIV : Hid (appN FX.nil ((ls.map Prod.fst).take kk)).Inv := inv_appN inv_nil _ fun q hq => by
        obtain ⟨x, hx, rfl⟩ := List.mem_map.1 (List.mem_of_mem_take hq)
        exact sm_ek (HSM.out x hx)
      have HLM : Hid ((ls.map Prod.fst).length = k) := by unfold Hid; rw [List.length_map]; exact HLS.out
      generalize appN FX.nil ((ls.map Prod.fst).take kk) = X at *
      have hix2 : IxAt wo.heap.size wb I 200 X := hix.mono (by have := HLM.out; have := H30.out; omega)
      have HX := hide (And.intro hix2 HIV.out)
      have HLK2 := hide (HLK.out.below hb)
      clear hbi hix hix2 HBD HLK
      clear HREC
      have HBk_2 := hide (HBk_1.out.trans (hb.mono HBk_1.out.size))
      have HRk_2 := hide (HRk_1.out.below hb HRk_1.out.lt)
      clear HBk_1 HRk_1 hb
      have HQ := hide (ix_list HX.out.1 (by omega) ByteArray.empty 1000)
      go_wp2_with fail
      refine HQ.out.mono ?_
      rintro e wl ⟨ka, kc, KL, rfl, hkc, hkn, hks, hkl, hb⟩
      have HKI := hide hkl
      have HKN := hide hkn
      clear HQ hkc hkl hkn
      have HKS := hide hks
      clear hks
      have HBk_3 := hide (HBk_2.out.trans (hb.mono HBk_2.out.size))
      have HRk_3 := hide (HRk_2.out.below hb HRk_2.out.lt)
      have HX_3 := hide (And.intro (HX.out.1.below hb) HX.out.2)
      have HLK2_3 := hide (HLK2.out.below hb)
      clear HBk_2 HRk_2 HX HLK2 hb
      have HQ := hide (ix_volumes HX_3.out.1 (by omega) (inv_ls1 HX_3.out.2))
      go_wp2_with fail
      refine HQ.out.mono ?_
      rintro e wv ⟨va, vc, VL, rfl, hvc, hvn, hvs, hvl, hb⟩
      have HVI := hide hvl
      have HVN := hide hvn
      clear HQ hvc hvl hvn
      have HVS := hide hvs
      clear hvs
      have HBk_4 := hide (HBk_3.out.trans (hb.mono HBk_3.out.size))
      have HRk_4 := hide (HRk_3.out.below hb HRk_3.out.lt)
      have HX_4 := hide (And.intro (HX_3.out.1.below hb) HX_3.out.2)
      have HLK2_4 := hide (HLK2_3.out.below hb)
      have HKS_4 := hide (HKS.out.below hb)
      clear HBk_3 HRk_3 HX_3 HLK2_3 HKS hb
      have HQ := hide (ix_next HX_4.out.1 (by omega) HX_4.out.2.h)
      go_wp2_with fail
      refine HQ.out.mono ?_
      rintro e wn ⟨N, rfl, hn1, hn2, hb⟩
      have HNI := hide hn1
      clear HQ hn1 hn2
      have HBk_5 := hide (HBk_4.out.trans (hb.mono HBk_4.out.size))
      have HRk_5 := hide (HRk_4.out.below hb HRk_4.out.lt)
      have HX_5 := hide (And.intro (HX_4.out.1.below hb) HX_4.out.2)
      have HLK2_5 := hide (HLK2_4.out.below hb)
      have HKS_5 := hide (HKS_4.out.below hb)
      have HVS_5 := hide (HVS.out.below hb)
      clear HBk_4 HRk_4 HX_4 HLK2_4 HKS_4 HVS hb
      go_wp2_with (first | (refine wpList_load_row rfl 33 (.tmp 3) rfl w.heap.size rfl 33 (rcs r ra rc) (0, 0) _ HRk_5.out Try.underlying33 rfl ref_info ?_))
      refine (own13_any r ra rc wn).mono ?_
      rintro e wm ⟨rfl, hb⟩
      have HBk_6 := hide (HBk_5.out.trans (hb.mono HBk_5.out.size))
      have HRk_6 := hide (HRk_5.out.below hb HRk_5.out.lt)
      have HX_6 := hide (And.intro (HX_5.out.1.below hb) HX_5.out.2)
      have HLK2_6 := hide (HLK2_5.out.below hb)
      have HKS_6 := hide (HKS_5.out.below hb)
      have HVS_6 := hide (HVS_5.out.below hb)
      clear HBk_5 HRk_5 HX_5 HLK2_5 HKS_5 HVS_5 hb
      have HQ := hide (ix_may HX_6.out.1 (inv_len HX_6.out.2) r ra rc HLK2_6.out.at HSR.out.1 HSR.out.2)
      go_wp2_with fail
      refine HQ.out.mono ?_
      rintro e wy ⟨rfl, hb⟩
      clear HQ
      have HBk_7 := hide (HBk_6.out.trans (hb.mono HBk_6.out.size))
      have HRk_7 := hide (HRk_6.out.below hb HRk_6.out.lt)
      have HX_7 := hide (And.intro (HX_6.out.1.below hb) HX_6.out.2)
      have HLK2_7 := hide (HLK2_6.out.below hb)
      have HKS_7 := hide (HKS_6.out.below hb)
      have HVS_7 := hide (HVS_6.out.below hb)
      clear HBk_6 HRk_6 HX_6 HLK2_6 HKS_6 HVS_6 hb
      have HQ := hide (ix_volumes HX_7.out.1 (by omega) (inv_ls1 HX_7.out.2))
      generalize hmy : X.may r = my at *
      have HMY := hide hmy
      clear hmy
      go_wp2_with fail
      refine HQ.out.mono ?_
      rintro e wv2 ⟨va2, vc2, VL2, rfl, hvc, hvn, hvs, hvl, hb⟩
      rw [volsIs_same hvl HVI.out]
      clear HQ hvc hvl hvn hvs
      have HBk_8 := hide (HBk_7.out.trans (hb.mono HBk_7.out.size))
      have HRk_8 := hide (HRk_7.out.below hb HRk_7.out.lt)
      have HX_8 := hide (And.intro (HX_7.out.1.below hb) HX_7.out.2)
      have HLK2_8 := hide (HLK2_7.out.below hb)
      have HKS_8 := hide (HKS_7.out.below hb)
      have HVS_8 := hide (HVS_7.out.below hb)
      clear HBk_7 HRk_7 HX_7 HLK2_7 HKS_7 HVS_7 hb
      have HQ := hide (ix_next HX_8.out.1 (by omega) HX_8.out.2.h)
      have hvv : ((VL.length : Int) != (VL.length : Int)) = false := by simp
      go_wp2_with fail
      refine HQ.out.mono ?_
      rintro e wn2 ⟨N2, rfl, hn1, hn2, hb⟩
      obtain rfl := nextIs_same HX_8.out.2.h hn1 HNI.out
      clear HQ hn1 hn2
      have HBk_9 := hide (HBk_8.out.trans (hb.mono HBk_8.out.size))
      have HRk_9 := hide (HRk_8.out.below hb HRk_8.out.lt)
      have HX_9 := hide (And.intro (HX_8.out.1.below hb) HX_8.out.2)
      have HLK2_9 := hide (HLK2_8.out.below hb)
      have HKS_9 := hide (HKS_8.out.below hb)
      have HVS_9 := hide (HVS_8.out.below hb)
      clear HBk_8 HRk_8 HX_8 HLK2_8 HKS_8 HVS_8 hb
      have hnn : (N2 != N2) = false := by simp
      go_wp2_with (first | (refine wpList_load_row rfl 33 (.tmp 3) rfl w.heap.size rfl 33 (rcs r ra rc) (0, 0) _ HRk_9.out Try.underlying33 rfl ref_info ?_))
      refine (own13_any r ra rc wn2).mono ?_
      rintro e wm2 ⟨rfl, hb⟩
      have HBk_10 := hide (HBk_9.out.trans (hb.mono HBk_9.out.size))
      have HRk_10 := hide (HRk_9.out.below hb HRk_9.out.lt)
      have HX_10 := hide (And.intro (HX_9.out.1.below hb) HX_9.out.2)
      have HLK2_10 := hide (HLK2_9.out.below hb)
      have HKS_10 := hide (HKS_9.out.below hb)
      have HVS_10 := hide (HVS_9.out.below hb)
      clear HBk_9 HRk_9 HX_9 HLK2_9 HKS_9 HVS_9 hb
      have HQ := hide (ix_apply HX_10.out.1 HX_10.out.2 (by omega) r ra rc HLK2_10.out HSR.out.1 HSR.out.2)
      go_wp2_with fail
      refine HQ.out.mono ?_
      rintro e wp ⟨sa, sc, rfl, hsc, hsv, hix, hm⟩
      rw [HMY.out]
      have HX2 := hide (And.intro hix (inv_app HX_10.out.2 (sm_ek HSR.out)))
      clear HQ hsc hsv hix
      have HXO := HX_10
      have HBk_11 := hide (HBk_10.out.trans (hm.bel.mono HLE.out))
      have HRk_11 := hide (show RBx w.heap.size 33 r ra rc _ from (hm.blk _ HRk_10.out.lt (HXO.out.1.noown HRk_10.out.c0 (fun m e => by cases e))).trans HRk_10.out)
      have HKS_11 := hide (HKS_10.out.mds HXO.out.1 hm)
      have HVS_11 := hide (HVS_10.out.mds HXO.out.1 hm)
      clear HBk_10 HRk_10 HX_10 HKS_10 HVS_10 hm
      have hmm : (my != my) = false := by simp
      by_cases hm0 : my = 0
      · have q1 : (my == 0) = true := by simpa using hm0
        clear hm0
        go_wp2_with fail
        refine (live13_any _).mono ?_
        rintro e wz ⟨rfl, hb⟩
        have HF := hide (HBk_11.out.trans (hb.mono HBk_11.out.size))
        clear hb
        go_wp2_with fail
        try go_ret
        exact ⟨rfl, HF.out⟩
      · have q1 : (my == 0) = false := by simpa using hm0
        have hap : X.app r = X := app_refused (by rw [HMY.out]; exact hm0)
        rw [hap] at HX2
        clear hap hm0
        have HQ := hide (ix_list HX2.out.1 (by omega) ByteArray.empty 1000)
        go_wp2_with fail
        refine HQ.out.mono ?_
        rintro e wl2 ⟨ka2, kc2, KL2, rfl, hkc, hkn, hks, hkl, hb⟩
        obtain rfl := listIs_same hkl HKI.out
        clear HQ hkc hkl hkn
        have HKT := hide hks
        clear hks
        have HBk_12 := hide (HBk_11.out.trans (hb.mono HBk_11.out.size))
        have HRk_12 := hide (HRk_11.out.below hb HRk_11.out.lt)
        have HKS_12 := hide (HKS_11.out.below hb)
        have HVS_12 := hide (HVS_11.out.below hb)
        have HX2_12 := hide (And.intro (HX2.out.1.below hb) HX2.out.2)
        clear HBk_11 HRk_11 HKS_11 HVS_11 HX2 hb
        have HQ := hide (keys_same ka2 ka kc2 kc KL2.length KL2 wl2 rfl (by have := HKN.out; omega) HKT.out HKS_12.out)
        go_wp2_with fail
        refine HQ.out.mono ?_
        rintro e wc ⟨rfl, hb⟩
        clear HQ
        have HBk_13 := hide (HBk_12.out.trans (hb.mono HBk_12.out.size))
        have HRk_13 := hide (HRk_12.out.below hb HRk_12.out.lt)
        have HKS_13 := hide (HKS_12.out.below hb)
        have HVS_13 := hide (HVS_12.out.below hb)
        have HX2_13 := hide (And.intro (HX2_12.out.1.below hb) HX2_12.out.2)
        have HKT_13 := hide (HKT.out.below hb)
        clear HBk_12 HRk_12 HKS_12 HVS_12 HX2_12 HKT hb
        have HQ := hide (ix_volumes HX2_13.out.1 (by omega) (inv_ls1 HX2_13.out.2))
        go_wp2_with fail
        refine HQ.out.mono ?_
        rintro e wv3 ⟨va3, vc3, VL3, rfl, hvc, hvn, hvs, hvl, hb⟩
        obtain rfl := volsIs_same hvl HVI.out
        clear HQ hvc hvl hvn
        have HVT := hide hvs
        clear hvs
        have HBk_14 := hide (HBk_13.out.trans (hb.mono HBk_13.out.size))
        have HRk_14 := hide (HRk_13.out.below hb HRk_13.out.lt)
        have HKS_14 := hide (HKS_13.out.below hb)
        have HVS_14 := hide (HVS_13.out.below hb)
        have HX2_14 := hide (And.intro (HX2_13.out.1.below hb) HX2_13.out.2)
        have HKT_14 := hide (HKT_13.out.below hb)
        clear HBk_13 HRk_13 HKS_13 HVS_13 HX2_13 HKT_13 hb
        have HQ := hide (vosame_any wo.heap.size va3 va vc3 vc VL3.length VL3.length VL3 VL3 wv3 rfl rfl (by have := HVN.out; omega) (by have := HVN.out; omega) HVT.out HVS_14.out (volsIs_ls HX2_14.out.2 HVI.out) (volsIs_ls HX2_14.out.2 HVI.out))
        go_wp2_with fail
        refine HQ.out.mono ?_
        rintro e wc2 ⟨rfl, hb⟩
        simp only [decide_true]
        clear HQ
        have HBk_15 := hide (HBk_14.out.trans (hb.mono HBk_14.out.size))
        have HRk_15 := hide (HRk_14.out.below hb HRk_14.out.lt)
        have HKS_15 := hide (HKS_14.out.below hb)
        have HVS_15 := hide (HVS_14.out.below hb)
        have HX2_15 := hide (And.intro (HX2_14.out.1.below hb) HX2_14.out.2)
        have HKT_15 := hide (HKT_14.out.below hb)
        have HVT_15 := hide (HVT.out.below hb)
        clear HBk_14 HRk_14 HKS_14 HVS_14 HX2_14 HKT_14 HVT hb
        have HQ := hide (ix_next HX2_15.out.1 (by omega) HX2_15.out.2.h)
        go_wp2_with fail
        refine HQ.out.mono ?_
        rintro e wn3 ⟨N3, rfl, hn1, hn2, hb⟩
        obtain rfl := nextIs_same HX2_15.out.2.h hn1 HNI.out
        clear HQ hn1 hn2
        have HBk_16 := hide (HBk_15.out.trans (hb.mono HBk_15.out.size))
        have HRk_16 := hide (HRk_15.out.below hb HRk_15.out.lt)
        have HKS_16 := hide (HKS_15.out.below hb)
        have HVS_16 := hide (HVS_15.out.below hb)
        have HX2_16 := hide (And.intro (HX2_15.out.1.below hb) HX2_15.out.2)
        have HKT_16 := hide (HKT_15.out.below hb)
        have HVT_16 := hide (HVT_15.out.below hb)
        clear HBk_15 HRk_15 HKS_15 HVS_15 HX2_15 HKT_15 HVT_15 hb
        go_wp2_with fail
        refine (live13_any _).mono ?_
        rintro e wz ⟨rfl, hb⟩
        have HF := hide (HBk_16.out.trans (hb.mono HBk_16.out.size))
        clear hb
        go_wp2_with fail
        try go_ret
        exact ⟨rfl, HF.out⟩
end Go.Proofs.Ytonhmihmnkicdaa
