/- The law IndexApplies, walked. (Written by genky.py.) -/
import Derived.Test.YtonhmihmnkicdaaGreatKxSame
import Derived.Test.YtonhmihmnkicdaaGreatKxBuild
namespace Go.Proofs.YtonhmihmnkicdaaGreat
open Go.RowKit
set_option linter.unusedVariables false
set_option maxRecDepth 100000 in
set_option maxHeartbeats 32000000 in
theorem walkIndexApplies (a0 : Option Addr) (l0 c0 : Nat) (a1 : Option Addr) (l1 c1 : Nat) (w : World) (h0 : Came 22 w a0 l0 c0) (h1 : CameSz 23 w a1 l1 c1) : Calls Tryz.prog 3 #[.slice a0 l0 c0, .slice a1 l1 c1] w fun e w' => e = .returned (.bool true) ∧ Below w.heap.size w w' := by
  obtain ⟨ls, hls, hc1, z1, hR, hcm⟩ := came_recs h0
  obtain ⟨ks, hkl, z2, hks, hok⟩ := came_keys h1
  clear h0 h1 hc1
  have HRW := hide hR
  have HLS := hide hls
  have HCM := hide hcm
  have HLK := hide (fun x hx => LocsK.came (hR.2 x hx) : ∀ x ∈ ls, LocsK w.heap.size w x.2.1 x.1.ls)
  have HKL := hide hkl
  have HKS := hide hks
  have HKO := hide hok
  clear hR hls hcm hkl hks hok
  by_cases h30 : 30 < l0
  · have d1 : decide ((30 : Int) < (l0 : Int)) = true := by simp; omega
    have d2 : decide (30 < l0) = true := by simpa using h30
    clear h30
    clear z1
    go_enter Tryz.func3, Tryz.ntmps3
    go_wp2_with fail
    refine (live13_any w).mono ?_
    rintro e w2 ⟨rfl, hb⟩
    have HF := hide hb
    clear hb
    go_wp2_with fail
    try go_ret
    exact ⟨rfl, HF.out⟩
  have d1 : decide ((30 : Int) < (l0 : Int)) = false := by simp; omega
  have d2 : decide (30 < l0) = false := by simpa using h30
  have H30 : Hid (l0 ≤ 30) := by unfold Hid; omega
  clear h30
  by_cases h12 : 12 < l1
  · have d3 : decide ((12 : Int) < (l1 : Int)) = true := by simp; omega
    have d4 : decide (12 < l1) = true := by simpa using h12
    clear h12
    clear z1
    go_enter Tryz.func3, Tryz.ntmps3
    go_wp2_with fail
    refine (live13_any w).mono ?_
    rintro e w2 ⟨rfl, hb⟩
    have HF := hide hb
    clear hb
    go_wp2_with fail
    try go_ret
    exact ⟨rfl, HF.out⟩
  have d3 : decide ((12 : Int) < (l1 : Int)) = false := by simp; omega
  have d4 : decide (12 < l1) = false := by simpa using h12
  have H12 : Hid (l1 ≤ 12) := by unfold Hid; omega
  clear h12 z1 z2
  go_enter Tryz.func3, Tryz.ntmps3
  go_wp2_with fail
  refine (ix_new w).mono ?_
  rintro e w1 ⟨I, rfl, hX, hb⟩
  have HX1 := hide hX
  have HB1 := hide hb
  clear hX hb
  have HNW := hide (kx_new (B := w.heap.size) (W := w1) HB1.out.size)
  have hba : Below w1.heap.size w1 (w1.alloc (.cells #[.slice none 0 0, .slice none 0 0, .slice none 0 0, .slice none 0 0] 32)) := (Below.refl _ _).alloc (Nat.le_refl _) _
  have HB2 := hide (HB1.out.trans (hba.mono HB1.out.size))
  have HX2 := hide (HX1.out.below hba)
  clear hba
  go_upto_region 5 with fail
  generalize w1.alloc (.cells #[.slice none 0 0, .slice none 0 0, .slice none 0 0, .slice none 0 0] 32) = W2 at *
  generalize w1.heap.size = kb at *
  go_wp2_with fail
  go_loopw [7] (fun y wr => ∃ (k : Nat) (K : Kx) (X : FX) (S : KS), k ≤ l0 ∧ y = .int .i64 k ∧ K.kb = kb ∧ Hid (AP w I K k X S wr)) (fun y _ => l0 - (kIx y).toNat)
  case atStart => exact ⟨0, ⟨kb, .slice none 0 0, .slice none 0 0, .slice none 0 0, .slice none 0 0⟩, FX.nil, KS.nil, by omega, rfl, rfl, hide ⟨HB2.out, HX2.out, HNW.out, rel_nil, inv_nil, nil_le _⟩⟩
  case round =>
    obtain ⟨k, K, X, S, hk, rfl, hKb, HO⟩ := hrel
    by_cases hlt : k < l0
    · have hd : decide ((k : Int) < (l0 : Int)) = true := by simp; omega
      have hdi : (k : Int) < (l0 : Int) := by omega
      have hd0 : (0 : Int) ≤ (k : Int) := by omega
      have hl30 : l0 ≤ 30 := H30.out
      obtain ⟨⟨x, xa, xc⟩, hx⟩ : ∃ x, ls[k]? = some x := ⟨_, List.getElem?_eq_getElem (by have := HLS.out; omega)⟩
      have hxm : (x, xa, xc) ∈ ls := List.mem_of_getElem? hx
      have HPN : Hid (∀ W, Below w.heap.size w W → ∃ b1 o1, a0 = some ⟨b1, o1, none⟩ ∧ W.rangeAt b1 (o1 + k * 14) (rtC (x, xa, xc)).toList) := fun W hW => by
        obtain ⟨b1, o1, e, hb1, p1, q1⟩ := (HRW.out.below hW).nth hx
        exact ⟨b1, o1, e, p1⟩
      obtain ⟨b1, o1, rfl, p1⟩ := HPN.out wr HO.out.bel
      have HPX : Hid (∀ W, Below w.heap.size w W → W.rangeAt b1 (o1 + k * 14) (rtC (x, xa, xc)).toList) := fun W hW => by
        obtain ⟨b2, o2, e, p2⟩ := HPN.out W hW
        cases e; exact p2
      have P1 := hide p1
      have HCX := hide (HCM.out _ hxm)
      have HKX := hide (HLK.out _ hxm)
      have HSX := hide (small_any x xa xc wr HCX.out)
      have HKB := hide hKb
      clear hx hxm p1 HPN hKb
      go_wp2_with (first | (refine wpList_load_mid rfl 40 (.tmp 34) rfl b1 (o1 + k * 14) rfl (rtC (x, xa, xc)).toList _ P1.out Tryz.underlying40 rfl ref_info ?_; rw [show (rtC (x, xa, xc)).toList.toArray = rcs x xa xc from rfl]))
      refine HSX.out.mono ?_
      rintro e w3 ⟨rfl, hb⟩
      have HO3 := hide (HO.out.below hb)
      clear hb HSX HO P1
      cases hsx : smlB x with
      | false =>
        go_wp2_with fail
        refine (live13_any w3).mono ?_
        rintro e w4 ⟨rfl, hb⟩
        have HF := hide (HO3.out.bel.trans (hb.mono HO3.out.bel.size))
        clear hb
        go_wp2_with fail
        try go_ret
        exact ⟨rfl, HF.out⟩
      | true =>
        have HSM := hide (sm_of HCX.out hsx)
        have P3 := hide (HPX.out w3 HO3.out.bel)
        have hlx : ∀ W, Below w.heap.size w W → LocsK w.heap.size W xa x.ls := fun W hW => HKX.out.mod (Mds.of_below (fun _ => False) hW (Nat.le_refl _))
        have HLX := hide hlx
        clear hsx HCX hlx
        go_wp2_with (first | (refine wpList_load_mid rfl 40 (.tmp 42) rfl b1 (o1 + k * 14) rfl (rtC (x, xa, xc)).toList _ P3.out Tryz.underlying40 rfl ref_info ?_; rw [show (rtC (x, xa, xc)).toList.toArray = rcs x xa xc from rfl]))
        refine (own13_any x xa xc w3).mono ?_
        rintro e w4 ⟨rfl, hb⟩
        have HO4 := hide (HO3.out.below hb)
        clear hb HO3 P3
        go_wp2_with fail
        refine (ix_may HO4.out.ix (inv_len HO4.out.inv) x xa xc (HLX.out _ HO4.out.bel).at HSM.out.1 HSM.out.2).mono ?_
        rintro e w5 ⟨rfl, hb⟩
        have HO5 := hide (HO4.out.below hb)
        have P5 := hide (HPX.out w5 HO5.out.bel)
        clear hb HO4
        have HQ5 := hide (kx_may HO5.out.kx HO5.out.rel HO5.out.inv (HO5.out.le.mono (by omega)).fit x xa xc (HLX.out _ HO5.out.bel).at HSM.out.1)
        rw [HKB.out] at HQ5
        go_wp2_with (first | (refine wpList_load_mid rfl 40 (.tmp 49) rfl b1 (o1 + k * 14) rfl (rtC (x, xa, xc)).toList _ P5.out Tryz.underlying40 rfl ref_info ?_; rw [show (rtC (x, xa, xc)).toList.toArray = rcs x xa xc from rfl]))
        refine HQ5.out.mono ?_
        rintro e w6 ⟨rfl, hb⟩
        have HO6 := hide (HO5.out.below hb)
        have P6 := hide (HPX.out w6 HO6.out.bel)
        clear hb HO5 P5 HQ5
        go_wp2_with (first | (refine wpList_load_mid rfl 40 (.tmp 56) rfl b1 (o1 + k * 14) rfl (rtC (x, xa, xc)).toList _ P6.out Tryz.underlying40 rfl ref_info ?_; rw [show (rtC (x, xa, xc)).toList.toArray = rcs x xa xc from rfl]))
        refine (own13_any x xa xc w6).mono ?_
        rintro e w7 ⟨rfl, hb⟩
        have HO7 := hide (HO6.out.below hb)
        clear hb HO6 P6
        have HQ7 := hide (ix_apply HO7.out.ix HO7.out.inv (by omega) x xa xc (HLX.out _ HO7.out.bel) HSM.out.1 HSM.out.2)
        go_wp2_with fail
        refine HQ7.out.mono ?_
        rintro e w8 ⟨sa, sc, rfl, hsc, ⟨hsv, hst⟩, hix, hm⟩
        have HIX8 := hide hix
        have HKX8 := hide (HO7.out.kx.ixmod HO7.out.ix hm)
        have HB8 := hide (HO7.out.bel.trans hm.bel)
        have HSV := hide hsv
        have HST := hide hst
        have P8 := hide (HPX.out w8 HB8.out)
        have HAO := hide (appO_small HO7.out.inv x)
        obtain ⟨n5, hn5⟩ : ∃ n5, (X.appO x).length = n5 := ⟨_, rfl⟩
        rw [hn5]
        have HN5 := hide hn5
        clear hix hm hsc hsv hst HQ7
        have HQ8 := hide (kx_apply HKX8.out HO7.out.rel HO7.out.inv (HO7.out.le.mono (by omega)) x xa xc (HLX.out _ HB8.out) HSM.out.1)
        rw [HKB.out] at HQ8
        clear hn5
        go_wp2_with (first | (refine wpList_load_mid rfl 40 (.tmp 66) rfl b1 (o1 + k * 14) rfl (rtC (x, xa, xc)).toList _ P8.out Tryz.underlying40 rfl ref_info ?_; rw [show (rtC (x, xa, xc)).toList.toArray = rcs x xa xc from rfl]))
        refine HQ8.out.mono ?_
        rintro e w9 ⟨K9, a9, c9, rfl, h1, h2, h3, h4, h5⟩
        rw [HN5.out]
        have HSV9 := hide (HSV.out.kx HST.out HKX8.out h5)
        have HIX9 := hide (HIX8.out.kxmod HKX8.out h5)
        have HK9 := hide h4
        have HKB9 := hide (h3.trans HKB.out)
        have HB9 := hide (HB8.out.trans h5.bel)
        have HV9 := hide h2
        have HRL9 := hide (rel_app HO7.out.rel HO7.out.inv (r := x))
        have HIV9 := hide (inv_app HO7.out.inv (sm_ek HSM.out))
        have HLE9 := hide (app_le HO7.out.le (X := X) (r := x))
        clear h1 h2 h3 h4 h5 HQ8
        generalize X.may x = mv at *
        go_wp2_with fail
        refine (vosame_any w.heap.size sa a9 sc c9 n5 n5 (X.appO x) (X.appO x) w9 HN5.out HN5.out (by have := HAO.out.1; have := HN5.out; omega) (by have := HAO.out.1; have := HN5.out; omega) HSV9.out HV9.out HAO.out.2 HAO.out.2).mono ?_
        rintro e w10 ⟨rfl, hb⟩
        rw [show decide (X.appO x = X.appO x) = true by simp]
        have HO10 : Hid (AP w I K9 (k + 1) (X.app x) (S.app X x) w10) := ⟨HB9.out.trans (hb.mono HB9.out.size), (HIX9.out.below hb).mono (by omega), HK9.out.below hb, HRL9.out, HIV9.out, HLE9.out⟩
        clear hb
        have HQ10 := hide (kx_same HO10.out.ix HO10.out.kx HO10.out.rel HO10.out.inv (by omega) (HO10.out.le.mono (by omega)) (by have := HO10.out.le.v; omega) a1 l1 c1 ks HKL.out (by have := H12.out; omega) (HKS.out.below HO10.out.bel) HKO.out)
        rw [HKB9.out] at HQ10
        go_wp2_with fail
        refine HQ10.out.mono ?_
        rintro e w11 ⟨rfl, hb⟩
        have HO11 := hide (HO10.out.below hb)
        clear hb HQ10
        go_wp2_with fail
        all_goals exact ⟨⟨k + 1, K9, X.app x, S.app X x, by omega, by go_num, HKB9.out, HO11⟩, by simp [kIx]; omega⟩
    · have hd : decide ((k : Int) < (l0 : Int)) = false := by simp; omega
      go_wp2_with fail
      refine (live13_any wr).mono ?_
      rintro e w2 ⟨rfl, hb⟩
      have HF := hide (HO.out.bel.trans (hb.mono HO.out.bel.size))
      clear hb
      go_wp2_with fail
      try go_ret
      exact ⟨rfl, HF.out⟩
end Go.Proofs.YtonhmihmnkicdaaGreat
