/- The law PinsOther, walked. -/
import Derived.Test.YtghcekhlohgkaaaPnLive
import Derived.Test.YtghcekhlohgkaaaCamePn
import Derived.Test.YtghcekhlohgkaaaPnMathB
namespace Go.Proofs.Ytghcekhlohgkaaa
open Go.RowKit
set_option linter.unusedVariables false
set_option maxRecDepth 100000 in
set_option maxHeartbeats 16000000 in
theorem other_is (av : Option Addr) (n c : Nat) (i g : Int) (L : List VD) (w : World) (hl : L.length = n) (hk : OkP (i, g)) (hv : VosAt w.heap.size w av L) (hok : ∀ x ∈ L, OkP x.pin ∧ x.ls.length ≤ 8796093022208) :
    Calls Try.prog 7 #[.slice av n c, .int .i64 i, .int .i64 g] w fun e w' => e = .returned (.bool true) ∧ Below w.heap.size w w' := by
  have HL := hide hl
  have HV := hide hv
  have HK := hide hk
  have HOK := hide hok
  clear hl hv hk hok
  by_cases hbig : ¬ n ≤ 20
  · have h1 : decide ((20 : Int) < (n : Int)) = true := by simp; omega
    go_enter Try.func7, Try.ntmps7
    go_wp2_with fail
    refine (live_any _).mono ?_
    rintro e w1 ⟨rfl, hb⟩
    have HB := hide hb
    clear hb
    go_wp2_with fail
    try go_ret
    exact ⟨rfl, HB.out⟩
  have hn : n ≤ 20 := by omega
  have h1 : decide ((20 : Int) < (n : Int)) = false := by simp; omega
  clear hbig
  go_enter Try.func7, Try.ntmps7
  go_wp2_with fail
  refine (l_new w).mono ?_
  rintro e w1 ⟨b, rfl, hp, hb⟩
  have HP1 := hide hp
  have HB1 := hide hb
  clear hp hb
  go_wp2_with fail
  refine (l_pin HP1.out i g HK.out (by omega)).mono ?_
  rintro e w2 ⟨rfl, hp, hb⟩
  have HP2 : Hid (Pl w.heap.size b 1 (R1q (i, g)) [] [] w2) := hp
  have HB2 := hide (HB1.out.trans hb)
  clear hp hb HP1 HB1
  go_wp2_with fail
  go_loopw [8, 9] (fun y8 y9 wr => ∃ k : Nat, k ≤ n ∧ y9 = .int .i64 k ∧ y8 = .int .i64 (cntP (reLs (L.take k)) (i, g) : Nat) ∧ Pl w.heap.size b 1 (R1q (i, g)) (reLs (L.take k)) [] wr ∧ Below w.heap.size w wr) (fun y8 y9 _ => n - (intOf y9).toNat)
  case atStart => exact ⟨0, by omega, rfl, rfl, HP2.out, HB2.out⟩
  case round =>
    obtain ⟨k, hk, rfl, rfl, hp, hb⟩ := hrel
    have HP := hide hp
    have HB := hide hb
    clear hp hb
    by_cases hlt : k < n
    · have hd : decide ((k : Int) < (n : Int)) = true := by simp; omega
      have hdi : (k : Int) < (n : Int) := by omega
      have hd0 : (0 : Int) ≤ (k : Int) := by omega
      obtain ⟨x, hx⟩ : ∃ x, L[k]? = some x := ⟨_, List.getElem?_eq_getElem (by have := HL.out; omega)⟩
      obtain ⟨b1, o1, xa, xc, rfl, hb1, p1, q1⟩ := (HV.out.below HB.out).nth hx
      obtain ⟨d0, d1, d2, d3⟩ := p1
      simp only at d0 d1 d2 d3
      obtain ⟨hxk, hxl⟩ := HOK.out x (List.mem_of_getElem? hx)
      have HSN := hide (reLs_snoc hx)
      have HCN := hide (cntP_reL (reLs (L.take k)) x (i, g))
      have HPN : Hid ((x.id = i ∧ x.gen = g) ↔ x.pin = (i, g)) := by unfold Hid VD.pin; simp
      obtain ⟨m, hm⟩ : ∃ m, x.ls.length = m := ⟨_, rfl⟩
      rw [hm] at d3 hxl
      by_cases hm20 : ¬ m ≤ 20
      · have h2 : decide ((20 : Int) < (m : Int)) = true := by simp; omega
        clear hx hm q1 hxk
        go_wp2_with fail
        refine (live_any _).mono ?_
        rintro e w3 ⟨rfl, hb3⟩
        have HB3 := hide (HB.out.trans (hb3.mono HB.out.size))
        clear hb3
        go_wp2_with fail
        try go_ret
        exact ⟨rfl, HB3.out⟩
      have h2 : decide ((20 : Int) < (m : Int)) = false := by simp; omega
      have HC := hide (l_retire HP.out x xa m xc hm hxl q1.at (by have := len_reLs L k; omega))
      have HVB := hide ((HV.out.below HB.out).nth hx)
      have HCL : Hid (cntP (reLs (L.take k)) (i, g) ≤ 1) := cntP_reLs _ _
      obtain ⟨c0, hc0⟩ : ∃ c0, cntP (reLs (L.take k)) (i, g) = c0 := ⟨_, rfl⟩
      rw [hc0] at HCL
      have HC0 := hide hc0
      rw [hc0]
      clear hx hm q1 hxk hxl hm20 hc0
      go_wp2_with fail
      refine HC.out.mono ?_
      rintro e w3 ⟨rfl, hp3, hb3⟩
      have HP3 := hide hp3
      have HB3 := hide (HB.out.trans hb3)
      have z0 := (hb3.cell (p := ⟨b1, o1 + k * 4, none⟩) (by have := HV.out; rcases this with q | ⟨b', o', q, q2, _⟩; (have := HL.out; subst q; simp at this; omega); (injection q with q; injection q with q; subst q; exact q2))).trans d0
      have z1 := (hb3.cell (p := ⟨b1, o1 + k * 4 + 1, none⟩) (by have := HV.out; rcases this with q | ⟨b', o', q, q2, _⟩; (have := HL.out; subst q; simp at this; omega); (injection q with q; injection q with q; subst q; exact q2))).trans d1
      clear hp3 hb3 d0 d1 d2 d3
      by_cases hE : reE (reLs (L.take k)) x = 0
      · rw [hE]
        by_cases hi : x.id = i
        · by_cases hg : x.gen = g
          · have hqi : (x.id == i) = true := by simpa using hi
            have hqg : (x.gen == g) = true := by simpa using hg
            have HN : Hid (cntP (reLs (L.take (k + 1))) (i, g) = c0 + 1) := by unfold Hid; rw [HSN.out, HCN.out, HC0.out, if_pos ⟨hE, HPN.out.1 ⟨hi, hg⟩⟩]
            have hc1 := HCL.out
            clear hE hi hg
            go_wp2_with fail
            exact ⟨⟨k + 1, by omega, by go_num, by rw [HN.out]; go_num, by rw [HSN.out]; exact HP3.out, HB3.out⟩, by simp [intOf]; omega⟩
          · have hqi : (x.id == i) = true := by simpa using hi
            have hqg : (x.gen == g) = false := by simpa using hg
            have HN : Hid (cntP (reLs (L.take (k + 1))) (i, g) = c0) := by unfold Hid; rw [HSN.out, HCN.out, HC0.out, if_neg (fun q => hg (HPN.out.2 q.2).2), Nat.add_zero]
            clear hE hi hg
            go_wp2_with fail
            exact ⟨⟨k + 1, by omega, by go_num, by rw [HN.out], by rw [HSN.out]; exact HP3.out, HB3.out⟩, by simp [intOf]; omega⟩
        · have hqi : (x.id == i) = false := by simpa using hi
          have HN : Hid (cntP (reLs (L.take (k + 1))) (i, g) = c0) := by unfold Hid; rw [HSN.out, HCN.out, HC0.out, if_neg (fun q => hi (HPN.out.2 q.2).1), Nat.add_zero]
          clear hE hi
          go_wp2_with fail
          exact ⟨⟨k + 1, by omega, by go_num, by rw [HN.out], by rw [HSN.out]; exact HP3.out, HB3.out⟩, by simp [intOf]; omega⟩
      · have hE2 : reE (reLs (L.take k)) x = 13 := by unfold reE at hE ⊢; split <;> simp_all
        have HN : Hid (cntP (reLs (L.take (k + 1))) (i, g) = c0) := by unfold Hid; rw [HSN.out, HCN.out, HC0.out, if_neg (fun q => hE q.1), Nat.add_zero]
        rw [hE2]
        clear hE hE2
        go_wp2_with fail
        exact ⟨⟨k + 1, by omega, by go_num, by rw [HN.out], by rw [HSN.out]; exact HP3.out, HB3.out⟩, by simp [intOf]; omega⟩
    · have hd : decide ((k : Int) < (n : Int)) = false := by simp; omega
      have hkk : L.take k = L := List.take_of_length_le (by have := HL.out; omega)
      rw [hkk] at HP ⊢
      have HLN : Hid ((reLs L).length ≤ 20) := by have := len_reLs L k; rw [hkk] at this; show _ ≤ _; omega
      have HMEM : Hid (∀ x ∈ reLs L, OkP x.pin ∧ x.ls.length ≤ 8796093022208) := fun x hx => HOK.out x (mem_reLs hx)
      have HO1 := hide (rpO_one (reLs L) (i, g))
      have HL1 := hide (rpL_one (reLs L) (i, g))
      have HPIN : Hid (∀ x ∈ rpO (R1q (i, g)) (reLs L), x.pin ≠ (i, g)) := fun x hx => rpO_pin hx
      have hc1 := cntP_reLs L (i, g)
      have HCLE : Hid (cntP (reLs L) (i, g) ≤ (reLs L).length) := by unfold Hid cntP; exact List.length_filter_le _ _
      generalize reLs L = M at *
      generalize cntP M (i, g) = h0 at *
      obtain ⟨mn, hmn⟩ : ∃ mn, M.length = mn := ⟨_, rfl⟩
      have HMN := hide hmn
      clear hmn
      go_wp2_with fail
      refine (l_waits HP.out (fun x hx => (HMEM.out x hx).2) (by have := HLN.out; omega)).mono ?_
      rintro e w4 ⟨a4, c4, rfl, -, hb4⟩
      have HP4 := hide (HP.out.below hb4)
      have HB4 := hide (HB.out.trans (hb4.mono HB.out.size))
      rw [HMN.out]
      clear hb4
      go_wp2_with fail
      refine (l_reap HP4.out (by have := HLN.out; omega) (fun x hx => (HMEM.out x hx).1)).mono ?_
      rintro e w5 ⟨a5, c5, rfl, hc5, hp5, hb5⟩
      have HP5 := hide hp5
      have HB5 := hide (HB4.out.trans hb5)
      clear hp5 hb5
      have HRL := hide (hide HL1.out)
      obtain ⟨on, hon⟩ : ∃ on, (rpO (R1q (i, g)) M).length = on := ⟨_, rfl⟩
      rw [hon] at HP5 HO1 ⊢
      have HON := hide hon
      have HO2 : Hid (on = mn - h0) := by unfold Hid; rw [HO1.out, HMN.out]
      have hle : h0 ≤ mn := by have := HCLE.out; rw [HMN.out] at this; exact this
      have hmn20 : mn ≤ 20 := by have := HLN.out; rw [HMN.out] at this; exact this
      have hon20 : on ≤ 20 := by have := HO2.out; omega
      clear hon HO1
      go_wp2_with fail
      obtain ⟨wo, hwo⟩ : ∃ wo, wo = wr := ⟨_, rfl⟩
      subst hwo
      go_loopw [12] (fun y wr => ∃ j : Nat, j ≤ on ∧ y = .int .i64 j ∧ Pl w.heap.size b 1 (R1q (i, g)) (rpL (R1q (i, g)) M) [(.slice a5 on c5, rpO (R1q (i, g)) M)] wr ∧ Below w.heap.size w wr) (fun y _ => on - (intOf y).toNat)
      case atStart => exact ⟨0, by omega, rfl, HP5.out, HB5.out⟩
      case round =>
        obtain ⟨j, hj, rfl, hp6, hb6⟩ := hrel
        have HP6 := hide hp6
        have HB6 := hide hb6
        clear hp6 hb6
        by_cases hjlt : j < on
        · have hd2 : decide ((j : Int) < (on : Int)) = true := by simp; omega
          have hdi2 : (j : Int) < (on : Int) := by omega
          have hd02 : (0 : Int) ≤ (j : Int) := by omega
          obtain ⟨x, hx⟩ : ∃ x, (rpO (R1q (i, g)) M)[j]? = some x := ⟨_, List.getElem?_eq_getElem (by have := HON.out; omega)⟩
          obtain ⟨b1, o1, xa, xc, rfl, hb1, p1, q1⟩ := (HP6.out.at0 (a := a5) (m := on) (c := c5) (by simp)).nth hx
          have d0 := p1.c0
          have d1 := p1.c1
          simp only at d0 d1
          have hne := HPIN.out x (List.mem_of_getElem? hx)
          clear p1 q1 hx
          by_cases hi : x.id = i
          · have hg : ¬ x.gen = g := fun q => hne (by unfold VD.pin; rw [hi, q])
            have hqi : (x.id == i) = true := by simpa using hi
            have hqg : (x.gen == g) = false := by simpa using hg
            clear hne hi hg
            go_wp2_with fail
            exact ⟨⟨j + 1, by omega, by go_num, HP6.out, HB6.out⟩, by simp [intOf]; omega⟩
          · have hqi : (x.id == i) = false := by simpa using hi
            clear hne hi
            go_wp2_with fail
            exact ⟨⟨j + 1, by omega, by go_num, HP6.out, HB6.out⟩, by simp [intOf]; omega⟩
        · have hd2 : decide ((j : Int) < (on : Int)) = false := by simp; omega
          have hh1 : decide ((h0 : Int) ≤ 1) = true := by simp; omega
          have hh2 : ((on : Int) == (mn : Int) - (h0 : Int)) = true := by have := HO2.out; simp; omega
          have hh3 : IntKind.i64.wrap ((mn : Int) - (h0 : Int)) = (mn : Int) - (h0 : Int) := by rw [IntKind.wrap_i64]; omega
          go_wp2_with fail
          refine (l_waits HP6.out (fun x hx => (HMEM.out x (mem_rpL hx)).2) (by rw [HL1.out]; omega)).mono ?_
          rintro e w6 ⟨a6, c6, rfl, -, hb6⟩
          have HB6 := hide (HB6.out.trans (hb6.mono HB6.out.size))
          rw [HL1.out]
          clear hb6
          go_wp2_with fail
          refine (live_any _).mono ?_
          rintro e w7 ⟨rfl, hb7⟩
          have HB7 := hide (HB6.out.trans (hb7.mono HB6.out.size))
          clear hb7
          go_wp2_with fail
          try go_ret
          exact ⟨rfl, HB7.out⟩
theorem walkPinsOther (a : Option Addr) (l c : Nat) (i g : Int) (w : World) (h : CameSz 28 w a l c) (hi : (Lit.int .i64 i).wf = true) (hg : (Lit.int .i64 g).wf = true) : Calls Try.prog 7 #[.slice a l c, .int .i64 i, .int .i64 g] w fun e w' => e = .returned (.bool true) ∧ Below w.heap.size w w' := by
  obtain ⟨L, h1, h2, h3, h4, h5⟩ := came_vos h
  exact other_is a l c i g L w h1 ⟨ok_i hi, ok_i hg⟩ h4 h5
end Go.Proofs.Ytghcekhlohgkaaa
