/- The law PinsEach, walked. -/
import Derived.Test.YtghcekhlohgkaaaPnLive
import Derived.Test.YtghcekhlohgkaaaCamePn
import Derived.Test.YtghcekhlohgkaaaPnMathB
import Derived.StillTailTactics
namespace Go.Proofs.Ytghcekhlohgkaaa
open Go.RowKit
set_option linter.unusedVariables false
/-- how many read, off the world -/
noncomputable def rdW (b : Nat) (q : Int × Int) (w : World) : Nat :=
  match w.cell? ⟨b, 0, none⟩ with
  | some v => (match (Instr.lookup 46 v (kPin q) false).run Try.prog w with | .ok (.int _ n) _ => n.toNat | _ => 0)
  | none => 0
theorem Pl.rd {B b n : Nat} {R : Int × Int → Nat} {L : List VD} {Ks : List (Value × List VD)} {w : World} (h : Pl B b n R L Ks w) {q : Int × Int} (hq : OkP q) : rdW b q w = R q := by
  obtain ⟨P, rfl, h2, h3, h4⟩ := h
  have hc : w.cell? ⟨P.pb, 0, none⟩ = some (.map (some P.mb)) := cell_of_block h3.box
  have hr := h3.map.look1 ke_pin Try.underlying46 (int_zero _) hq
  rw [rdM_get] at hr
  unfold rdW
  rw [hc]
  simp only [hr]
  simp
theorem Pl.drop1 {B b n : Nat} {R : Int × Int → Nat} {L : List VD} {K : Value × List VD} {Ks : List (Value × List VD)} {w : World} (h : Pl B b n R L (K :: Ks) w) : Pl B b n R L Ks w := by
  obtain ⟨P, h1, h2, h3, h4⟩ := h
  exact ⟨P, h1, h2, h3, fun x hx => h4 x (by simp [hx])⟩
/-- who reads was named in the script -/
def Nam (S : List OP) (R : Int × Int → Nat) : Prop := ∀ q, R q ≠ 0 → ∃ p, p ∈ S ∧ (p.i, p.g) = q
theorem Nam.inc {S : List OP} {R : Int × Int → Nat} (h : Nam S R) {p : OP} (hp : p ∈ S) : Nam S (inc R (p.i, p.g)) := fun q hq => by
  by_cases e : q = (p.i, p.g)
  · exact ⟨p, hp, e.symm⟩
  · exact h q (by rw [inc_other e] at hq; exact hq)
theorem Nam.dec {S : List OP} {R : Int × Int → Nat} (h : Nam S R) (k : Int × Int) : Nam S (dec R k) := fun q hq => by
  refine h q fun e => hq ?_
  by_cases e2 : q = k
  · subst e2; rw [dec_same, e]
  · rw [dec_other e2, e]
def Good (L : List VD) : Prop := ∀ x ∈ L, OkP x.pin ∧ x.ls.length ≤ 8796093022208
theorem Good.re {L : List VD} (h : Good L) {x : VD} (hx : OkP x.pin ∧ x.ls.length ≤ 8796093022208) : Good (reL L x) := fun y hy => by
  rcases mem_reL hy with q | rfl
  · exact h y q
  · exact hx
theorem Good.rp {L : List VD} (h : Good L) (R : Int × Int → Nat) : Good (rpL R L) := fun y hy => h y (mem_rpL hy)
set_option maxRecDepth 100000 in
set_option maxHeartbeats 16000000 in
theorem each_is (av : Option Addr) (n c : Nat) (S : List OP) (w : World) (hl : S.length = n) (hv : OpsAt w av S) (hok : ∀ p ∈ S, LocsAt w p.x.a p.x.d.ls ∧ OkP (p.i, p.g) ∧ OkP p.x.d.pin ∧ p.x.d.ls.length ≤ 8796093022208) :
    Calls Try.prog 5 #[.slice av n c] w fun e w' => e = .returned (.bool true) ∧ Below w.heap.size w w' := by
  have HL := hide hl
  have HV := hide hv
  have HOK := hide hok
  clear hl hv hok
  by_cases hbig : ¬ n ≤ 40
  · have h1 : decide ((40 : Int) < (n : Int)) = true := by simp; omega
    go_enter Try.func5, Try.ntmps5
    go_wp2_with fail
    refine (live_any _).mono ?_
    rintro e w1 ⟨rfl, hb⟩
    have HB := hide hb
    clear hb
    go_wp2_with fail
    try go_ret
    exact ⟨rfl, HB.out⟩
  have hn : n ≤ 40 := by omega
  have h1 : decide ((40 : Int) < (n : Int)) = false := by simp; omega
  clear hbig
  go_enter Try.func5, Try.ntmps5
  go_wp2_with fail
  refine (l_new w).mono ?_
  rintro e w1 ⟨b, rfl, hp, hb⟩
  have HP1 := hide hp
  have HB1 := hide hb
  clear hp hb
  go_wp2_with fail
  go_loopw [4, 5, 6] (fun y4 y5 y6 wr => ∃ k s t : Nat, k ≤ n ∧ y6 = .int .i64 k ∧ y4 = .int .i64 s ∧ y5 = .int .i64 t ∧ s ≤ k ∧ ∃ R L, s = t + List.length L ∧ Pl w.heap.size b k R L [] wr ∧ Nam S R ∧ Good L ∧ Below w.heap.size w wr) (fun y4 y5 y6 _ => n - (intOf y6).toNat)
  case atStart => exact ⟨0, 0, 0, by omega, rfl, rfl, rfl, by omega, _, [], rfl, HP1.out, fun q hq => absurd rfl hq, fun x hx => by simp at hx, HB1.out⟩
  case round =>
    obtain ⟨k, s, t, hk, rfl, rfl, rfl, hsk, R, L, hst, hp, hnm, hgd, hb⟩ := hrel
    have HP := hide hp
    have HB := hide hb
    have HNM := hide hnm
    have HGD := hide hgd
    have HST := hide hst
    have hLk : L.length ≤ 40 := by omega
    have htk : t ≤ 40 := by omega
    clear hp hb hnm hgd hst
    by_cases hlt : k < n
    · have hd : decide ((k : Int) < (n : Int)) = true := by simp; omega
      have hdi : (k : Int) < (n : Int) := by omega
      have hd0 : (0 : Int) ≤ (k : Int) := by omega
      obtain ⟨p, hp⟩ : ∃ p, S[k]? = some p := ⟨_, List.getElem?_eq_getElem (by have := HL.out; omega)⟩
      obtain ⟨b1, o1, rfl, hb1, hc⟩ := HV.out.nth hp
      have hmem := List.mem_of_getElem? hp
      obtain ⟨g1, g2, g3, g4⟩ := HOK.out p hmem
      have HMEM := hide hmem
      have hcc : ∀ j v, (opC p)[j]? = some v → wr.cell? ⟨b1, o1 + k * 7 + j, none⟩ = some v := fun j v hj => (HB.out.cell (p := ⟨b1, o1 + k * 7 + j, none⟩) hb1).trans (hc j v hj)
      have d0 := hcc 0 _ rfl
      have d1 := hcc 1 _ rfl
      have d2 := hcc 2 _ rfl
      have d3 := hcc 3 _ rfl
      have d4 := hcc 4 _ rfl
      have d5 := hcc 5 _ rfl
      have d6 := hcc 6 _ rfl
      obtain ⟨pd, pi, pg, ⟨x, xa, xc⟩⟩ := p
      simp only [Nat.add_zero] at d0 d1 d2 d3 d4 d5 d6 g1 g2 g3 g4
      obtain ⟨m, hm⟩ : ∃ m, x.ls.length = m := ⟨_, rfl⟩
      rw [hm] at d6 g4
      have hba : Below wr.heap.size wr (wr.alloc (.cells #[.int .i64 pd, .int .i64 pi, .int .i64 pg, .int .i64 x.id, .int .i64 x.gen, .int .i64 x.len, .slice xa m xc] 35)) := (Below.refl _ _).alloc (Nat.le_refl _) _
      have HPA := hide (HP.out.below hba)
      have HBA := hide (HB.out.trans (hba.mono HB.out.size))
      have HXA := hide (g1.below HBA.out)
      have HG2 := hide g2
      have HG3 := hide g3
      have HM := hide hm
      clear hp hc hcc hmem g1 g2 g3 hm hba
      by_cases q0 : pd = 0
      · have hq0 : (pd == 0) = true := by simpa using q0
        subst q0
        go_wp2_with fail
        refine (l_pin HPA.out pi pg HG2.out (by omega)).mono ?_
        rintro e w3 ⟨rfl, hp3, hb3⟩
        have HP3 := hide hp3
        have HB3 := hide (HBA.out.trans hb3)
        clear hp3 hb3
        go_wp2_with fail
        exact ⟨⟨k + 1, s, t, by omega, by go_num, rfl, rfl, by omega, _, L, HST.out, HP3.out, HNM.out.inc HMEM.out, HGD.out, HB3.out⟩, by simp [intOf]; omega⟩
      have hq0 : (pd == 0) = false := by simpa using q0
      by_cases q1 : pd = 1
      · have hq1 : (pd == 1) = true := by simpa using q1
        subst q1
        go_wp2_with fail
        refine (l_unpin HPA.out pi pg HG2.out (by omega)).mono ?_
        rintro e w3 ⟨rfl, hp3, hb3⟩
        have HP3 := hide hp3
        have HB3 := hide (HBA.out.trans hb3)
        clear hp3 hb3
        go_wp2_with fail
        exact ⟨⟨k + 1, s, t, by omega, by go_num, rfl, rfl, by omega, _, L, HST.out, HP3.out, HNM.out.dec _, HGD.out, HB3.out⟩, by simp [intOf]; omega⟩
      have hq1 : (pd == 1) = false := by simpa using q1
      by_cases q2 : pd = 2
      · have hq2 : (pd == 2) = true := by simpa using q2
        subst q2
        have HRL := hide (reL_len L x)
        have HGR := hide (HGD.out.re (x := x) ⟨HG3.out, by have := HM.out; omega⟩)
        go_wp2_with fail
        refine (l_retire HPA.out x xa m xc HM.out g4 HXA.out (by omega)).mono ?_
        rintro e w3 ⟨rfl, hp3, hb3⟩
        have HP3 := hide (hp3.mono (m := k + 1) (by omega))
        have HB3 := hide (HBA.out.trans hb3)
        clear hp3 hb3
        by_cases hE : reE L x = 0
        · rw [hE]
          have HR2 : Hid (s + 1 = t + (reL L x).length) := by unfold Hid; rw [HRL.out, if_pos hE]; have := HST.out; omega
          clear hE
          go_wp2_with fail
          exact ⟨⟨k + 1, s + 1, t, by omega, by go_num, by go_num, rfl, by omega, _, _, HR2.out, HP3.out, HNM.out, HGR.out, HB3.out⟩, by simp [intOf]; omega⟩
        · have hE2 : reE L x = 13 := by unfold reE at hE ⊢; split <;> simp_all
          have HR2 : Hid (s = t + (reL L x).length) := by unfold Hid; rw [HRL.out, if_neg hE]; have := HST.out; omega
          rw [hE2]
          clear hE hE2
          go_wp2_with fail
          exact ⟨⟨k + 1, s, t, by omega, by go_num, rfl, rfl, by omega, _, _, HR2.out, HP3.out, HNM.out, HGR.out, HB3.out⟩, by simp [intOf]; omega⟩
      have hq2 : (pd == 2) = false := by simpa using q2
      have HRP := hide (rp_len R L)
      go_wp2_with fail
      refine (l_reap HPA.out (by omega) (fun x hx => (HGD.out x hx).1)).mono ?_
      rintro e w3 ⟨a3, c3, rfl, -, hp3, hb3⟩
      have HP3 := hide ((hp3.drop1).mono (m := k + 1) (by omega))
      have HB3 := hide (HBA.out.trans hb3)
      obtain ⟨on, hon⟩ : ∃ on, (rpO R L).length = on := ⟨_, rfl⟩
      rw [hon] at HRP ⊢
      have hon2 : on ≤ 40 := by have := HRP.out; omega
      have HR2 : Hid (s = (t + on) + (rpL R L).length) := by have := HRP.out; have := HST.out; show _ = _; omega
      clear hp3 hb3 hon
      go_wp2_with fail
      exact ⟨⟨k + 1, s, t + on, by omega, by go_num, rfl, by go_num, by omega, _, _, HR2.out, HP3.out, HNM.out, HGD.out.rp R, HB3.out⟩, by simp [intOf]; omega⟩
    · have hd : decide ((k : Int) < (n : Int)) = false := by simp; omega
      go_wp2_with fail
      obtain ⟨wo, hwo⟩ : ∃ wo, wo = wr := ⟨_, rfl⟩
      subst hwo
      have HR40 : Hid (∀ q, R q ≤ 40) := fun q => by have := HP.out.few q; omega
      go_loopw [8] (fun y8 wr => ∃ j : Nat, j ≤ n ∧ y8 = .int .i64 j ∧ ∃ R2, Pl w.heap.size b (40 + 41 * j) R2 L [] wr ∧ (∀ q, R2 q ≤ 40) ∧ Nam S R2 ∧ (∀ i p, i < j → S[i]? = some p → R2 (p.i, p.g) = 0) ∧ Below w.heap.size w wr) (fun y8 _ => n - (intOf y8).toNat)
      case atStart => exact ⟨0, by omega, rfl, R, HP.out.mono (by omega), HR40.out, HNM.out, fun i p hi => by omega, HB.out⟩
      case round =>
        obtain ⟨j, hj, rfl, R2, hp, hr40, hnm, hz, hb⟩ := hrel
        have HP2 := hide hp
        have HB2 := hide hb
        have HR := hide hr40
        have HNM2 := hide hnm
        have HZ := hide hz
        clear hp hb hr40 hnm hz
        by_cases hjlt : j < n
        · have hd2 : decide ((j : Int) < (n : Int)) = true := by simp; omega
          have hdi : (j : Int) < (n : Int) := by omega
          have hd0 : (0 : Int) ≤ (j : Int) := by omega
          obtain ⟨p, hp⟩ : ∃ p, S[j]? = some p := ⟨_, List.getElem?_eq_getElem (by have := HL.out; omega)⟩
          obtain ⟨b1, o1, rfl, hb1, hc⟩ := HV.out.nth hp
          have HG2 := hide (HOK.out p (List.mem_of_getElem? hp)).2.1
          have HPJ := hide hp
          have HC1 := hide (hc 1 _ rfl)
          have HC2 := hide (hc 2 _ rfl)
          clear hp hc
          go_wp2_with fail
          obtain ⟨wq, hwq⟩ : ∃ wq, wq = wr := ⟨_, rfl⟩
          subst hwq
          go_loopw [75] (fun y wr => ∃ R3, Pl w.heap.size b (40 + 41 * j + (40 - R3 (p.i, p.g))) R3 L [] wr ∧ (∀ q, R3 q ≤ 40) ∧ Nam S R3 ∧ (∀ i p, i < j → S[i]? = some p → R3 (p.i, p.g) = 0) ∧ Below w.heap.size w wr) (fun y wr => rdW b (p.i, p.g) wr)
          case atStart => exact ⟨R2, HP2.out.mono (by omega), HR.out, HNM2.out, HZ.out, HB2.out⟩
          case round =>
            obtain ⟨R3, hp3, hr3, hnm3, hz3, hb3⟩ := hrel
            have HP3 := hide hp3
            have HB3 := hide hb3
            have HR3 := hide hr3
            have HNM3 := hide hnm3
            have HZ3 := hide hz3
            have HRD := hide (hp3.rd HG2.out)
            have HB3D := hide (hb3.drew)
            have HC := hide (l_unpin (hp3.below ((Below.refl _ wr).drew)) p.i p.g HG2.out (by omega))
            have d1 : wr.cell? ⟨b1, o1 + j * 7 + 1, none⟩ = some (.int .i64 p.i) := (hb3.cell (p := ⟨b1, o1 + j * 7 + 1, none⟩) hb1).trans HC1.out
            have d2 : wr.cell? ⟨b1, o1 + j * 7 + 2, none⟩ = some (.int .i64 p.g) := (hb3.cell (p := ⟨b1, o1 + j * 7 + 2, none⟩) hb1).trans HC2.out
            clear hp3 hb3 hr3 hnm3 hz3
            by_cases hE : R3 (p.i, p.g) = 0
            · have hu : unE R3 (p.i, p.g) = 9 := by simp [unE, hE]
              have hdz := dec_zero hE
              rw [hu, hdz] at HC
              have HRZ := hide hE
              clear hu hdz hE
              go_wp2_with fail
              go_still_tail 11, (by kernel_rfl)
              change wpList _ _ _ _ _ wr.drew
              generalize wr.drew = w9 at *
              go_wp2_with fail
              refine HC.out.mono ?_
              rintro e w4 ⟨rfl, hp4, hb4⟩
              have HP4 := hide (hp4.mono (m := 40 + 41 * (j + 1)) (by omega))
              have HB4 := hide (HB3D.out.trans hb4)
              have HZ4 : Hid (∀ i p, i < j + 1 → S[i]? = some p → R3 (p.i, p.g) = 0) := fun i p' hi hp' => by
                by_cases e : i = j
                · subst e
                  rw [HPJ.out] at hp'
                  injection hp' with hp'
                  subst hp'
                  exact HRZ.out
                · exact HZ3.out i p' (by omega) hp'
              clear hp4 hb4
              go_wp2_with fail
              exact ⟨⟨j + 1, by omega, by go_num, R3, HP4.out, HR3.out, HNM3.out, HZ4.out, HB4.out⟩, by simp [intOf]; omega⟩
            · have hu : unE R3 (p.i, p.g) = 0 := by simp [unE, hE]
              rw [hu] at HC
              have HRZ := hide hE
              clear hu hE
              go_wp2_with fail
              go_still_tail 11, (by kernel_rfl)
              change wpList _ _ _ _ _ wr.drew
              generalize hw9 : wr.drew = w9 at *
              clear hw9
              go_wp2_with fail
              refine HC.out.mono ?_
              rintro e w4 ⟨rfl, hp4, hb4⟩
              have HP4 := hide (hp4.mono (m := 40 + 41 * j + (40 - dec R3 (p.i, p.g) (p.i, p.g))) (by rw [dec_same]; have := HRZ.out; have := HR3.out (p.i, p.g); omega))
              have HB4 := hide (HB3D.out.trans hb4)
              have HR4 : Hid (∀ q, dec R3 (p.i, p.g) q ≤ 40) := fun q => by unfold dec; have := HR3.out q; have := HR3.out (p.i, p.g); split <;> omega
              have HZ4 : Hid (∀ i p', i < j → S[i]? = some p' → dec R3 (p.i, p.g) (p'.i, p'.g) = 0) := fun i p' hi hp' => by
                have := HZ3.out i p' hi hp'
                unfold dec
                split
                · rename_i e; rw [← e, this]
                · exact this
              have HLT : Hid (rdW b (p.i, p.g) w4 < rdW b (p.i, p.g) wr) := by
                unfold Hid
                rw [HRD.out, hp4.rd HG2.out, dec_same]
                have := HRZ.out
                omega
              clear hp4 hb4
              go_wp2_with fail
              exact ⟨⟨_, HP4.out, HR4.out, HNM3.out.dec _, HZ4.out, HB4.out⟩, HLT.out⟩
        · have hd2 : decide ((j : Int) < (n : Int)) = false := by simp; omega
          have HRZ : Hid (∀ q, R2 q = 0) := fun q => by
            apply Classical.byContradiction
            intro hne
            obtain ⟨p, hp, e⟩ := HNM2.out q hne
            obtain ⟨i, hi⟩ := List.getElem?_of_mem hp
            have := HZ.out i p (by have := (List.getElem?_eq_some_iff.1 hi).1; have := HL.out; omega) hi
            rw [e] at this
            exact hne this
          have hro := rpO_all (R := R2) (L := L) (fun x _ => HRZ.out _)
          have hs40 : s ≤ 40 := by omega
          have ht40 : t ≤ 40 := by omega
          go_wp2_with fail
          refine (l_reap HP2.out (by have := HST.out; omega) (fun x hx => (HGD.out x hx).1)).mono ?_
          rintro e w3 ⟨a3, c3, rfl, -, hp3, hb3⟩
          rw [hro.1, hro.2] at hp3
          rw [hro.1]
          have HP3 := hide hp3
          have HB3 := hide (HB2.out.trans hb3)
          obtain ⟨on, hon⟩ : ∃ on, L.length = on := ⟨_, rfl⟩
          have hs9 := HST.out
          rw [hon] at hs9 ⊢
          have hon2 : on ≤ 40 := by omega
          have hw : IntKind.i64.wrap ((t : Int) + (on : Int)) = (s : Int) := by rw [IntKind.wrap_i64]; omega
          clear hs9
          have hw2 : ((s : Int) == (s : Int)) = true := by simp
          clear hp3 hb3 hon hro
          go_wp2_with fail
          refine (l_waits HP3.out (by simp) (by simp)).mono ?_
          rintro e w4 ⟨a4, c4, rfl, -, hb4⟩
          have HB4 := hide (HB3.out.trans (hb4.mono HB3.out.size))
          simp only [List.length_nil]
          clear hb4
          go_wp2_with fail
          refine (live_any _).mono ?_
          rintro e w5 ⟨rfl, hb5⟩
          have HB5 := hide (HB4.out.trans (hb5.mono HB4.out.size))
          clear hb5
          go_wp2_with fail
          try go_ret
          exact ⟨rfl, HB5.out⟩
theorem walkPinsEach (a : Option Addr) (l c : Nat) (w : World) (h : CameSz 22 w a l c) : Calls Try.prog 5 #[.slice a l c] w fun e w' => e = .returned (.bool true) ∧ Below w.heap.size w w' := by
  obtain ⟨L, h1, h2, h3, h4, h5⟩ := came_ops h
  exact each_is a l c L w h1 h4 h5
end Go.Proofs.Ytghcekhlohgkaaa
