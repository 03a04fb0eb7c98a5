/- The law NeedleApart returns true at every input, and writes nothing that was there. -/
import Derived.Test.YtomcdajoeakhdaaDoorNeLive
import Derived.Test.YtomcdajoeakhdaaDoorCameNd
namespace Go.Proofs.YtomcdajoeakhdaaDoor
open Go.RowKit
set_option linter.unusedVariables false
theorem begin_eq {a b : Nd} (ha : ckE a = 0) (hb : ckE b = 0) (hz : (nbS a).size ≤ (nbS b).size) (h : (nbS b).extract 0 (nbS a).size = nbS a) : a = b := by
  have e := ext_join (nbS b) (nbS a).size hz
  rw [h] at e
  have h1 := (nr_back ha ((nbS b).extract (nbS a).size (nbS b).size)).2.1
  rw [e] at h1
  have h2 := (nr_back hb ByteArray.empty).2.1
  rw [app_nil] at h2
  rw [← h1, h2]
set_option maxRecDepth 100000 in
set_option maxHeartbeats 16000000 in
theorem walkNeedleApart (va vb : Value) (w : World) (hK : KAt w) (ca : CameV 23 2 w va) (cb : CameV 23 2 w vb) : Calls Tryd.prog 8 #[va, vb] w fun e w' => e = .returned (.bool true) ∧ Below w.heap.size w w' := by
  obtain ⟨⟨k, v⟩, rfl, z1, z2⟩ := nd_open ca
  obtain ⟨⟨k', v'⟩, rfl, z3, z4⟩ := nd_open cb
  clear ca cb
  simp only [ncs] at z1 z2 z3 z4 ⊢
  have hal : Below w.heap.size w ((w.alloc (.cells #[.string k, .string v] 23)).alloc (.cells #[.string k', .string v'] 23)) := ((Below.refl _ _).alloc (Nat.le_refl _) _).alloc (by rw [World.size_alloc]; omega) _
  have HA := hide hal
  have KA := hide (hK.below hal)
  clear hal hK
  by_cases gk : 100 < k.size
  · go_enter Tryd.func8, Tryd.ntmps8
    go_wp2_with fail
    refine (nlive_any _ KA.out).mono ?_
    rintro e wLL ⟨rfl, hb⟩
    have BLL := hide (HA.out.trans (hb.mono HA.out.size))
    clear hb
    go_wp2_with fail
    try go_ret
    exact ⟨rfl, BLL.out⟩
  by_cases gv : 1000 < v.size
  · go_enter Tryd.func8, Tryd.ntmps8
    go_wp2_with fail
    refine (nlive_any _ KA.out).mono ?_
    rintro e wLL ⟨rfl, hb⟩
    have BLL := hide (HA.out.trans (hb.mono HA.out.size))
    clear hb
    go_wp2_with fail
    try go_ret
    exact ⟨rfl, BLL.out⟩
  by_cases gkp : 100 < k'.size
  · go_enter Tryd.func8, Tryd.ntmps8
    go_wp2_with fail
    refine (nlive_any _ KA.out).mono ?_
    rintro e wLL ⟨rfl, hb⟩
    have BLL := hide (HA.out.trans (hb.mono HA.out.size))
    clear hb
    go_wp2_with fail
    try go_ret
    exact ⟨rfl, BLL.out⟩
  by_cases gvp : 1000 < v'.size
  · go_enter Tryd.func8, Tryd.ntmps8
    go_wp2_with fail
    refine (nlive_any _ KA.out).mono ?_
    rintro e wLL ⟨rfl, hb⟩
    have BLL := hide (HA.out.trans (hb.mono HA.out.size))
    clear hb
    go_wp2_with fail
    try go_ret
    exact ⟨rfl, BLL.out⟩
  have HXA : Hid (NBx w.heap.size 23 ⟨k, v⟩ ((w.alloc (.cells #[.string k, .string v] 23)).alloc (.cells #[.string k', .string v'] 23))) := (Below.heap_alloc _ _ _ (by rw [World.size_alloc]; omega)).trans (nbx_new 23 ⟨k, v⟩ w)
  have HXB : Hid (NBx (w.heap.size + 1) 23 ⟨k', v'⟩ ((w.alloc (.cells #[.string k, .string v] 23)).alloc (.cells #[.string k', .string v'] 23))) := by
    have t := nbx_new 23 ⟨k', v'⟩ (w.alloc (.cells #[.string k, .string v] 23))
    rw [World.size_alloc] at t
    exact t
  have H1 := hide (nown_any ⟨k, v⟩)
  have H2 := hide (fun w hK => nwrite_any ⟨k, v⟩ w hK (by show k.size ≤ _; omega) (by show v.size ≤ _; omega))
  have H3 := hide (nown_any ⟨k', v'⟩)
  have H4 := hide (fun w hK => nwrite_any ⟨k', v'⟩ w hK (by show k'.size ≤ _; omega) (by show v'.size ≤ _; omega))
  simp only [ncs] at H1 H2 H3 H4
  by_cases hE : ckE ⟨k, v⟩ = 0
  case neg =>
    have q1 : (ckE ⟨k, v⟩ == 0) = false := by simpa using hE
    have q2 : (ckE ⟨k, v⟩ != 0) = true := by simpa using hE
    clear hE
    generalize ckE ⟨k, v⟩ = E at *
    generalize nwS ⟨k, v⟩ = S at *
    generalize ckE ⟨k', v'⟩ = E' at *
    generalize nwS ⟨k', v'⟩ = S' at *
    go_enter Tryd.func8, Tryd.ntmps8
    go_wp2_with fail
    generalize ((w.alloc (.cells #[.string k, .string v] 23)).alloc (.cells #[.string k', .string v'] 23)) = W0 at *
    refine (H1.out _).mono ?_
    rintro e w1 ⟨rfl, hb⟩
    have B1 := hide (HA.out.trans (hb.mono HA.out.size))
    have K1 := hide (KA.out.below hb)
    have P1 := hide (HXA.out.below hb HXA.out.lt)
    have Q1 := hide (HXB.out.below hb HXB.out.lt)
    clear hb HA KA HXA HXB
    go_wp2_with fail
    refine (H2.out _ K1.out).mono ?_
    rintro e w2 ⟨rfl, hb⟩
    have B2 := hide (B1.out.trans (hb.mono B1.out.size))
    have K2 := hide (K1.out.below hb)
    have P2 := hide (P1.out.below hb P1.out.lt)
    have Q2 := hide (Q1.out.below hb Q1.out.lt)
    clear hb B1 K1 P1 Q1
    obtain ⟨⟨c0, c1⟩, -⟩ := Q2.out.cells
    simp only at c0 c1
    go_wp2_with fail
    clear c0 c1
    refine (H3.out _).mono ?_
    rintro e w3 ⟨rfl, hb⟩
    have B3 := hide (B2.out.trans (hb.mono B2.out.size))
    have K3 := hide (K2.out.below hb)
    have P3 := hide (P2.out.below hb P2.out.lt)
    have Q3 := hide (Q2.out.below hb Q2.out.lt)
    clear hb B2 K2 P2 Q2
    go_wp2_with fail
    refine (H4.out _ K3.out).mono ?_
    rintro e w4 ⟨rfl, hb⟩
    have B4 := hide (B3.out.trans (hb.mono B3.out.size))
    have K4 := hide (K3.out.below hb)
    obtain ⟨⟨c0, c1⟩, -⟩ := (P3.out.below hb P3.out.lt).cells
    obtain ⟨⟨d0, d1⟩, -⟩ := (Q3.out.below hb Q3.out.lt).cells
    simp only at c0 c1 d0 d1
    clear hb B3 K3 P3 Q3
    go_wp2_with fail
    refine (nlive_any _ K4.out).mono ?_
    rintro e wLL ⟨rfl, hb⟩
    have BLL := hide (B4.out.trans (hb.mono B4.out.size))
    clear hb
    go_wp2_with fail
    try go_ret
    exact ⟨rfl, BLL.out⟩
  by_cases hE' : ckE ⟨k', v'⟩ = 0
  case neg =>
    have q1 : (ckE ⟨k', v'⟩ == 0) = false := by simpa using hE'
    have q2 : (ckE ⟨k', v'⟩ != 0) = true := by simpa using hE'
    rw [hE] at H2
    clear hE hE'
    generalize nwS ⟨k, v⟩ = S at *
    generalize ckE ⟨k', v'⟩ = E' at *
    generalize nwS ⟨k', v'⟩ = S' at *
    go_enter Tryd.func8, Tryd.ntmps8
    go_wp2_with fail
    generalize ((w.alloc (.cells #[.string k, .string v] 23)).alloc (.cells #[.string k', .string v'] 23)) = W0 at *
    refine (H1.out _).mono ?_
    rintro e w1 ⟨rfl, hb⟩
    have B1 := hide (HA.out.trans (hb.mono HA.out.size))
    have K1 := hide (KA.out.below hb)
    have P1 := hide (HXA.out.below hb HXA.out.lt)
    have Q1 := hide (HXB.out.below hb HXB.out.lt)
    clear hb HA KA HXA HXB
    go_wp2_with fail
    refine (H2.out _ K1.out).mono ?_
    rintro e w2 ⟨rfl, hb⟩
    have B2 := hide (B1.out.trans (hb.mono B1.out.size))
    have K2 := hide (K1.out.below hb)
    have P2 := hide (P1.out.below hb P1.out.lt)
    have Q2 := hide (Q1.out.below hb Q1.out.lt)
    clear hb B1 K1 P1 Q1
    obtain ⟨⟨c0, c1⟩, -⟩ := Q2.out.cells
    simp only at c0 c1
    go_wp2_with fail
    clear c0 c1
    refine (H3.out _).mono ?_
    rintro e w3 ⟨rfl, hb⟩
    have B3 := hide (B2.out.trans (hb.mono B2.out.size))
    have K3 := hide (K2.out.below hb)
    have P3 := hide (P2.out.below hb P2.out.lt)
    have Q3 := hide (Q2.out.below hb Q2.out.lt)
    clear hb B2 K2 P2 Q2
    go_wp2_with fail
    refine (H4.out _ K3.out).mono ?_
    rintro e w4 ⟨rfl, hb⟩
    have B4 := hide (B3.out.trans (hb.mono B3.out.size))
    have K4 := hide (K3.out.below hb)
    obtain ⟨⟨c0, c1⟩, -⟩ := (P3.out.below hb P3.out.lt).cells
    obtain ⟨⟨d0, d1⟩, -⟩ := (Q3.out.below hb Q3.out.lt).cells
    simp only at c0 c1 d0 d1
    clear hb B3 K3 P3 Q3
    go_wp2_with fail
    refine (nlive_any _ K4.out).mono ?_
    rintro e wLL ⟨rfl, hb⟩
    have BLL := hide (B4.out.trans (hb.mono B4.out.size))
    clear hb
    go_wp2_with fail
    try go_ret
    exact ⟨rfl, BLL.out⟩
  have hbeg := begin_eq hE hE'
  have hz := nbS_size ⟨k, v⟩
  have hz2 := (ckE_zero.1 hE).2
  rw [← hz] at hz2
  rw [hE, nwS_ok hE] at H2
  rw [hE', nwS_ok hE'] at H4
  clear hz hE hE'
  by_cases hab : k = k' ∧ v = v'
  · obtain ⟨rfl, rfl⟩ := hab
    have hx : (nbS ⟨k, v⟩).extract 0 (nbS ⟨k, v⟩).size = nbS ⟨k, v⟩ := ext_all _
    clear hbeg
    generalize nbS ⟨k, v⟩ = S at *
    have hq : ((S.extract 0 S.size).toList == S.toList) = true := str_eq hx
    have q384 : decide ((S.size : Int) ≤ 384) = true := by simp; omega
    clear hx
    go_enter Tryd.func8, Tryd.ntmps8
    go_wp2_with fail
    generalize ((w.alloc (.cells #[.string k, .string v] 23)).alloc (.cells #[.string k, .string v] 23)) = W0 at *
    refine (H1.out _).mono ?_
    rintro e w1 ⟨rfl, hb⟩
    have B1 := hide (HA.out.trans (hb.mono HA.out.size))
    have K1 := hide (KA.out.below hb)
    have P1 := hide (HXA.out.below hb HXA.out.lt)
    have Q1 := hide (HXB.out.below hb HXB.out.lt)
    clear hb HA KA HXA HXB
    go_wp2_with fail
    refine (H2.out _ K1.out).mono ?_
    rintro e w2 ⟨rfl, hb⟩
    have B2 := hide (B1.out.trans (hb.mono B1.out.size))
    have K2 := hide (K1.out.below hb)
    have P2 := hide (P1.out.below hb P1.out.lt)
    have Q2 := hide (Q1.out.below hb Q1.out.lt)
    clear hb B1 K1 P1 Q1
    obtain ⟨⟨c0, c1⟩, -⟩ := Q2.out.cells
    simp only at c0 c1
    go_wp2_with fail
    clear c0 c1
    refine (H3.out _).mono ?_
    rintro e w3 ⟨rfl, hb⟩
    have B3 := hide (B2.out.trans (hb.mono B2.out.size))
    have K3 := hide (K2.out.below hb)
    have P3 := hide (P2.out.below hb P2.out.lt)
    have Q3 := hide (Q2.out.below hb Q2.out.lt)
    clear hb B2 K2 P2 Q2
    go_wp2_with fail
    refine (H4.out _ K3.out).mono ?_
    rintro e w4 ⟨rfl, hb⟩
    have B4 := hide (B3.out.trans (hb.mono B3.out.size))
    have K4 := hide (K3.out.below hb)
    obtain ⟨⟨c0, c1⟩, -⟩ := (P3.out.below hb P3.out.lt).cells
    obtain ⟨⟨d0, d1⟩, -⟩ := (Q3.out.below hb Q3.out.lt).cells
    simp only at c0 c1 d0 d1
    clear hb B3 K3 P3 Q3
    go_wp2_with fail
    refine (nlive_any _ K4.out).mono ?_
    rintro e wLL ⟨rfl, hb⟩
    have BLL := hide (B4.out.trans (hb.mono B4.out.size))
    clear hb
    go_wp2_with fail
    try go_ret
    exact ⟨rfl, BLL.out⟩
  have hne : ¬ ((⟨k, v⟩ : Nd) = ⟨k', v'⟩) := fun e => by
    injection e with e1 e2
    exact hab ⟨e1, e2⟩
  generalize nbS ⟨k, v⟩ = S at *
  generalize nbS ⟨k', v'⟩ = S' at *
  have q384 : decide ((S.size : Int) ≤ 384) = true := by simp; omega
  have hagg : (k.toList == k'.toList) = false ∨ (k = k' ∧ (v.toList == v'.toList) = false) := by
    by_cases e : k = k'
    · exact .inr ⟨e, str_ne fun e2 => hab ⟨e, e2⟩⟩
    · exact .inl (str_ne e)
  by_cases hle : S.size ≤ S'.size
  · have d1 : decide ((S.size : Int) ≤ (S'.size : Int)) = true := by simp; omega
    have d1i : (S.size : Int) ≤ (S'.size : Int) := by omega
    have hq := str_ne fun e => hne (hbeg hle e)
    clear hbeg hne hab
    rcases hagg with hq2 | ⟨rfl, hq2⟩
    · go_enter Tryd.func8, Tryd.ntmps8
      go_wp2_with fail
      generalize ((w.alloc (.cells #[.string k, .string v] 23)).alloc (.cells #[.string k', .string v'] 23)) = W0 at *
      refine (H1.out _).mono ?_
      rintro e w1 ⟨rfl, hb⟩
      have B1 := hide (HA.out.trans (hb.mono HA.out.size))
      have K1 := hide (KA.out.below hb)
      have P1 := hide (HXA.out.below hb HXA.out.lt)
      have Q1 := hide (HXB.out.below hb HXB.out.lt)
      clear hb HA KA HXA HXB
      go_wp2_with fail
      refine (H2.out _ K1.out).mono ?_
      rintro e w2 ⟨rfl, hb⟩
      have B2 := hide (B1.out.trans (hb.mono B1.out.size))
      have K2 := hide (K1.out.below hb)
      have P2 := hide (P1.out.below hb P1.out.lt)
      have Q2 := hide (Q1.out.below hb Q1.out.lt)
      clear hb B1 K1 P1 Q1
      obtain ⟨⟨c0, c1⟩, -⟩ := Q2.out.cells
      simp only at c0 c1
      go_wp2_with fail
      clear c0 c1
      refine (H3.out _).mono ?_
      rintro e w3 ⟨rfl, hb⟩
      have B3 := hide (B2.out.trans (hb.mono B2.out.size))
      have K3 := hide (K2.out.below hb)
      have P3 := hide (P2.out.below hb P2.out.lt)
      have Q3 := hide (Q2.out.below hb Q2.out.lt)
      clear hb B2 K2 P2 Q2
      go_wp2_with fail
      refine (H4.out _ K3.out).mono ?_
      rintro e w4 ⟨rfl, hb⟩
      have B4 := hide (B3.out.trans (hb.mono B3.out.size))
      have K4 := hide (K3.out.below hb)
      obtain ⟨⟨c0, c1⟩, -⟩ := (P3.out.below hb P3.out.lt).cells
      obtain ⟨⟨d0, d1⟩, -⟩ := (Q3.out.below hb Q3.out.lt).cells
      simp only at c0 c1 d0 d1
      clear hb B3 K3 P3 Q3
      go_wp2_with fail
      refine (nlive_any _ K4.out).mono ?_
      rintro e wLL ⟨rfl, hb⟩
      have BLL := hide (B4.out.trans (hb.mono B4.out.size))
      clear hb
      go_wp2_with fail
      try go_ret
      exact ⟨rfl, BLL.out⟩
    · go_enter Tryd.func8, Tryd.ntmps8
      go_wp2_with fail
      generalize ((w.alloc (.cells #[.string k, .string v] 23)).alloc (.cells #[.string k, .string v'] 23)) = W0 at *
      refine (H1.out _).mono ?_
      rintro e w1 ⟨rfl, hb⟩
      have B1 := hide (HA.out.trans (hb.mono HA.out.size))
      have K1 := hide (KA.out.below hb)
      have P1 := hide (HXA.out.below hb HXA.out.lt)
      have Q1 := hide (HXB.out.below hb HXB.out.lt)
      clear hb HA KA HXA HXB
      go_wp2_with fail
      refine (H2.out _ K1.out).mono ?_
      rintro e w2 ⟨rfl, hb⟩
      have B2 := hide (B1.out.trans (hb.mono B1.out.size))
      have K2 := hide (K1.out.below hb)
      have P2 := hide (P1.out.below hb P1.out.lt)
      have Q2 := hide (Q1.out.below hb Q1.out.lt)
      clear hb B1 K1 P1 Q1
      obtain ⟨⟨c0, c1⟩, -⟩ := Q2.out.cells
      simp only at c0 c1
      go_wp2_with fail
      clear c0 c1
      refine (H3.out _).mono ?_
      rintro e w3 ⟨rfl, hb⟩
      have B3 := hide (B2.out.trans (hb.mono B2.out.size))
      have K3 := hide (K2.out.below hb)
      have P3 := hide (P2.out.below hb P2.out.lt)
      have Q3 := hide (Q2.out.below hb Q2.out.lt)
      clear hb B2 K2 P2 Q2
      go_wp2_with fail
      refine (H4.out _ K3.out).mono ?_
      rintro e w4 ⟨rfl, hb⟩
      have B4 := hide (B3.out.trans (hb.mono B3.out.size))
      have K4 := hide (K3.out.below hb)
      obtain ⟨⟨c0, c1⟩, -⟩ := (P3.out.below hb P3.out.lt).cells
      obtain ⟨⟨d0, d1⟩, -⟩ := (Q3.out.below hb Q3.out.lt).cells
      simp only at c0 c1 d0 d1
      clear hb B3 K3 P3 Q3
      go_wp2_with fail
      refine (nlive_any _ K4.out).mono ?_
      rintro e wLL ⟨rfl, hb⟩
      have BLL := hide (B4.out.trans (hb.mono B4.out.size))
      clear hb
      go_wp2_with fail
      try go_ret
      exact ⟨rfl, BLL.out⟩
  · have d1 : decide ((S.size : Int) ≤ (S'.size : Int)) = false := by simp; omega
    have d1i : ¬ (S.size : Int) ≤ (S'.size : Int) := by omega
    clear hbeg hne hab
    rcases hagg with hq2 | ⟨rfl, hq2⟩
    · go_enter Tryd.func8, Tryd.ntmps8
      go_wp2_with fail
      generalize ((w.alloc (.cells #[.string k, .string v] 23)).alloc (.cells #[.string k', .string v'] 23)) = W0 at *
      refine (H1.out _).mono ?_
      rintro e w1 ⟨rfl, hb⟩
      have B1 := hide (HA.out.trans (hb.mono HA.out.size))
      have K1 := hide (KA.out.below hb)
      have P1 := hide (HXA.out.below hb HXA.out.lt)
      have Q1 := hide (HXB.out.below hb HXB.out.lt)
      clear hb HA KA HXA HXB
      go_wp2_with fail
      refine (H2.out _ K1.out).mono ?_
      rintro e w2 ⟨rfl, hb⟩
      have B2 := hide (B1.out.trans (hb.mono B1.out.size))
      have K2 := hide (K1.out.below hb)
      have P2 := hide (P1.out.below hb P1.out.lt)
      have Q2 := hide (Q1.out.below hb Q1.out.lt)
      clear hb B1 K1 P1 Q1
      obtain ⟨⟨c0, c1⟩, -⟩ := Q2.out.cells
      simp only at c0 c1
      go_wp2_with fail
      clear c0 c1
      refine (H3.out _).mono ?_
      rintro e w3 ⟨rfl, hb⟩
      have B3 := hide (B2.out.trans (hb.mono B2.out.size))
      have K3 := hide (K2.out.below hb)
      have P3 := hide (P2.out.below hb P2.out.lt)
      have Q3 := hide (Q2.out.below hb Q2.out.lt)
      clear hb B2 K2 P2 Q2
      go_wp2_with fail
      refine (H4.out _ K3.out).mono ?_
      rintro e w4 ⟨rfl, hb⟩
      have B4 := hide (B3.out.trans (hb.mono B3.out.size))
      have K4 := hide (K3.out.below hb)
      obtain ⟨⟨c0, c1⟩, -⟩ := (P3.out.below hb P3.out.lt).cells
      obtain ⟨⟨d0, d1⟩, -⟩ := (Q3.out.below hb Q3.out.lt).cells
      simp only at c0 c1 d0 d1
      clear hb B3 K3 P3 Q3
      go_wp2_with fail
      refine (nlive_any _ K4.out).mono ?_
      rintro e wLL ⟨rfl, hb⟩
      have BLL := hide (B4.out.trans (hb.mono B4.out.size))
      clear hb
      go_wp2_with fail
      try go_ret
      exact ⟨rfl, BLL.out⟩
    · go_enter Tryd.func8, Tryd.ntmps8
      go_wp2_with fail
      generalize ((w.alloc (.cells #[.string k, .string v] 23)).alloc (.cells #[.string k, .string v'] 23)) = W0 at *
      refine (H1.out _).mono ?_
      rintro e w1 ⟨rfl, hb⟩
      have B1 := hide (HA.out.trans (hb.mono HA.out.size))
      have K1 := hide (KA.out.below hb)
      have P1 := hide (HXA.out.below hb HXA.out.lt)
      have Q1 := hide (HXB.out.below hb HXB.out.lt)
      clear hb HA KA HXA HXB
      go_wp2_with fail
      refine (H2.out _ K1.out).mono ?_
      rintro e w2 ⟨rfl, hb⟩
      have B2 := hide (B1.out.trans (hb.mono B1.out.size))
      have K2 := hide (K1.out.below hb)
      have P2 := hide (P1.out.below hb P1.out.lt)
      have Q2 := hide (Q1.out.below hb Q1.out.lt)
      clear hb B1 K1 P1 Q1
      obtain ⟨⟨c0, c1⟩, -⟩ := Q2.out.cells
      simp only at c0 c1
      go_wp2_with fail
      clear c0 c1
      refine (H3.out _).mono ?_
      rintro e w3 ⟨rfl, hb⟩
      have B3 := hide (B2.out.trans (hb.mono B2.out.size))
      have K3 := hide (K2.out.below hb)
      have P3 := hide (P2.out.below hb P2.out.lt)
      have Q3 := hide (Q2.out.below hb Q2.out.lt)
      clear hb B2 K2 P2 Q2
      go_wp2_with fail
      refine (H4.out _ K3.out).mono ?_
      rintro e w4 ⟨rfl, hb⟩
      have B4 := hide (B3.out.trans (hb.mono B3.out.size))
      have K4 := hide (K3.out.below hb)
      obtain ⟨⟨c0, c1⟩, -⟩ := (P3.out.below hb P3.out.lt).cells
      obtain ⟨⟨d0, d1⟩, -⟩ := (Q3.out.below hb Q3.out.lt).cells
      simp only at c0 c1 d0 d1
      clear hb B3 K3 P3 Q3
      go_wp2_with fail
      refine (nlive_any _ K4.out).mono ?_
      rintro e wLL ⟨rfl, hb⟩
      have BLL := hide (B4.out.trans (hb.mono B4.out.size))
      clear hb
      go_wp2_with fail
      try go_ret
      exact ⟨rfl, BLL.out⟩
end Go.Proofs.YtomcdajoeakhdaaDoor
