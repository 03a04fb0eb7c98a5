/- What May of the document's index answers. What the document's lists are behind one more record: still what the functions tell. -/
import Derived.Test.YtonhmihmnkicdaaGreatKxGet
import Derived.Test.YtonhmihmnkicdaaGreatRcRefCheck
namespace Go.Proofs.YtonhmihmnkicdaaGreat
open Go.RowKit
set_option linter.unusedVariables false
structure KS.fit (S : KS) : Prop where
  e : S.E.length ≤ 100000
  g : S.G.length ≤ 100000
  v : S.V.length ≤ 100000
  h : S.H.length ≤ 100000
theorem kx_had2 {B : Nat} {w : World} {K : Kx} {S : KS} {X : FX} (h : KxAt B w K S) (hr : Rel S X) (hn : S.H.length ≤ 100000) (id : Int) : Calls Tryz.prog 32 #[.pointer (some ⟨K.kb, 0, none⟩), .int .i64 id] w fun e w' => e = .returned (.bool (X.H id)) ∧ w = w' := by
  refine (kx_had h hn id).mono ?_
  rintro e w' ⟨rfl, rfl⟩
  refine ⟨?_, rfl⟩
  have : decide (id ∈ S.H) = X.H id := by
    cases hh : X.H id with
    | true => simpa using (hr.h id).1 hh
    | false =>
      rw [decide_eq_false_iff_not]
      intro q
      have := (hr.h id).2 q
      rw [hh] at this
      cases this
  rw [this]
theorem kx_vslice {B : Nat} {w : World} {K : Kx} {S : KS} (h : KxAt B w K S) {m : Nat} (hm : S.V.length = m) : ∃ a c, K.vV = .slice a m c ∧ m ≤ c ∧ w.cell? ⟨K.kb, 2, none⟩ = some (.slice a m c) ∧ VosAt B w a S.V := by
  obtain ⟨a, c, hv, hc, _, hvos⟩ := h.v.form
  have c2 := h.cells.2.2.1
  rw [hm] at hv hc
  rw [hv] at c2
  exact ⟨a, c, hv, hc, c2, hvos⟩
theorem kx_rinfo : (Tryz.prog.info? 40).map (·.size) = some 14 := by kernel_rfl
set_option maxRecDepth 100000 in
set_option maxHeartbeats 16000000 in
theorem kx_may {B : Nat} {w : World} {K : Kx} {S : KS} {X : FX} (h : KxAt B w K S) (hr : Rel S X) (hi : X.Inv) (hn : S.fit) (r : Rc) (a : Option Addr) (c : Nat) (hS : LocsAt w a r.ls) (hfit : r.fit) : Calls Tryz.prog 10 #[.pointer (some ⟨K.kb, 0, none⟩), .agg (rcs r a c)] w fun e w' => e = .returned (.int .i64 (X.may r)) ∧ Below w.heap.size w w' := by
  have HRW := hide (rbx_new 40 r a c w)
  have hb1 : Below w.heap.size w (w.alloc (.cells (rcs r a c) 40)) := (Below.refl _ _).alloc (Nat.le_refl _) _
  have HBW := hide hb1
  have HXW := hide (h.below hb1)
  have HC := hide (rk_any r a c (w.alloc (.cells (rcs r a c) 40)) (hS.below hb1) hfit)
  have HRL := hide hr
  have HIV := hide hi
  have HN := hide hn
  have HM : Hid (X.may r = if ckR r ≠ 0 then ckR r else if r.kind = 0 then X.putE r else if r.kind = 1 then X.getE r.k else if r.kind = 2 then X.movE r else X.mrgE r) := rfl
  clear h hb1 hS hfit hr hi hn
  go_enter Tryz.func10, Tryz.ntmps10
  go_upto_region 1 with fail
  generalize w.alloc (.cells (rcs r a c) 40) = W1 at *
  go_wp2_with (first | (refine wpList_load_row rfl 40 (.tmp 3) rfl w.heap.size rfl 40 (rcs r a c) (0, 0) _ HRW.out Tryz.underlying40 rfl kx_rinfo ?_))
  refine HC.out.mono ?_
  rintro e w2 ⟨rfl, hb2⟩
  have HB2 := hide (HBW.out.trans (hb2.mono HBW.out.size))
  have HX2 := hide (HXW.out.below hb2)
  have HR2 := hide (HRW.out.below hb2 HRW.out.lt)
  have e1 := HR2.out.c1
  clear hb2 HC HXW HBW HRW
  by_cases hck : ckR r = 0
  · rw [hck] at HM ⊢
    have hk4 := (ckR_zero.1 hck).1.2
    clear hck
    by_cases k0 : r.kind = 0
    · have HK0 := hide k0
      have q0 : (r.kind == 0) = true := by simpa using k0
      have e2 := HR2.out.c2
      have e6 := HR2.out.c6
      have HPE : Hid (X.putE r = if X.known r.ek || X.H r.vid then 13 else 0) := rfl
      clear k0 hk4
      go_wp2_with fail
      refine (kx_known HX2.out HRL.out HN.out.g HN.out.e r.ek).mono ?_
      rintro e w3 ⟨rfl, rfl⟩
      cases hkn : X.known r.ek with
      | true =>
        rw [hkn] at HPE
        go_wp2_with fail
        try go_ret
        exact ⟨by rw [HM.out, if_neg (by decide), if_pos HK0.out, HPE.out]; rfl, HB2.out⟩
      | false =>
        rw [hkn] at HPE
        go_wp2_with fail
        refine (kx_had2 HX2.out HRL.out HN.out.h r.vid).mono ?_
        rintro e w3 ⟨rfl, rfl⟩
        cases hh : X.H r.vid with
        | true =>
          rw [hh] at HPE
          go_wp2_with fail
          try go_ret
          exact ⟨by rw [HM.out, if_neg (by decide), if_pos HK0.out, HPE.out]; rfl, HB2.out⟩
        | false =>
          rw [hh] at HPE
          go_wp2_with fail
          try go_ret
          exact ⟨by rw [HM.out, if_neg (by decide), if_pos HK0.out, HPE.out]; rfl, HB2.out⟩
    by_cases k1 : r.kind = 1
    · have HK0 := hide k0
      have HK1 := hide k1
      have q0 : (r.kind == 0) = false := by simpa using k0
      have q1 : (r.kind == 1) = true := by simpa using k1
      have e11 := HR2.out.c11
      have HGE : Hid (X.getE r.k = if (X.T r.k).isSome then 0 else 9) := rfl
      clear k0 k1 hk4
      go_wp2_with fail
      refine (kx_entry HX2.out HN.out.e r.k).mono ?_
      rintro e w3 ⟨q, rfl, hE, rfl⟩
      rcases HRL.out.ent hE with ⟨x1, x2⟩ | ⟨i, e, x1, x2, x3, x4⟩
      · have hd : decide (q < (0 : Int)) = true := by simp; omega
        rw [x2] at HGE
        clear hE x1 x2
        go_wp2_with fail
        try go_ret
        exact ⟨by rw [HM.out, if_neg (by decide), if_neg HK0.out, if_pos HK1.out, HGE.out]; rfl, HB2.out⟩
      · have hd : decide (q < (0 : Int)) = false := by simp; omega
        rw [x3] at HGE
        clear hE x1 x2 x3 x4
        go_wp2_with fail
        try go_ret
        exact ⟨by rw [HM.out, if_neg (by decide), if_neg HK0.out, if_pos HK1.out, HGE.out]; rfl, HB2.out⟩
    obtain ⟨m, hm⟩ : ∃ m, S.V.length = m := ⟨_, rfl⟩
    obtain ⟨va, vc, hvv, hvc, c2, hvos⟩ := kx_vslice HX2.out hm
    have hmn := HN.out.v
    rw [hm] at hmn
    have HMV := hide hm
    have HVO := hide hvos
    clear hvv hvos hm
    by_cases k2 : r.kind = 2
    · have HK0 := hide k0
      have HK1 := hide k1
      have HK2 := hide k2
      have q0 : (r.kind == 0) = false := by simpa using k0
      have q1 : (r.kind == 1) = false := by simpa using k1
      have q2 : (r.kind == 2) = true := by simpa using k2
      have e2 := HR2.out.c2
      have e3 := HR2.out.c3
      have e4 := HR2.out.c4
      have HPE : Hid (X.movE r = match X.V r.vid with | none => 9 | some o => if r.vgen ≤ o.gen ∨ r.vlen ≠ o.len then 1 else 0) := rfl
      have HMM : Hid (X.may r = X.movE r) := by have := HM.out; rw [if_neg (by decide), if_neg k0, if_neg k1, if_pos k2] at this; exact this
      clear k0 k1 k2 hk4
      go_wp2_with fail
      refine (kx_place HX2.out HN.out.v r.vid).mono ?_
      rintro e w3 ⟨q, rfl, hE, rfl⟩
      rcases HRL.out.place hE with ⟨x1, x2⟩ | ⟨i, v, x1, x2, x3, x4⟩
      · have hd : decide (q < (0 : Int)) = true := by simp; omega
        rw [x2] at HPE
        clear hE x1 x2
        go_wp2_with fail
        try go_ret
        exact ⟨by rw [HMM.out, HPE.out]; rfl, HB2.out⟩
      · have hd : decide (q < (0 : Int)) = false := by simp; omega
        have hil : i < m := by rw [← HMV.out]; exact (List.getElem?_eq_some_iff.1 x2).1
        obtain ⟨vb, vo, xa, xc, rfl, hvb, hvat, _⟩ := HVO.out.nth x2
        obtain ⟨d0, d1, d2, d3⟩ := hvat
        simp only at d0 d1 d2 d3
        obtain ⟨v1, v2, v3, vl⟩ := v
        simp only at d0 d1 d2 d3
        rw [x3] at HPE
        simp only at HPE
        have hi1 : (i : Int) < (m : Int) := by omega
        have hi2 : (0 : Int) ≤ (i : Int) := by omega
        subst x1
        clear hE x2 x3 x4 d0 d3
        by_cases hg : r.vgen ≤ v2
        · have g1 : decide (r.vgen ≤ v2) = true := by simpa using hg
          go_wp2_with fail
          go_quiet (fail)
          go_wp2_with fail
          try go_ret
          exact ⟨by rw [HMM.out, HPE.out, if_pos (.inl hg)]; rfl, drawn_below HB2.out _⟩
        · have g1 : decide (r.vgen ≤ v2) = false := by simpa using hg
          by_cases hl : r.vlen = v3
          · have g2 : (r.vlen != v3) = false := by simpa using hl
            have HF : Hid (X.may r = 0) := by unfold Hid; rw [HMM.out, HPE.out, if_neg (by omega)]
            clear hg hl
            go_wp2_with fail
            go_quiet (fail)
            go_wp2_with fail
            try go_ret
            exact ⟨by rw [HF.out]; rfl, drawn_below HB2.out _⟩
          · have g2 : (r.vlen != v3) = true := by simpa using hl
            have HF : Hid (X.may r = 1) := by unfold Hid; rw [HMM.out, HPE.out, if_pos (.inr hl)]
            clear hg hl
            go_wp2_with fail
            go_quiet (fail)
            go_wp2_with fail
            try go_ret
            exact ⟨by rw [HF.out]; rfl, drawn_below HB2.out _⟩
    · have hk3 : r.kind = 3 := by omega
      have q0 : (r.kind == 0) = false := by simpa using k0
      have q1 : (r.kind == 1) = false := by simpa using k1
      have q2 : (r.kind == 2) = false := by simpa using k2
      have q3 : (r.kind == 3) = true := by simpa using hk3
      have e2 := HR2.out.c2
      have e4 := HR2.out.c4
      have e12 := HR2.out.c12
      have e13 := HR2.out.c13
      have HPE : Hid (X.mrgE r = match X.V r.f, X.V r.t with | some a, some b => (if X.H r.vid then 13 else if r.vlen ≠ a.len + b.len then 1 else 0) | _, _ => 9) := rfl
      have HMM : Hid (X.may r = X.mrgE r) := by have := HM.out; rw [if_neg (by decide), if_neg k0, if_neg k1, if_neg k2] at this; exact this
      clear k0 k1 k2 hk4 hk3
      go_wp2_with fail
      refine (kx_place HX2.out HN.out.v r.f).mono ?_
      rintro e w3 ⟨qf, rfl, hF, rfl⟩
      have HF := hide hF
      clear hF
      go_wp2_with fail
      refine (kx_place HX2.out HN.out.v r.t).mono ?_
      rintro e w3 ⟨qt, rfl, hT, rfl⟩
      rcases HRL.out.place HF.out with ⟨x1, x2⟩ | ⟨i, v, x1, x2, x3, x4⟩
      · have hd : decide (qf < (0 : Int)) = true := by simp; omega
        have HZ : Hid (X.mrgE r = 9) := by unfold Hid; rw [HPE.out, x2]
        clear hT x1 x2
        go_wp2_with fail
        try go_ret
        exact ⟨by rw [HMM.out, HZ.out]; rfl, HB2.out⟩
      have hd : decide (qf < (0 : Int)) = false := by simp; omega
      rcases HRL.out.place hT with ⟨y1, y2⟩ | ⟨j, u, y1, y2, y3, y4⟩
      · have hd2 : decide (qt < (0 : Int)) = true := by simp; omega
        have HZ : Hid (X.mrgE r = 9) := by unfold Hid; rw [HPE.out, x3, y2]
        clear hT x1 x2 x3 x4 y1 y2
        go_wp2_with fail
        try go_ret
        exact ⟨by rw [HMM.out, HZ.out]; rfl, HB2.out⟩
      have hd2 : decide (qt < (0 : Int)) = false := by simp; omega
      have l1 := HIV.out.v _ _ x3
      have l2 := HIV.out.v _ _ y3
      have L1 := hide (And.intro l1.2.2.1 l1.2.2.2.1)
      have L2 := hide (And.intro l2.2.2.1 l2.2.2.2.1)
      have hil : i < m := by rw [← HMV.out]; exact (List.getElem?_eq_some_iff.1 x2).1
      have hjl : j < m := by rw [← HMV.out]; exact (List.getElem?_eq_some_iff.1 y2).1
      obtain ⟨vb, vo, xa, xc, rfl, hvb, hvat, _⟩ := HVO.out.nth x2
      obtain ⟨vb2, vo2, ya, yc, hva2, hvb2, hvat2, _⟩ := HVO.out.nth y2
      cases hva2
      obtain ⟨d0, d1, d2, d3⟩ := hvat
      obtain ⟨f0, f1, f2, f3⟩ := hvat2
      simp only at d2 f2
      obtain ⟨v1, v2, v3, vl⟩ := v
      obtain ⟨u1, u2, u3, ul⟩ := u
      simp only at d2 f2 L1 L2
      rw [x3, y3] at HPE
      simp only at HPE
      have hi1 : (i : Int) < (m : Int) := by omega
      have hi2 : (0 : Int) ≤ (i : Int) := by omega
      have hj1 : (j : Int) < (m : Int) := by omega
      have hj2 : (0 : Int) ≤ (j : Int) := by omega
      subst x1 y1
      clear hT x2 x3 x4 y2 y3 y4 d0 d1 d3 f0 f1 f3 l1 l2
      go_wp2_with fail
      refine (kx_had2 HX2.out HRL.out HN.out.h r.vid).mono ?_
      rintro e w3 ⟨rfl, rfl⟩
      cases hh : X.H r.vid with
      | true =>
        rw [hh] at HPE
        go_wp2_with fail
        try go_ret
        exact ⟨by rw [HMM.out, HPE.out]; rfl, HB2.out⟩
      | false =>
        rw [hh] at HPE
        have hw : IntKind.i64.wrap (v3 + u3) = v3 + u3 := by have := L1.out; have := L2.out; rw [IntKind.wrap_i64]; omega
        by_cases hl : r.vlen = v3 + u3
        · have g2 : (r.vlen != v3 + u3) = false := by simpa using hl
          have HF : Hid (X.may r = 0) := by unfold Hid; rw [HMM.out, HPE.out, if_neg (by decide), if_neg (by omega)]
          clear hl
          go_wp2_with fail
          go_quiet (fail)
          go_wp2_with fail
          try go_ret
          exact ⟨by rw [HF.out]; rfl, drawn_below HB2.out _⟩
        · have g2 : (r.vlen != v3 + u3) = true := by simpa using hl
          have HF : Hid (X.may r = 1) := by unfold Hid; rw [HMM.out, HPE.out, if_neg (by decide), if_pos (by omega)]
          clear hl
          go_wp2_with fail
          go_quiet (fail)
          go_wp2_with fail
          try go_ret
          exact ⟨by rw [HF.out]; rfl, drawn_below HB2.out _⟩
  · rw [if_pos hck] at HM
    have q9 : (ckR r == 0) = false := by simpa using hck
    have q8 : (ckR r != 0) = true := by simpa using hck
    clear hck
    go_wp2_with fail
    try go_ret
    exact ⟨by rw [HM.out]; rfl, HB2.out⟩
end Go.Proofs.YtonhmihmnkicdaaGreat
namespace Go.Proofs.YtonhmihmnkicdaaGreat
open Go.RowKit
set_option linter.unusedVariables false
section
variable {S : KS} {X : FX} {r : Rc}
theorem rel_none (h : Rel S X) {k : ByteArray} (hT : X.T k = none) : ∀ e ∈ S.E, e.key ≠ k := fun e he q => by
  have := h.ofE he
  rw [q, hT] at this; cases this
theorem rel_was (h : Rel S X) (hi : X.Inv) {id : Int} (hH : X.H id = false) : ∀ v ∈ S.V, v.id ≠ id := fun v hv q => by
  have := (hi.v _ _ (h.ofV hv)).2.1
  rw [q, hH] at this; cases this
theorem rel_put (h : Rel S X) (hi : X.Inv) (hm : X.putE r = 0) : Rel ⟨S.E ++ [rEn r], S.G, layV S.V (rVD r), S.H ++ [r.vid]⟩ (X.put r) := by
  obtain ⟨hkn, hH⟩ := put_zero hm
  obtain ⟨hT, hG⟩ := known_false hkn
  have hE := rel_none h hT
  have hV := rel_was h hi hH
  refine ⟨fun k => ?_, h.g, fun id => ?_, fun id => ?_, ?_, sorted_layV _ _ h.kv hV⟩
  · show tset X.T r.ek (some (rEn r)) k = (S.E ++ [rEn r]).find? (isK k)
    rw [List.find?_append]
    unfold tset
    by_cases q : k = r.ek
    · rw [if_pos q, ← h.t k, q, hT]
      have : isK r.ek (rEn r) = true := by simp [isK, rEn]
      simp [List.find?, this]
    · rw [if_neg q, ← h.t k]
      have : isK k (rEn r) = false := by
        unfold isK
        rw [decide_eq_false_iff_not]
        exact fun e => q (show r.ek = k from e).symm
      cases X.T k <;> simp [List.find?, this]
  · show vset X.V r.vid (some (rVD r)) id = _
    have := find_layV S.V (rVD r) hV id
    show _ = (layV S.V (rVD r)).find? (isV id)
    rw [this, show (rVD r).id = r.vid from rfl]
    unfold vset
    by_cases q : id = r.vid
    · rw [if_pos q, if_pos q]
    · rw [if_neg q, if_neg q]; exact h.v id
  · show hset X.H r.vid id = true ↔ id ∈ S.H ++ [r.vid]
    unfold hset
    by_cases q : id = r.vid
    · simp [q]
    · rw [if_neg q, h.h id]; simp [q]
  · refine List.pairwise_append.2 ⟨h.ke, List.pairwise_singleton _ _, fun a ha b hb => ?_⟩
    rw [List.mem_singleton.1 hb]
    exact hE a ha
theorem livT_list (h : Rel S X) (id : Int) : livT X.T id ↔ ∃ e ∈ S.E, e.vol = id := by
  constructor
  · rintro ⟨k, e, h1, h2⟩
    exact ⟨e, (h.memE h1).1, h2⟩
  · rintro ⟨e, h1, h2⟩
    exact ⟨e.key, e, h.ofE h1, h2⟩
theorem rel_del (h : Rel S X) (k : ByteArray) : Rel ⟨remE S.E k, S.G ++ [k], S.V, S.H⟩ (X.del k) := by
  refine ⟨fun k' => ?_, fun k' => ?_, h.v, h.h, h.ke.filter _, h.kv⟩
  · show tset X.T k none k' = (remE S.E k).find? (isK k')
    rw [find_remE]
    unfold tset
    by_cases q : k' = k
    · rw [if_pos q, if_pos q]
    · rw [if_neg q, if_neg q]; exact h.t k'
  · show gset X.G k k' = true ↔ k' ∈ S.G ++ [k]
    unfold gset
    by_cases q : k' = k
    · simp [q]
    · rw [if_neg q, h.g k']; simp [q]
theorem rel_end (h : Rel S X) (id : Int) : Rel ⟨S.E, S.G, witV S.V id, S.H⟩ (X.end id) := by
  refine ⟨h.t, h.g, fun j => ?_, h.h, h.ke, sorted_witV h.kv _⟩
  show vset X.V id none j = (witV S.V id).find? (isV j)
  rw [find_witV]
  unfold vset
  by_cases q : j = id
  · rw [if_pos q, if_pos q]
  · rw [if_neg q, if_neg q]; exact h.v j
theorem rel_mov (h : Rel S X) (hi : X.Inv) (hm : X.movE r = 0) : Rel ⟨S.E, S.G, movV S.V (rVD r), S.H⟩ (X.mov r) := by
  obtain ⟨o, hV, _, _⟩ := mov_zero hm
  have hH := (hi.v _ _ hV).2.1
  refine ⟨h.t, h.g, fun j => ?_, fun j => ?_, h.ke, sorted_movV h.kv _⟩
  · show vset (vset X.V r.vid none) r.vid (some (rVD r)) j = (movV S.V (rVD r)).find? (isV j)
    rw [find_movV, show (rVD r).id = r.vid from rfl]
    unfold vset
    by_cases q : j = r.vid
    · rw [if_pos q, if_pos q, ← h.v, q, hV]; rfl
    · rw [if_neg q, if_neg q, if_neg q]; exact h.v j
  · show hset X.H r.vid j = true ↔ _
    unfold hset
    by_cases q : j = r.vid
    · rw [if_pos q, q]
      exact ⟨fun _ => (h.h _).1 hH, fun _ => rfl⟩
    · rw [if_neg q]; exact h.h j
theorem rel_mrg (h : Rel S X) (hi : X.Inv) (hm : X.mrgE r = 0) (hne : r.f ≠ r.t) : Rel ⟨S.E.map (fun e => mrgEd e r.f r.t r.vid (X.vol r.f).len), S.G, layV (witV (witV S.V r.f) r.t) (rVD r), S.H ++ [r.vid]⟩ (X.mrg r) := by
  obtain ⟨a, b, hf, ht, hH, hl⟩ := mrg_zero hm
  obtain ⟨a1, a2, _⟩ := hi.v _ _ hf
  obtain ⟨b1, b2, _⟩ := hi.v _ _ ht
  have hvt : r.vid ≠ r.t := fun e => by rw [e, b2] at hH; cases hH
  have hva : X.vol r.f = a := by unfold FX.vol; rw [hf]; rfl
  have hw : ∀ x ∈ witV (witV S.V r.f) r.t, x.id ≠ (rVD r).id := fun x hx => rel_was h hi hH x ((List.mem_filter.1 (List.mem_filter.1 hx).1).1)
  refine ⟨fun k => ?_, h.g, fun id => ?_, fun id => ?_, ?_, sorted_layV _ _ (sorted_witV (sorted_witV h.kv _) _) hw⟩
  · rw [mrg_T hf ht a1 b1 hne hvt, hva]
    show _ = (S.E.map _).find? (isK k)
    rw [find_mapE _ _ (fun e => mrgEd_key e _ _ _ _), ← h.t k]
    congr 1
    funext e
    exact (mrgEd_is e hne _ _).symm
  · rw [mrg_V]
    show _ = (layV (witV (witV S.V r.f) r.t) (rVD r)).find? (isV id)
    rw [find_layV _ _ hw, find_witV, find_witV, show (rVD r).id = r.vid from rfl]
    by_cases q : id = r.vid
    · rw [if_pos q, if_pos q]
    · rw [if_neg q, if_neg q]
      by_cases q1 : id = r.t
      · rw [if_pos q1, if_pos q1]
      · rw [if_neg q1, if_neg q1]
        by_cases q2 : id = r.f
        · rw [if_pos q2, if_pos q2]
        · rw [if_neg q2, if_neg q2]; exact h.v id
  · show hset X.H r.vid id = true ↔ id ∈ S.H ++ [r.vid]
    unfold hset
    by_cases q : id = r.vid
    · simp [q]
    · rw [if_neg q, h.h id]; simp [q]
  · show (S.E.map _).Pairwise _
    refine List.pairwise_map.2 (h.ke.imp fun {x y} hxy => ?_)
    rw [mrgEd_key, mrgEd_key]; exact hxy
end
open Classical in
/-- what the document's remove makes of the lists -/
noncomputable def KS.rem (S : KS) (X : FX) (k : ByteArray) : KS := if livT (X.del k).T (X.volOf k) then ⟨remE S.E k, S.G ++ [k], S.V, S.H⟩ else ⟨remE S.E k, S.G ++ [k], witV S.V (X.volOf k), S.H⟩
def KS.mrg (S : KS) (X : FX) (r : Rc) : KS := ⟨S.E.map (fun e => mrgEd e r.f r.t r.vid (X.vol r.f).len), S.G, layV (witV (witV S.V r.f) r.t) (rVD r), S.H ++ [r.vid]⟩
noncomputable def KS.doR (S : KS) (X : FX) (r : Rc) : KS := if r.kind = 0 then ⟨S.E ++ [rEn r], S.G, layV S.V (rVD r), S.H ++ [r.vid]⟩ else if r.kind = 1 then S.rem X r.k else if r.kind = 2 then ⟨S.E, S.G, movV S.V (rVD r), S.H⟩ else S.mrg X r
noncomputable def KS.app (S : KS) (X : FX) (r : Rc) : KS := if X.may r = 0 then S.doR X r else S
theorem rel_rem {S : KS} {X : FX} (h : Rel S X) (k : ByteArray) : Rel (S.rem X k) (X.rem k) := by
  unfold KS.rem FX.rem
  have hd := rel_del h k
  by_cases hL : livT (X.del k).T (X.volOf k)
  · rw [if_pos hL, if_pos hL]; exact hd
  · rw [if_neg hL, if_neg hL]; exact rel_end hd _
theorem rel_app {S : KS} {X : FX} {r : Rc} (h : Rel S X) (hi : X.Inv) : Rel (S.app X r) (X.app r) := by
  unfold KS.app FX.app
  by_cases hm : X.may r = 0
  · rw [if_pos hm, if_pos hm]
    obtain ⟨hc, h0, h1, h2, h3⟩ := may_zero hm
    unfold KS.doR FX.doR
    have hz := ckR_zero.1 hc
    rcases kind_four hz.1 with q | q | q | q
    · rw [if_pos q, if_pos q]; exact rel_put h hi (h0 q)
    · rw [if_neg (by omega), if_pos q, if_neg (by omega), if_pos q]; exact rel_rem h _
    · rw [if_neg (by omega), if_neg (by omega), if_pos q, if_neg (by omega), if_neg (by omega), if_pos q]; exact rel_mov h hi (h2 q)
    · rw [if_neg (by omega), if_neg (by omega), if_neg (by omega), if_neg (by omega), if_neg (by omega), if_neg (by omega)]
      obtain ⟨_, n1, n2, hne⟩ := (ckK_3 q).1 hz.2.1
      exact rel_mrg h hi (h3 q) hne
  · rw [if_neg hm, if_neg hm]; exact h
/-- no list has more than n -/
structure KS.le (S : KS) (n : Nat) : Prop where
  e : S.E.length ≤ n
  g : S.G.length ≤ n
  v : S.V.length ≤ n
  h : S.H.length ≤ n
theorem layV_len : ∀ (l : List VD) (v : VD), (layV l v).length = l.length + 1
  | [], v => rfl
  | x :: l, v => by
    unfold layV
    split
    · simp
    · simp [layV_len l v]
theorem witV_len (l : List VD) (id : Int) : (witV l id).length ≤ l.length := List.length_filter_le _ _
theorem remE_len (l : List En) (k : ByteArray) : (remE l k).length ≤ l.length := List.length_filter_le _ _
theorem app_le {S : KS} {X : FX} {r : Rc} {n : Nat} (h : S.le n) : (S.app X r).le (n + 1) := by
  obtain ⟨h1, h2, h3, h4⟩ := h
  have a1 := remE_len S.E r.k
  have a2 := witV_len S.V (X.volOf r.k)
  have a3 := layV_len S.V (rVD r)
  have a4 := layV_len (witV (witV S.V r.f) r.t) (rVD r)
  have a5 := witV_len S.V r.f
  have a6 := witV_len (witV S.V r.f) r.t
  unfold KS.app
  split
  · unfold KS.doR
    split
    · exact ⟨by simp; omega, by simp; omega, by simp; omega, by simp; omega⟩
    · split
      · unfold KS.rem
        split
        · exact ⟨by simp; omega, by simp; omega, by simp; omega, by simp; omega⟩
        · exact ⟨by simp; omega, by simp; omega, by simp; omega, by simp; omega⟩
      · split
        · exact ⟨by simp; omega, by simp; omega, by simp [movV]; omega, by simp; omega⟩
        · exact ⟨by simp [KS.mrg]; omega, by simp [KS.mrg]; omega, by simp [KS.mrg]; omega, by simp [KS.mrg]; omega⟩
  · exact ⟨by omega, by omega, by omega, by omega⟩
/-! laying, step by step -/
theorem layV_none : ∀ (l : List VD) (v : VD), (∀ x ∈ l, ¬ v.id < x.id) → layV l v = l ++ [v]
  | [], v, _ => rfl
  | x :: l, v, h => by
    unfold layV
    rw [if_neg (h x (by simp)), layV_none l v (fun y hy => h y (by simp [hy]))]
    rfl
theorem layV_first : ∀ (l : List VD) (v y : VD), (∀ x ∈ l, ¬ v.id < x.id) → v.id < y.id → layV (l ++ [y]) v = l ++ [v] ++ [y]
  | [], v, y, _, h => by show layV [y] v = _; unfold layV; rw [if_pos h]; rfl
  | x :: l, v, y, h, hy => by
    show layV (x :: (l ++ [y])) v = _
    unfold layV
    rw [if_neg (h x (by simp)), layV_first l v y (fun z hz => h z (by simp [hz])) hy]
    rfl
theorem layV_later : ∀ (l : List VD) (v y : VD), (∃ x ∈ l, v.id < x.id) → layV (l ++ [y]) v = layV l v ++ [y]
  | [], v, y, h => by obtain ⟨x, hx, _⟩ := h; simp at hx
  | x :: l, v, y, h => by
    show layV (x :: (l ++ [y])) v = layV (x :: l) v ++ [y]
    unfold layV
    by_cases hq : v.id < x.id
    · rw [if_pos hq, if_pos hq]; rfl
    · rw [if_neg hq, if_neg hq, layV_later l v y]
      · rfl
      · obtain ⟨z, hz, hlt⟩ := h
        rcases List.mem_cons.1 hz with q | q
        · rw [q] at hlt; exact absurd hlt hq
        · exact ⟨z, q, hlt⟩
theorem witV_snoc {L : List VD} {k : Nat} {y : VD} (id : Int) (h : L[k]? = some y) : witV (L.take (k + 1)) id = if y.id ≠ id then witV (L.take k) id ++ [y] else witV (L.take k) id := by
  rw [List.take_add_one, h]
  show witV (L.take k ++ [y]) id = _
  unfold witV
  rw [List.filter_append]
  by_cases q : y.id = id
  · simp [q]
  · simp [q]
theorem remE_snoc {E : List En} {j : Nat} {e : En} (k : ByteArray) (h : E[j]? = some e) : remE (E.take (j + 1)) k = if e.key ≠ k then remE (E.take j) k ++ [e] else remE (E.take j) k := by
  rw [List.take_add_one, h]
  show remE (E.take j ++ [e]) k = _
  unfold remE
  rw [List.filter_append]
  by_cases q : e.key = k
  · simp [q]
  · simp [q]
theorem movV_snoc {L : List VD} {k : Nat} {y : VD} (v : VD) (h : L[k]? = some y) : movV (L.take (k + 1)) v = movV (L.take k) v ++ [if y.id = v.id then v else y] := by
  rw [List.take_add_one, h]
  show movV (L.take k ++ [y]) v = _
  unfold movV
  rw [List.map_append]
  rfl
theorem map_snoc {E : List En} {j : Nat} {e : En} (g : En → En) (h : E[j]? = some e) : (E.take (j + 1)).map g = (E.take j).map g ++ [g e] := by
  rw [List.take_add_one, h]
  show (E.take j ++ [e]).map g = _
  rw [List.map_append]
  rfl
end Go.Proofs.YtonhmihmnkicdaaGreat
