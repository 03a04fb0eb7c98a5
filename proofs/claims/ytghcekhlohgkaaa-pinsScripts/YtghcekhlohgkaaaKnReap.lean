/- What Reap of the document's pins answers. (Written by genkr.py.) -/
import Derived.Test.YtghcekhlohgkaaaKnRetire
namespace Go.Proofs.Ytghcekhlohgkaaa
open Go.RowKit
set_option linter.unusedVariables false
set_option maxRecDepth 100000 in
set_option maxHeartbeats 8000000 in
theorem kn_reap {B : Nat} {Z : Kn} {Q : List (Int × Int)} {M : List VD} {w : World} (h : KnAt B w Z Q M) (hL : M.length ≤ 1000000) (hQ : Q.length ≤ 1000000) : Calls Try.prog 18 #[.pointer (some ⟨Z.kb, 0, none⟩)] w fun e w' => ∃ v Z', e = .returned v ∧ Z'.kb = Z.kb ∧ KnAt B w' Z' Q (rpL (cnt Q) M) ∧ Mds B Z.own w Z'.own w' ∧ RowV B w' v (rpO (cnt Q) M) ∧ ∀ i, v.ownBlock = some i → w.heap.size ≤ i ∧ ¬ Z'.own i := by
  obtain ⟨av, cv, hv, hcv, hcm, hvos⟩ := h.rw.form
  have c1 : w.cell? ⟨Z.kb, 1, none⟩ = some (.slice av M.length cv) := by rw [← hv]; exact cell_of_block h.box
  have H := hide h
  have HVOS := hide hvos
  have HC1 := hide c1
  have HBw : Hid (B ≤ w.heap.size) := by have := h.low; have := h.lt (.inl rfl); show _ ≤ _; omega
  have HZL := hide (h.lt (.inl rfl))
  obtain ⟨i0, hi0, hz0, hz1, hz2⟩ := info_parts vol_info
  have HI := hide hi0
  have HI0 := hide hz0
  have HI1 := hide hz1
  have HI2 := hide hz2
  have HCN : Hid (∀ W i g, Below w.heap.size w W → ∀ q, Calls Try.prog 21 #[.pointer (some ⟨Z.kb, 0, none⟩), .int .i64 i, .int .i64 g] (W.drewN q) fun e w' => e = .returned (.int .i64 (cnt Q (i, g) : Nat)) ∧ ∃ m, w' = W.drewN m) := fun W i g hb q => Calls.quiet_of_same (kn_count ((H.out.below hb).below (drawn_below (Below.refl _ _) q)) i g hQ)
  obtain ⟨mn, hmn⟩ : ∃ mn, M.length = mn := ⟨_, rfl⟩
  have HMN := hide hmn
  rw [hmn] at c1 HC1 hL hcv
  generalize hR : cnt Q = R at *
  clear h hv hvos hmn hi0 hz0 hz1 hz2
  go_enter Try.func18, Try.ntmps18
  go_wp2_with fail
  go_loopw [3, 4, 5] (fun v3 v4 y wr => ∃ k : Nat, k ≤ mn ∧ y = .int .i64 k ∧ Gv B w wr v3 (rpO R (M.take k)) ∧ Gv B w wr v4 (rpL R (M.take k)) ∧ (∀ i, v3.ownBlock = some i → v4.ownBlock ≠ some i) ∧ Below w.heap.size w wr) (fun v3 v4 y _ => mn - (intOf y).toNat)
  case atStart => exact ⟨0, by omega, rfl, by simpa [rpO] using Gv.nil B w w, by simpa [rpL] using Gv.nil B w w, fun i hi => (by cases hi), Below.refl _ _⟩
  case round =>
    obtain ⟨k, hk, rfl, hg3, hg4, hne, hbl⟩ := hrel
    have HB := hide hbl
    have HG3 := hide hg3
    have HG4 := hide hg4
    have HNE2 := hide hne
    have HNE : Hid (∀ i, u4.ownBlock = some i → u3.ownBlock ≠ some i) := fun i hi e => hne i e hi
    have c2 : wr.cell? ⟨Z.kb, 1, none⟩ = some (.slice av mn cv) := (hbl.cell (p := ⟨Z.kb, 1, none⟩) HZL.out).trans HC1.out
    clear hbl hg3 hg4 hne
    by_cases hlt : k < mn
    · have hd : decide ((k : Int) < (mn : Int)) = true := by simp; omega
      have hdi : (k : Int) < (mn : Int) := by omega
      have hd0 : (0 : Int) ≤ (k : Int) := by omega
      obtain ⟨y, hy⟩ : ∃ y, M[k]? = some y := ⟨_, List.getElem?_eq_getElem (by have := HMN.out; omega)⟩
      obtain ⟨b1, o1, ya, yc, rfl, hbk, p1, q1⟩ := (HVOS.out.below HB.out).nth hy
      obtain ⟨d0, d1, d2, d3⟩ := p1
      simp only at d0 d1 d2 d3
      obtain ⟨yn, hyn⟩ : ∃ yn, y.ls.length = yn := ⟨_, rfl⟩
      rw [hyn] at d3
      have HTO := hide (rpO_snoc (R := R) hy)
      have HTL := hide (rpL_snoc (R := R) hy)
      have HLK := hide q1
      have HYN := hide hyn
      have r0 := HCN.out wr y.id y.gen HB.out
      clear hy q1 hyn
      go_wp2_with fail
      go_quiet (first | (with_reducible exact r0 _))
      obtain ⟨WQ, hWQ⟩ : ∃ WQ, WQ = wr.drewN nq := ⟨_, rfl⟩
      have hdr : Below wr.heap.size wr WQ := by rw [hWQ]; exact drawn_below (Below.refl _ _) nq
      have HQB := hide hdr
      have HQ := hide (HB.out.trans (hdr.mono HB.out.size))
      have c3 : WQ.cell? ⟨Z.kb, 1, none⟩ = some (.slice (some ⟨b1, o1, none⟩) mn cv) := by rw [hWQ]; exact c2
      have e0 : WQ.cell? ⟨b1, o1 + k * 4, none⟩ = some (.int .i64 y.id) := by rw [hWQ]; exact d0
      have e1 : WQ.cell? ⟨b1, o1 + k * 4 + 1, none⟩ = some (.int .i64 y.gen) := by rw [hWQ]; exact d1
      have e2 : WQ.cell? ⟨b1, o1 + k * 4 + 2, none⟩ = some (.int .i64 y.len) := by rw [hWQ]; exact d2
      have e3 : WQ.cell? ⟨b1, o1 + k * 4 + 3, none⟩ = some (.slice ya yn yc) := by rw [hWQ]; exact d3
      rw [← hWQ]
      clear hWQ hdr r0
      by_cases hz : R y.pin = 0
      · have hq : ((R (y.id, y.gen) : Int) == 0) = true := by have : R (y.id, y.gen) = 0 := hz; simp [this]
        rw [hq]
        have hzz : R y.pin = 0 := hz
        rw [if_pos hzz] at HTO HTL
        clear hz hzz hq
        have hg3 := HG3.out.below HQB.out
        have hg4 := HG4.out.below HQB.out
        obtain ⟨vs, hv1, hv2, hv3⟩ := hg3.row
        have HV2 := hide hv2
        have HLV : Hid (vs.length ≤ k) := by unfold Hid; rw [← List.length_map (f := Vo.d), hv1]; unfold rpO; exact Nat.le_trans (List.length_filter_le _ _) (by rw [List.length_take]; omega)
        have HPUSH : Hid (∀ {o : Obj} {w1 : World} {v' : Value}, w1.ownsRow B 33 4 v' (vs.length + 1) (voV vs ++ voC ⟨y, ya, yc⟩) → (WQ.alloc o).grownBy w1 u3.ownBlock → (v'.ownBlock = u3.ownBlock ∨ v'.ownBlock = some (WQ.alloc o).heap.size) → Gv B w w1 v' (rpO R (M.take k) ++ [y]) ∧ Below w.heap.size w w1 ∧ Gv B w w1 u4 (rpL R (M.take k)) ∧ ∀ i, u4.ownBlock = some i → v'.ownBlock ≠ some i) := fun h1 h2 h3 => by
          have := Gv.push HBw.out HQ.out hg3.new hv1 hv2 hv3 ⟨y, ya, yc⟩ (HLK.out.below HQB.out) h1 h2 h3
          have t := this.2.2 u4 _ hg4 HNE.out
          exact ⟨this.1, this.2.1, t.1, t.2⟩
        have hsz3 : B ≤ WQ.heap.size := Nat.le_trans HBw.out HQ.out.size
        clear hg3 hg4 hv1 hv2 hv3
        go_wp2_with (first | (at_builtin; refine wpList_append_own_at _ rfl (.tmp 34) (.tmp 42) 28 rfl B 33 i0 (.agg #[.int .i64 0, .int .i64 0, .int .i64 0, .slice none 0 0]) 4 48 Try.underlying28 HI.out HI0.out HI1.out HI2.out rfl (by decide) _ _ _ rfl (HV2.out.alloc _) ⟨WQ.heap.size, 0, none⟩ 1 1 (voC ⟨y, ya, yc⟩) rfl (by simp [voC]) (by have := cell_vol_new WQ ⟨y, ya, yc⟩ 33; unfold voA at this; simp only [HYN.out] at this; exact this) (voC_one _) (by have := HLV.out; unfold maxLen; omega) (by have := HLV.out; omega) (by rw [World.size_alloc]; omega) ?_; intro v' w3 hown hgr hnil hat; clear hnil; have HN := hide (HPUSH.out hown hgr hat); clear hown hgr hat))
        all_goals exact ⟨⟨k + 1, by omega, by go_num, by rw [HTO.out]; exact HN.out.1, by rw [HTL.out]; exact HN.out.2.2.1, fun i hi e => HN.out.2.2.2 i e hi, HN.out.2.1⟩, by simp [intOf]; omega⟩
      · have hq : ((R (y.id, y.gen) : Int) == 0) = false := by have : R (y.id, y.gen) ≠ 0 := hz; simp; omega
        rw [hq]
        have hzz : ¬ R y.pin = 0 := hz
        rw [if_neg hzz] at HTO HTL
        clear hz hzz hq
        have hg3 := HG4.out.below HQB.out
        have hg4 := HG3.out.below HQB.out
        obtain ⟨vs, hv1, hv2, hv3⟩ := hg3.row
        have HV2 := hide hv2
        have HLV : Hid (vs.length ≤ k) := by unfold Hid; rw [← List.length_map (f := Vo.d), hv1]; unfold rpL; exact Nat.le_trans (List.length_filter_le _ _) (by rw [List.length_take]; omega)
        have HPUSH : Hid (∀ {o : Obj} {w1 : World} {v' : Value}, w1.ownsRow B 33 4 v' (vs.length + 1) (voV vs ++ voC ⟨y, ya, yc⟩) → (WQ.alloc o).grownBy w1 u4.ownBlock → (v'.ownBlock = u4.ownBlock ∨ v'.ownBlock = some (WQ.alloc o).heap.size) → Gv B w w1 v' (rpL R (M.take k) ++ [y]) ∧ Below w.heap.size w w1 ∧ Gv B w w1 u3 (rpO R (M.take k)) ∧ ∀ i, u3.ownBlock = some i → v'.ownBlock ≠ some i) := fun h1 h2 h3 => by
          have := Gv.push HBw.out HQ.out hg3.new hv1 hv2 hv3 ⟨y, ya, yc⟩ (HLK.out.below HQB.out) h1 h2 h3
          have t := this.2.2 u3 _ hg4 HNE2.out
          exact ⟨this.1, this.2.1, t.1, t.2⟩
        have hsz3 : B ≤ WQ.heap.size := Nat.le_trans HBw.out HQ.out.size
        clear hg3 hg4 hv1 hv2 hv3
        go_wp2_with (first | (at_builtin; refine wpList_append_own_at _ rfl (.tmp 44) (.tmp 52) 28 rfl B 33 i0 (.agg #[.int .i64 0, .int .i64 0, .int .i64 0, .slice none 0 0]) 4 48 Try.underlying28 HI.out HI0.out HI1.out HI2.out rfl (by decide) _ _ _ rfl (HV2.out.alloc _) ⟨WQ.heap.size, 0, none⟩ 1 1 (voC ⟨y, ya, yc⟩) rfl (by simp [voC]) (by have := cell_vol_new WQ ⟨y, ya, yc⟩ 33; unfold voA at this; simp only [HYN.out] at this; exact this) (voC_one _) (by have := HLV.out; unfold maxLen; omega) (by have := HLV.out; omega) (by rw [World.size_alloc]; omega) ?_; intro v' w3 hown hgr hnil hat; clear hnil; have HN := hide (HPUSH.out hown hgr hat); clear hown hgr hat))
        all_goals exact ⟨⟨k + 1, by omega, by go_num, by rw [HTO.out]; exact HN.out.2.2.1, by rw [HTL.out]; exact HN.out.1, fun i hi e => HN.out.2.2.2 i hi e, HN.out.2.1⟩, by simp [intOf]; omega⟩
    · have hd : decide ((k : Int) < (mn : Int)) = false := by simp; omega
      have hkk : M.take k = M := List.take_of_length_le (by have := HMN.out; omega)
      rw [hkk] at HG3 HG4
      have hm4 : Mds B (fun i => Z.vw.ownBlock = some i) w (fun i => u4.ownBlock = some i) wr := (Mds.of_below _ HB.out HBw.out).refill fun i hi => .inr (HG4.out.new i hi)
      obtain ⟨⟨cs, fs⟩, hP, hM⟩ := H.out.set1 hm4 HG4.out.row
      have hu : RowV B (wr.setCell ⟨Z.kb, 1, none⟩ u4) u3 (rpO R M) := by
        obtain ⟨vs, q1, q2, q3⟩ := HG3.out.row
        have hset : ∀ q, q ≠ Z.kb → (wr.setCell ⟨Z.kb, 1, none⟩ u4).heap[q]? = wr.heap[q]? := fun q hq => Below.heap_setCell _ _ _ _ hq
        have hkb : wr.heap[Z.kb]? = some (.cells #[Z.vl, Z.vw] 30 (0, 0)) := (HB.out.block _ HZL.out).trans H.out.box
        refine ⟨vs, q1, row_keep q2 fun i hi => hset i (by have := HG3.out.new i hi; have := HZL.out; omega), fun y hy => ?_⟩
        rcases q3 y hy with q | ⟨b, o', e1, e2, e3, e4⟩
        · exact .inl q
        · have hbn : b ≠ Z.kb := fun e => by
            rcases e3 with q | ⟨cur, fr, q⟩
            · have := H.out.low; omega
            · rw [e, hkb] at q; injection q with q; injection q with _ q; exact absurd q (by decide)
          have hc : ∀ p, (wr.setCell ⟨Z.kb, 1, none⟩ u4).cell? ⟨b, p, none⟩ = wr.cell? ⟨b, p, none⟩ := fun p => by unfold World.cell?; rw [hset b hbn]
          refine .inr ⟨b, o', e1, by simp [World.setCell]; omega, ?_, fun i z hz => ⟨(hc _).trans (e4 i z hz).1, (hc _).trans (e4 i z hz).2⟩⟩
          rcases e3 with q | ⟨cur, fr, q⟩
          · exact .inl q
          · exact .inr ⟨cur, fr, (hset b hbn).trans q⟩
      have hu2 : ∀ i, u3.ownBlock = some i → w.heap.size ≤ i ∧ ¬ Kn.own ⟨Z.kb, Z.vl, u4⟩ i := fun i hi => by
        refine ⟨HG3.out.new i hi, fun q => ?_⟩
        have h1 := HG3.out.new i hi
        rcases q with q | q | q
        · simp only at q; have := HZL.out; omega
        · have := H.out.lt (.inr (.inl q)); omega
        · exact HNE2.out i hi q
      have HP := hide hP
      have HM := hide hM
      have HU := hide hu
      have HU2 := hide hu2
      obtain ⟨a4, c4, h4, -, -, -⟩ := HG4.out.row.form
      subst h4
      clear hP hM hu hu2 hm4
      go_wp2_with fail
      try go_ret
      exact ⟨u3, ⟨Z.kb, Z.vl, .slice a4 (rpL R M).length c4⟩, rfl, rfl, HP.out, HM.out, HU.out, HU2.out⟩
end Go.Proofs.Ytghcekhlohgkaaa
