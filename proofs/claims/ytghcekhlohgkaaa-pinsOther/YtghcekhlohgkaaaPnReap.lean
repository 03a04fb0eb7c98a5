/- What Reap of the pins answers. (Written by genpp.py.) -/
import Derived.Test.YtghcekhlohgkaaaPnGrow
namespace Go.Proofs.Ytghcekhlohgkaaa
open Go.RowKit
set_option linter.unusedVariables false
set_option maxRecDepth 100000 in
set_option maxHeartbeats 8000000 in
theorem pn_reap {B : Nat} {P : Pn} {R : Int × Int → Nat} {L : List VD} {w : World} (h : PnAt B w P R L) (hL : L.length ≤ 1000000) (hok : ∀ x ∈ L, OkP x.pin) : Calls Try.prog 17 #[.pointer (some ⟨P.pb, 0, none⟩)] w fun e w' => ∃ v P', e = .returned v ∧ P'.pb = P.pb ∧ P'.n = P.n ∧ PnAt B w' P' R (rpL R L) ∧ Mds B P.own w P'.own w' ∧ RowV B w' v (rpO R L) ∧ ∀ i, v.ownBlock = some i → w.heap.size ≤ i ∧ ¬ P'.own i := by
  obtain ⟨av, cv, hv, hcv, hcm, hvos⟩ := h.row.form
  have c1 : w.cell? ⟨P.pb, 1, none⟩ = some (.slice av L.length cv) := by rw [← hv]; exact cell_of_block h.box
  have c0 : w.cell? ⟨P.pb, 0, none⟩ = some (.map (some P.mb)) := cell_of_block h.box
  have H := hide h
  have HVOS := hide hvos
  have HOK := hide hok
  have HBw : Hid (B ≤ w.heap.size) := by have := h.lpb; have := h.lt (.inl rfl); show _ ≤ _; omega
  have hzv := vol_zero
  have hpl := h.lt (.inl rfl)
  obtain ⟨i0, hi0, hz0, hz1, hz2⟩ := info_parts vol_info
  have HI := hide hi0
  have HI0 := hide hz0
  have HI1 := hide hz1
  have HI2 := hide hz2
  clear h hv hvos hok hi0 hz0 hz1 hz2
  go_enter Try.func17, Try.ntmps17
  go_wp2_with fail
  go_loopw [3, 4, 14] (fun v3 v4 y wr => ∃ k : Nat, k ≤ L.length ∧ y = .int .i64 k ∧ Gv B w wr v3 (rpO R (L.take k)) ∧ Gv B w wr v4 (rpL R (L.take k)) ∧ (∀ i, v3.ownBlock = some i → v4.ownBlock ≠ some i) ∧ Below w.heap.size w wr) (fun v3 v4 y _ => L.length - (intOf y).toNat)
  case atStart => exact ⟨0, by omega, rfl, by simpa [rpO] using Gv.nil B w w, by simpa [rpL] using Gv.nil B w w, fun i hi => (by cases hi), Below.refl _ _⟩
  case round =>
    obtain ⟨k, hk, rfl, hg3, hg4, hne, hbl⟩ := hrel
    have HB := hide hbl
    have HG3 := hide hg3
    have HG4 := hide hg4
    have HNE2 := hide hne
    have HNE : Hid (∀ i, u4.ownBlock = some i → u3.ownBlock ≠ some i) := fun i hi e => hne i e hi
    clear hbl hg3 hg4 hne
    by_cases hlt : k < L.length
    · have hd : decide ((k : Int) < (L.length : Int)) = true := by simp; omega
      have hdi : (k : Int) < (L.length : Int) := by omega
      have hd0 : (0 : Int) ≤ (k : Int) := by omega
      obtain ⟨y, hy⟩ : ∃ y, L[k]? = some y := ⟨_, List.getElem?_eq_getElem hlt⟩
      obtain ⟨b1, o1, ya, yc, rfl, hbk, p1, q1⟩ := (HVOS.out.below HB.out).nth hy
      obtain ⟨d0, d1, d2, d3⟩ := p1
      simp only at d0 d1 d2 d3
      obtain ⟨yn, hyn⟩ : ∃ yn, y.ls.length = yn := ⟨_, rfl⟩
      rw [hyn] at d3
      have hba : Below wr.heap.size wr (wr.alloc (.cells #[.int .i64 y.id, .int .i64 y.gen, .int .i64 y.len, .slice ya yn yc] 33)) := (Below.refl _ _).alloc (Nat.le_refl _) _
      have HBA := hide (HB.out.trans (hba.mono HB.out.size))
      have HBA1 := hide hba
      have hka : (wr.alloc (.cells #[.int .i64 y.id, .int .i64 y.gen, .int .i64 y.len, .slice ya yn yc] 33)).heap[wr.heap.size]? = some (.cells #[.int .i64 y.id, .int .i64 y.gen, .int .i64 y.len, .slice ya yn yc] 33 (0, 0)) := heap_alloc_new _ _
      have HTO := hide (rpO_snoc (R := R) hy)
      have HTL := hide (rpL_snoc (R := R) hy)
      have HLK := hide q1
      have HYN := hide hyn
      have HP2 := hide (H.out.below HBA.out)
      have hyk : OkP (y.id, y.gen) := HOK.out y (List.mem_of_getElem? hy)
      have hpc : (wr.alloc (.cells #[.int .i64 y.id, .int .i64 y.gen, .int .i64 y.len, .slice ya yn yc] 33)).cell? ⟨P.pb, 0, none⟩ = some (.map (some P.mb)) := cell_of_block HP2.out.box
      have hl : ∀ q os, (Instr.lookup 46 (.map (some P.mb)) (.agg #[.int .i64 y.id, .int .i64 y.gen]) false).run Try.prog (Go.Sort.grow (redrawn (wr.alloc (.cells #[.int .i64 y.id, .int .i64 y.gen, .int .i64 y.len, .slice ya yn yc] 33)) q) os) = .ok (.int .i64 (R (y.id, y.gen))) (Go.Sort.grow (redrawn (wr.alloc (.cells #[.int .i64 y.id, .int .i64 y.gen, .int .i64 y.len, .slice ya yn yc] 33)) q) os) := fun q os => by
        have := (HP2.out.below (below_regrown _ q os)).map.look1 ke_pin Try.underlying46 (int_zero _) hyk
        rw [rdM_get] at this
        exact this
      clear hy q1 hba hyn hyk HP2
      go_upto_region 7 with fail
      have g0 : (wr.alloc (.cells #[.int .i64 y.id, .int .i64 y.gen, .int .i64 y.len, .slice ya yn yc] 33)).cell? ⟨wr.heap.size, 0, none⟩ = some (.int .i64 y.id) := cell_of_block hka
      have g1 : (wr.alloc (.cells #[.int .i64 y.id, .int .i64 y.gen, .int .i64 y.len, .slice ya yn yc] 33)).cell? ⟨wr.heap.size, 1, none⟩ = some (.int .i64 y.gen) := cell_of_block hka
      have g2 : (wr.alloc (.cells #[.int .i64 y.id, .int .i64 y.gen, .int .i64 y.len, .slice ya yn yc] 33)).cell? ⟨wr.heap.size, 2, none⟩ = some (.int .i64 y.len) := cell_of_block hka
      have g3 : (wr.alloc (.cells #[.int .i64 y.id, .int .i64 y.gen, .int .i64 y.len, .slice ya yn yc] 33)).cell? ⟨wr.heap.size, 3, none⟩ = some (.slice ya yn yc) := cell_of_block hka
      clear hka
      have hws : wr.heap.size ≤ (wr.alloc (.cells #[.int .i64 y.id, .int .i64 y.gen, .int .i64 y.len, .slice ya yn yc] 33)).heap.size := HBA1.out.size
      generalize wr.alloc (.cells #[.int .i64 y.id, .int .i64 y.gen, .int .i64 y.len, .slice ya yn yc] 33) = W2 at *
      have k0 := cell_regrown hpc
      have l0 := cell_regrown g0
      have l1 := cell_regrown g1
      have l2 := cell_regrown g2
      have l3 := cell_regrown g3
      have r0 := pinOf_q y.id y.gen y.len (.slice ya yn yc) W2
      have G0 := hide g0
      have G1 := hide g1
      have G2 := hide g2
      have G3 := hide g3
      clear hpc g0 g1 g2 g3 d0 d1 d2 d3
      refine wp_region_quiet_below (by kernel_rfl) (by kernel_rfl) ?_
      repeat (quiet_step (first | (with_reducible exact r0 _ _)))
      refine wpQuiet_nil ?_
      intro _ hw'
      obtain ⟨pq, hw''⟩ := hw'
      subst hw''
      have HQ := hide (HBA.out.trans ((below_regrown W2 pq.d pq.os).mono HBA.out.size))
      have HQB := hide (HBA1.out.trans ((below_regrown W2 pq.d pq.os).mono hws))
      have e0 := cell_regrown G0.out pq.d pq.os
      have e1 := cell_regrown G1.out pq.d pq.os
      have e2 := cell_regrown G2.out pq.d pq.os
      have e3 := cell_regrown G3.out pq.d pq.os
      clear k0 l0 l1 l2 l3 r0 hl
      generalize Go.Sort.grow (redrawn W2 pq.d) pq.os = WQ at *
      by_cases hz : R y.pin = 0
      · have hq : ((R (y.id, y.gen) : Int) == 0) = true := by have : R (y.id, y.gen) = 0 := hz; simp [this]
        rw [hq]
        have hzz : R y.pin = 0 := hz
        rw [if_pos hzz] at HTO HTL
        clear hz hzz hq
        have hg3 := HG3.out.below HQB.out
        have hg4 := HG4.out.below HQB.out
        obtain ⟨vs, hv1, hv2, hv3⟩ := hg3.row
        have HV2 := hide hv2
        have HLV : Hid (vs.length ≤ k) := by unfold Hid; rw [← List.length_map (f := Vo.d), hv1]; unfold rpO; exact Nat.le_trans (List.length_filter_le _ _) (by rw [List.length_take]; omega)
        have HPUSH : Hid (∀ {o : Obj} {w1 : World} {v' : Value}, w1.ownsRow B 33 4 v' (vs.length + 1) (voV vs ++ voC ⟨y, ya, yc⟩) → (WQ.alloc o).grownBy w1 u3.ownBlock → (v'.ownBlock = u3.ownBlock ∨ v'.ownBlock = some (WQ.alloc o).heap.size) → Gv B w w1 v' (rpO R (L.take k) ++ [y]) ∧ Below w.heap.size w w1 ∧ Gv B w w1 u4 (rpL R (L.take k)) ∧ ∀ i, u4.ownBlock = some i → v'.ownBlock ≠ some i) := fun h1 h2 h3 => by
          have := Gv.push HBw.out HQ.out hg3.new hv1 hv2 hv3 ⟨y, ya, yc⟩ (HLK.out.below HQB.out) h1 h2 h3
          have t := this.2.2 u4 _ hg4 HNE.out
          exact ⟨this.1, this.2.1, t.1, t.2⟩
        have hsz3 : B ≤ WQ.heap.size := Nat.le_trans HBw.out HQ.out.size
        clear hg3 hg4 hv1 hv2 hv3
        go_wp2_with (first | (at_builtin; refine wpList_append_own_at _ rfl (.tmp 26) (.tmp 28) 28 rfl B 33 i0 (.agg #[.int .i64 0, .int .i64 0, .int .i64 0, .slice none 0 0]) 4 48 Try.underlying28 HI.out HI0.out HI1.out HI2.out rfl (by decide) _ _ _ rfl (HV2.out.alloc _) ⟨WQ.heap.size, 0, none⟩ 1 1 (voC ⟨y, ya, yc⟩) rfl (by simp [voC]) (by have := cell_vol_new WQ ⟨y, ya, yc⟩ 33; unfold voA at this; simp only [HYN.out] at this; exact this) (voC_one _) (by have := HLV.out; unfold maxLen; omega) (by have := HLV.out; omega) (by rw [World.size_alloc]; omega) ?_; intro v' w3 hown hgr hnil hat; clear hnil; have HN := hide (HPUSH.out hown hgr hat); clear hown hgr hat))
        all_goals exact ⟨⟨k + 1, by omega, by go_num, by rw [HTO.out]; exact HN.out.1, by rw [HTL.out]; exact HN.out.2.2.1, fun i hi e => HN.out.2.2.2 i e hi, HN.out.2.1⟩, by simp [intOf]; omega⟩

      · have hq : ((R (y.id, y.gen) : Int) == 0) = false := by have : R (y.id, y.gen) ≠ 0 := hz; simp; omega
        rw [hq]
        have hzz : ¬ R y.pin = 0 := hz
        rw [if_neg hzz] at HTO HTL
        clear hz hzz hq
        have hg3 := HG4.out.below HQB.out
        have hg4 := HG3.out.below HQB.out
        obtain ⟨vs, hv1, hv2, hv3⟩ := hg3.row
        have HV2 := hide hv2
        have HLV : Hid (vs.length ≤ k) := by unfold Hid; rw [← List.length_map (f := Vo.d), hv1]; unfold rpL; exact Nat.le_trans (List.length_filter_le _ _) (by rw [List.length_take]; omega)
        have HPUSH : Hid (∀ {o : Obj} {w1 : World} {v' : Value}, w1.ownsRow B 33 4 v' (vs.length + 1) (voV vs ++ voC ⟨y, ya, yc⟩) → (WQ.alloc o).grownBy w1 u4.ownBlock → (v'.ownBlock = u4.ownBlock ∨ v'.ownBlock = some (WQ.alloc o).heap.size) → Gv B w w1 v' (rpL R (L.take k) ++ [y]) ∧ Below w.heap.size w w1 ∧ Gv B w w1 u3 (rpO R (L.take k)) ∧ ∀ i, u3.ownBlock = some i → v'.ownBlock ≠ some i) := fun h1 h2 h3 => by
          have := Gv.push HBw.out HQ.out hg3.new hv1 hv2 hv3 ⟨y, ya, yc⟩ (HLK.out.below HQB.out) h1 h2 h3
          have t := this.2.2 u3 _ hg4 HNE2.out
          exact ⟨this.1, this.2.1, t.1, t.2⟩
        have hsz3 : B ≤ WQ.heap.size := Nat.le_trans HBw.out HQ.out.size
        clear hg3 hg4 hv1 hv2 hv3
        go_wp2_with (first | (at_builtin; refine wpList_append_own_at _ rfl (.tmp 30) (.tmp 32) 28 rfl B 33 i0 (.agg #[.int .i64 0, .int .i64 0, .int .i64 0, .slice none 0 0]) 4 48 Try.underlying28 HI.out HI0.out HI1.out HI2.out rfl (by decide) _ _ _ rfl (HV2.out.alloc _) ⟨WQ.heap.size, 0, none⟩ 1 1 (voC ⟨y, ya, yc⟩) rfl (by simp [voC]) (by have := cell_vol_new WQ ⟨y, ya, yc⟩ 33; unfold voA at this; simp only [HYN.out] at this; exact this) (voC_one _) (by have := HLV.out; unfold maxLen; omega) (by have := HLV.out; omega) (by rw [World.size_alloc]; omega) ?_; intro v' w3 hown hgr hnil hat; clear hnil; have HN := hide (HPUSH.out hown hgr hat); clear hown hgr hat))
        all_goals exact ⟨⟨k + 1, by omega, by go_num, by rw [HTO.out]; exact HN.out.2.2.1, by rw [HTL.out]; exact HN.out.1, fun i hi e => HN.out.2.2.2 i hi e, HN.out.2.1⟩, by simp [intOf]; omega⟩

    · have hd : decide ((k : Int) < (L.length : Int)) = false := by simp; omega
      have hkk : L.take k = L := List.take_of_length_le (by omega)
      rw [hkk] at HG3 HG4
      obtain ⟨⟨cs, fs⟩, hP, hM, hu⟩ := H.out.setw HB.out HG4.out
      have hu3 := hu u3 _ HG3.out HNE2.out
      have HP := hide hP
      have HM := hide hM
      have HU := hide hu3
      obtain ⟨a4, c4, h4, -, -, -⟩ := HG4.out.row.form
      subst h4
      clear hP hM hu hu3
      go_wp2_with fail
      try go_ret
      exact ⟨u3, ⟨P.pb, P.mb, P.n, .slice a4 (rpL R L).length c4⟩, rfl, rfl, rfl, HP.out, HM.out, HU.out.1, HU.out.2⟩
end Go.Proofs.Ytghcekhlohgkaaa
