/- What Retire of the pins answers. -/
import Derived.Test.YtghcekhlohgkaaaPnPush
import Derived.Deep.Cut
namespace Go.Proofs.Ytghcekhlohgkaaa
open Go.RowKit
set_option linter.unusedVariables false
theorem bx4 {W : World} {b : Nat} {v0 v1 v2 v3 : Value} (h : W.heap[b]? = some (.cells #[v0, v1, v2, v3] 33 (0, 0))) : W.cell? ⟨b, 0, none⟩ = some v0 ∧ W.cell? ⟨b, 1, none⟩ = some v1 ∧ W.cell? ⟨b, 2, none⟩ = some v2 ∧ W.cell? ⟨b, 3, none⟩ = some v3 :=
  ⟨cell_of_block h, cell_of_block h, cell_of_block h, cell_of_block h⟩
set_option maxRecDepth 100000 in
set_option maxHeartbeats 8000000 in
theorem pn_retire {B : Nat} {P : Pn} {R : Int × Int → Nat} {L : List VD} {w : World} (h : PnAt B w P R L) (x : VD) (a : Option Addr) (m c : Nat) (hm : x.ls.length = m) (hm2 : m ≤ 8796093022208) (hx : LocsAt w a x.ls) (hL : L.length ≤ 1000000) : Calls Try.prog 14 #[.pointer (some ⟨P.pb, 0, none⟩), .agg #[.int .i64 x.id, .int .i64 x.gen, .int .i64 x.len, .slice a m c]] w fun e w' => e = .returned (.int .i64 (reE L x)) ∧ ∃ P', P'.pb = P.pb ∧ P'.n = P.n ∧ PnAt B w' P' R (reL L x) ∧ Mds B P.own w P'.own w' := by
  obtain ⟨av, cv, hv, hcv, hcm, hvos⟩ := h.row.form
  have c1 : w.cell? ⟨P.pb, 1, none⟩ = some (.slice av L.length cv) := by rw [← hv]; exact cell_of_block h.box
  have hb1 : Below w.heap.size w (w.alloc (.cells #[.int .i64 x.id, .int .i64 x.gen, .int .i64 x.len, .slice a m c] 33)) := (Below.refl _ _).alloc (Nat.le_refl _) _
  have hk1 : (w.alloc (.cells #[.int .i64 x.id, .int .i64 x.gen, .int .i64 x.len, .slice a m c] 33)).heap[w.heap.size]? = some (.cells #[.int .i64 x.id, .int .i64 x.gen, .int .i64 x.len, .slice a m c] 33 (0, 0)) := heap_alloc_new _ _
  have c1' : (w.alloc (.cells #[.int .i64 x.id, .int .i64 x.gen, .int .i64 x.len, .slice a m c] 33)).cell? ⟨P.pb, 1, none⟩ = some (.slice av L.length cv) := (hb1.cell (p := ⟨P.pb, 1, none⟩) (h.lt (.inl rfl))).trans c1
  have hsz1 : (w.alloc (.cells #[.int .i64 x.id, .int .i64 x.gen, .int .i64 x.len, .slice a m c] 33)).heap.size = w.heap.size + 1 := World.size_alloc _ _
  have H := hide h
  have HV := hide hv
  have HX := hide hx
  have HVOS := hide (hvos.below hb1)
  have HB1 := hide hb1
  have HK1 := hide hk1
  have HLN : Hid (∃ n, L.length = n) := ⟨_, rfl⟩
  have hzv := vol_zero
  clear h hv hx hvos hb1 hk1 c1
  go_enter Try.func14, Try.ntmps14
  go_wp2_with fail
  generalize (w.alloc (.cells #[.int .i64 x.id, .int .i64 x.gen, .int .i64 x.len, .slice a m c] 33)) = W1 at *
  go_loopw [14] (fun y wr => ∃ k : Nat, k ≤ L.length ∧ y = .int .i64 k ∧ hasP (L.take k) x.pin = false ∧ Below W1.heap.size W1 wr) (fun y _ => L.length - (intOf y).toNat)
  case atStart => exact ⟨0, by omega, rfl, by simp [hasP], Below.refl _ _⟩
  case round =>
    obtain ⟨k, hk, rfl, hno, hbl⟩ := hrel
    have HB := hide hbl
    have HNO := hide hno
    clear hbl hno
    by_cases hlt : k < L.length
    · have hd : decide ((k : Int) < (L.length : Int)) = true := by simp; omega
      have hdi : (k : Int) < (L.length : Int) := by omega
      have hd0 : (0 : Int) ≤ (k : Int) := by omega
      obtain ⟨y, hy⟩ : ∃ y, L[k]? = some y := ⟨_, List.getElem?_eq_getElem hlt⟩
      obtain ⟨b1, o1, ya, yc, rfl, hbk, p1, q1⟩ := (HVOS.out.below HB.out).nth hy
      obtain ⟨d0, d1, d2, d3⟩ := p1
      simp only at d0 d1 d2 d3
      generalize y.ls.length = yn at d3
      have HY := hide hy
      have hkw := (HB.out.block w.heap.size (by omega)).trans HK1.out
      have e1 : wr.cell? ⟨w.heap.size, 0, none⟩ = some (.int .i64 x.id) := cell_of_block hkw
      have e2 : wr.cell? ⟨w.heap.size, 1, none⟩ = some (.int .i64 x.gen) := cell_of_block hkw
      have e3 : wr.cell? ⟨w.heap.size, 2, none⟩ = some (.int .i64 x.len) := cell_of_block hkw
      have e4 : wr.cell? ⟨w.heap.size, 3, none⟩ = some (.slice a m c) := cell_of_block hkw
      have hlw : w.heap.size < wr.heap.size := lt_of_block hkw
      have hba : Below wr.heap.size wr (wr.alloc (.cells #[.int .i64 y.id, .int .i64 y.gen, .int .i64 y.len, .slice ya yn yc] 33)) := (Below.refl _ _).alloc (Nat.le_refl _) _
      have hka : (wr.alloc (.cells #[.int .i64 y.id, .int .i64 y.gen, .int .i64 y.len, .slice ya yn yc] 33)).heap[wr.heap.size]? = some (.cells #[.int .i64 y.id, .int .i64 y.gen, .int .i64 y.len, .slice ya yn yc] 33 (0, 0)) := heap_alloc_new _ _
      have f1 := (hba.cell (p := ⟨w.heap.size, 0, none⟩) hlw).trans e1
      have f2 := (hba.cell (p := ⟨w.heap.size, 1, none⟩) hlw).trans e2
      have f3 := (hba.cell (p := ⟨w.heap.size, 2, none⟩) hlw).trans e3
      have f4 := (hba.cell (p := ⟨w.heap.size, 3, none⟩) hlw).trans e4
      have HBA := hide (HB.out.trans (hba.mono HB.out.size))
      clear hy q1 hkw hlw e1 e2 e3 e4 hba
      have qE := pin_eq
      go_upto_region 6 with fail
      have g0 : (wr.alloc (.cells #[.int .i64 y.id, .int .i64 y.gen, .int .i64 y.len, .slice ya yn yc] 33)).cell? ⟨wr.heap.size, 0, none⟩ = some (.int .i64 y.id) := cell_of_block hka
      have g1 : (wr.alloc (.cells #[.int .i64 y.id, .int .i64 y.gen, .int .i64 y.len, .slice ya yn yc] 33)).cell? ⟨wr.heap.size, 1, none⟩ = some (.int .i64 y.gen) := cell_of_block hka
      have g2 : (wr.alloc (.cells #[.int .i64 y.id, .int .i64 y.gen, .int .i64 y.len, .slice ya yn yc] 33)).cell? ⟨wr.heap.size, 2, none⟩ = some (.int .i64 y.len) := cell_of_block hka
      have g3 : (wr.alloc (.cells #[.int .i64 y.id, .int .i64 y.gen, .int .i64 y.len, .slice ya yn yc] 33)).cell? ⟨wr.heap.size, 3, none⟩ = some (.slice ya yn yc) := cell_of_block hka
      clear hka
      generalize wr.alloc (.cells #[.int .i64 y.id, .int .i64 y.gen, .int .i64 y.len, .slice ya yn yc] 33) = W2 at *
      have k1 := cell_regrown f1
      have k2 := cell_regrown f2
      have k3 := cell_regrown f3
      have k4 := cell_regrown f4
      have l0 := cell_regrown g0
      have l1 := cell_regrown g1
      have l2 := cell_regrown g2
      have l3 := cell_regrown g3
      have r0 := pinOf_q y.id y.gen y.len (.slice ya yn yc) W2
      have r1 := pinOf_q x.id x.gen x.len (.slice a m c) W2
      clear f1 f2 f3 f4 g0 g1 g2 g3 d0 d1 d2 d3
      have HQP : Hid ((y.id == x.id && y.gen == x.gen) = decide (y.pin = x.pin)) := by
        unfold Hid VD.pin
        rw [Bool.eq_iff_iff]
        simp
      refine wp_region_quiet_below (by kernel_rfl) (by kernel_rfl) ?_
      repeat (quiet_step (first | (with_reducible exact r0 _ _) | (with_reducible exact r1 _ _)))
      refine wpQuiet_nil ?_
      intro _ hw'
      obtain ⟨pq, hw''⟩ := hw'
      subst hw''
      have HQ := hide (HBA.out.trans ((below_regrown W2 pq.d pq.os).mono HBA.out.size))
      generalize Go.Sort.grow (redrawn W2 pq.d) pq.os = WQ at *
      rw [HQP.out]
      by_cases q : y.pin = x.pin
      · have hqd : decide (y.pin = x.pin) = true := by simpa using q
        rw [hqd]
        have HHAS : Hid (hasP L x.pin = true) := by
          unfold Hid hasP
          rw [List.any_eq_true]
          exact ⟨y, List.mem_of_getElem? HY.out, by simpa using q⟩
        go_wp2_with fail
        try go_ret
        have HBW := HB1.out.trans (HQ.out.mono (by omega))
        exact ⟨by unfold reE; rw [if_pos HHAS.out]; rfl, P, rfl, rfl, by unfold reL; rw [if_pos HHAS.out]; exact H.out.below HBW, Mds.of_below P.own HBW (by have := H.out.lpb; have := H.out.lt (.inl rfl); omega)⟩
      · have hqd : decide (y.pin = x.pin) = false := by simpa using q
        rw [hqd]
        have HN : Hid (hasP (L.take (k + 1)) x.pin = false) := by
          unfold Hid
          rw [hasP_snoc HY.out, HNO.out, hqd]; rfl
        go_wp2_with fail
        exact ⟨⟨k + 1, by omega, by go_num, HN.out, HQ.out⟩, by simp [intOf]; omega⟩
    · have hd : decide ((k : Int) < (L.length : Int)) = false := by simp; omega
      have HNH : Hid (hasP L x.pin = false) := by
        have := HNO.out
        rw [List.take_of_length_le (by omega)] at this
        exact this
      have hbw : Below w.heap.size w wr.drew := (HB1.out.trans (HB.out.mono (by omega))).drew
      have HP2 := hide (H.out.below hbw)
      have HM2 := hide (Mds.of_below (B := B) P.own hbw (by have := H.out.lpb; have := H.out.lt (.inl rfl); omega))
      have HK2 : Hid (wr.drew.heap[w.heap.size]? = some (.cells #[.int .i64 x.id, .int .i64 x.gen, .int .i64 x.len, .slice a m c] 33 (0, 0))) := (HB.out.block _ (by omega)).trans HK1.out
      have HC := hide (copied_any x.id x.gen x.len a m c x.ls wr.drew hm hm2 (HX.out.below hbw))
      have c2 : wr.drew.cell? ⟨P.pb, 1, none⟩ = some P.v := cell_of_block HP2.out.box
      obtain ⟨i0, hi0, hz0, hz1, hz2⟩ := info_parts vol_info
      have HI := hide hi0
      have HI0 := hide hz0
      have HI1 := hide hz1
      have HI2 := hide hz2
      clear hi0 hz0 hz1 hz2 hbw c1'
      go_upto_region 9 with fail
      refine wp_region_noPanic ?_
      refine wp_region_held_drew (S := fun w' => w'.heap[w.heap.size]? = some (.cells #[.int .i64 x.id, .int .i64 x.gen, .int .i64 x.len, .slice a m c] 33 (0, 0))) (by kernel_rfl) HK2.out (fun hHeld => ?_)
      refine wpAnyH_take (i := 0) (v := ?v1) rfl (by kernel_rfl) (by kernel_rfl) (by kernel_rfl) (fun _ _ _ h => h) (Or.inl ⟨by rfl, ?hy1⟩) hHeld ?rest1
      case hy1 => (intro w' hSw; obtain ⟨s0, s1, s2, s3⟩ := bx4 hSw; go_simp; try with_reducible rfl)
      try simp [Act.put]
      refine wpAnyH_take (i := 1) (v := ?v2) rfl (by kernel_rfl) (by kernel_rfl) (by kernel_rfl) (fun _ _ _ h => h) (Or.inl ⟨by rfl, ?hy2⟩) hHeld ?rest2
      case hy2 => (intro w' hSw; obtain ⟨s0, s1, s2, s3⟩ := bx4 hSw; go_simp; try with_reducible rfl)
      try simp [Act.put]
      refine wpAnyH_take (i := 2) (v := ?v3) rfl (by kernel_rfl) (by kernel_rfl) (by kernel_rfl) (fun _ _ _ h => h) (Or.inl ⟨by rfl, ?hy3⟩) hHeld ?rest3
      case hy3 => (intro w' hSw; obtain ⟨s0, s1, s2, s3⟩ := bx4 hSw; go_simp; try with_reducible rfl)
      try simp [Act.put]
      refine wpAnyH_take (i := 3) (v := ?v4) rfl (by kernel_rfl) (by kernel_rfl) (by kernel_rfl) (fun _ _ _ h => h) (Or.inl ⟨by rfl, ?hy4⟩) hHeld ?rest4
      case hy4 => (intro w' hSw; obtain ⟨s0, s1, s2, s3⟩ := bx4 hSw; go_simp; try with_reducible rfl)
      try simp [Act.put]
      refine wpAnyH_take (i := 5) (v := ?v5) rfl (by kernel_rfl) (by kernel_rfl) (by kernel_rfl) (fun _ _ _ h => h) (Or.inl ⟨by rfl, ?hy5⟩) hHeld ?rest5
      case hy5 => (intro w' hSw; obtain ⟨s0, s1, s2, s3⟩ := bx4 hSw; go_simp; try with_reducible rfl)
      try simp [Act.put]
      refine wpAnyH_ready (rs := [4, 6]) (by kernel_rfl) (by simp) ?_
      refine AllReadyH.cons rfl (fun K hK => ?first) (AllReadyH.cons rfl (fun K hK => ?second) AllReadyH.nil)
      case first =>
        go_simp
        refine hK.out _ _ HK2.out (fun hHeld => ?_)
        clear hK K
        try simp [Act.put]
        refine wpAnyH_ready (rs := [6]) (by kernel_rfl) (by simp) ?_
        refine AllReadyH.cons rfl (fun K hK => ?_) AllReadyH.nil
        go_simp
        refine HC.out.mono ?_
        rintro e W3 ⟨a', c', rfl, hlk, hb3⟩
        have hP3 := HP2.out.below hb3
        have cA : W3.cell? ⟨P.pb, 1, none⟩ = some P.v := cell_of_block hP3.box
        have hk3 : W3.heap[w.heap.size]? = some (.cells #[.int .i64 x.id, .int .i64 x.gen, .int .i64 x.len, .slice a m c] 33 (0, 0)) := (hb3.block _ (lt_of_block HK2.out)).trans HK2.out
        have hba : Below W3.heap.size W3 (W3.alloc (.cells #[.int .i64 x.id, .int .i64 x.gen, .int .i64 x.len, .slice a' m c'] 33)) := (Below.refl _ _).alloc (Nat.le_refl _) _
        have cB : (W3.alloc (.cells #[.int .i64 x.id, .int .i64 x.gen, .int .i64 x.len, .slice a' m c'] 33)).cell? ⟨P.pb, 1, none⟩ = some P.v := (hba.cell (p := ⟨P.pb, 1, none⟩) (hP3.lt (.inl rfl))).trans cA
        have hk4 : (W3.alloc (.cells #[.int .i64 x.id, .int .i64 x.gen, .int .i64 x.len, .slice a' m c'] 33)).heap[w.heap.size]? = some (.cells #[.int .i64 x.id, .int .i64 x.gen, .int .i64 x.len, .slice a m c] 33 (0, 0)) := (hba.block _ (lt_of_block hk3)).trans hk3
        have hM3 := HM2.out.trans (Mds.of_below (B := B) P.own hb3 (by have := hP3.lpb; have := HP2.out.lt (.inl rfl); omega))
        obtain ⟨vs, hv1, hv2, hv3⟩ := hP3.row
        have HP3 := hide hP3
        have HLK := hide (hlk B)
        have HK3 := hide hk3
        have HK4 := hide hk4
        have HM3 := hide hM3
        have HV1 := hide hv1
        have HV2 := hide hv2
        have HV3 := hide hv3
        have HLV : Hid (vs.length = L.length) := by unfold Hid; rw [← hv1, List.length_map]
        clear hP3 hlk hk3 hk4 hM3 hv1 hv2 hv3 hba hb3
        refine hK.out _ _ HK3.out (fun hHeld => ?_)
        clear hK K
        try simp [Act.put]
        refine wpAnyH_ready (rs := [7]) (by kernel_rfl) (by simp) ?_
        refine AllReadyH.cons rfl (fun K hK => ?_) AllReadyH.nil
        go_simp
        refine hK.out _ _ HK4.out (fun hHeld => ?_)
        clear hK K
        try simp [Act.put]
        refine wpAnyH_ready (rs := [8]) (by kernel_rfl) (by simp) ?_
        refine AllReadyH.cons rfl (fun K hK => ?_) AllReadyH.nil
        rw [if_pos (by simp [Region.wanted])]
        refine opw_append B (.tmp 28) (.tmp 31) 28 rfl 33 i0 (.agg #[.int .i64 0, .int .i64 0, .int .i64 0, .slice none 0 0]) 4 48 Try.underlying28 HI.out HI0.out HI1.out HI2.out rfl (by decide) P.v vs.length (voV vs) (by simp [Act.eval]) (HV2.out.alloc _) ⟨W3.heap.size, 0, none⟩ 1 1 (voC ⟨x, a', c'⟩) (by simp [Act.eval]) (by simp [voC]) (by have := cell_vol_new W3 ⟨x, a', c'⟩ 33; unfold voA at this; simp only [hm] at this; exact this) (voC_one _) (by have := HLV.out; unfold maxLen; omega) (by have := HLV.out; omega) (by rw [World.size_alloc]; have := HP3.out.lpb; have := HP3.out.lt (.inl rfl); omega) ?_
        intro v' w4 hown hgr hat
        obtain ⟨a9, c9, rfl, -, -⟩ := own_slice hown
        obtain ⟨⟨cS, fS⟩, hP4, hM4, hM4'⟩ := HP3.out.push HV1.out HV2.out HV3.out ⟨x, a', c'⟩ HLK.out hown hgr hat
        have hno : ¬ P.own w.heap.size := fun q => by have := H.out.lt q; omega
        have HK5 := hide ((hM4'.blk _ (lt_of_block HK3.out) hno).trans HK3.out)
        have HK6 := hide ((hM4.blk _ (lt_of_block HK3.out) hno).trans HK3.out)
        have HP4 := hide hP4
        have HM4 := hide (HM3.out.trans hM4)
        clear hown hgr hat hP4 hM4 hM4' hno
        refine hK.out _ _ HK5.out (fun hHeld => ?_)
        clear hK K
        try simp [Act.put]
        refine wpAnyH_take (i := 9) (v := ?v21) rfl (by kernel_rfl) (by kernel_rfl) (by kernel_rfl) (fun _ _ _ h => h) (Or.inl ⟨by rfl, ?hy21⟩) hHeld ?rest21
        case hy21 => (intro w' hSw; obtain ⟨s0, s1, s2, s3⟩ := bx4 hSw; go_simp; try with_reducible rfl)
        try simp [Act.put]
        refine wpAnyH_take (i := 10) (v := ?v22) rfl (by kernel_rfl) (by kernel_rfl) (by kernel_rfl) (fun _ _ _ h => h) (Or.inl ⟨by rfl, ?hy22⟩) hHeld ?rest22
        case hy22 => (intro w' hSw; obtain ⟨s0, s1, s2, s3⟩ := bx4 hSw; go_simp; try with_reducible rfl)
        try simp [Act.put]
        refine wpAnyH_ready (rs := [11]) (by kernel_rfl) (by simp) ?_
        refine AllReadyH.cons rfl (fun K hK => ?_) AllReadyH.nil
        go_simp
        refine hK.out _ _ HK6.out (fun hHeld => ?_)
        clear hK K
        try simp [Act.put]
        refine wpAnyH_done (by kernel_rfl) (NoPanic.normal ?_) _
        go_wp2_with fail
        try go_ret
        exact ⟨by unfold reE; rw [if_neg (by rw [HNH.out]; decide)]; rfl, ⟨P.pb, P.mb, P.n, .slice a9 (vs.length + 1) c9⟩, rfl, rfl, by unfold reL; rw [if_neg (by rw [HNH.out]; decide)]; exact HP4.out, HM4.out⟩
      case second =>
        go_simp
        refine HC.out.mono ?_
        rintro e W3 ⟨a', c', rfl, hlk, hb3⟩
        have hP3 := HP2.out.below hb3
        have cA : W3.cell? ⟨P.pb, 1, none⟩ = some P.v := cell_of_block hP3.box
        have hk3 : W3.heap[w.heap.size]? = some (.cells #[.int .i64 x.id, .int .i64 x.gen, .int .i64 x.len, .slice a m c] 33 (0, 0)) := (hb3.block _ (lt_of_block HK2.out)).trans HK2.out
        have hba : Below W3.heap.size W3 (W3.alloc (.cells #[.int .i64 x.id, .int .i64 x.gen, .int .i64 x.len, .slice a' m c'] 33)) := (Below.refl _ _).alloc (Nat.le_refl _) _
        have cB : (W3.alloc (.cells #[.int .i64 x.id, .int .i64 x.gen, .int .i64 x.len, .slice a' m c'] 33)).cell? ⟨P.pb, 1, none⟩ = some P.v := (hba.cell (p := ⟨P.pb, 1, none⟩) (hP3.lt (.inl rfl))).trans cA
        have hk4 : (W3.alloc (.cells #[.int .i64 x.id, .int .i64 x.gen, .int .i64 x.len, .slice a' m c'] 33)).heap[w.heap.size]? = some (.cells #[.int .i64 x.id, .int .i64 x.gen, .int .i64 x.len, .slice a m c] 33 (0, 0)) := (hba.block _ (lt_of_block hk3)).trans hk3
        have hM3 := HM2.out.trans (Mds.of_below (B := B) P.own hb3 (by have := hP3.lpb; have := HP2.out.lt (.inl rfl); omega))
        obtain ⟨vs, hv1, hv2, hv3⟩ := hP3.row
        have HP3 := hide hP3
        have HLK := hide (hlk B)
        have HK3 := hide hk3
        have HK4 := hide hk4
        have HM3 := hide hM3
        have HV1 := hide hv1
        have HV2 := hide hv2
        have HV3 := hide hv3
        have HLV : Hid (vs.length = L.length) := by unfold Hid; rw [← hv1, List.length_map]
        clear hP3 hlk hk3 hk4 hM3 hv1 hv2 hv3 hba hb3
        refine hK.out _ _ HK3.out (fun hHeld => ?_)
        clear hK K
        try simp [Act.put]
        refine wpAnyH_ready (rs := [4, 7]) (by kernel_rfl) (by simp) ?_
        refine AllReadyH.cons rfl (fun K hK => ?third) (AllReadyH.cons rfl (fun K hK => ?fourth) AllReadyH.nil)
        case third =>
          go_simp
          refine hK.out _ _ HK3.out (fun hHeld => ?_)
          clear hK K
          try simp [Act.put]
          refine wpAnyH_ready (rs := [7]) (by kernel_rfl) (by simp) ?_
          refine AllReadyH.cons rfl (fun K hK => ?_) AllReadyH.nil
          go_simp
          refine hK.out _ _ HK4.out (fun hHeld => ?_)
          clear hK K
          try simp [Act.put]
          refine wpAnyH_ready (rs := [8]) (by kernel_rfl) (by simp) ?_
          refine AllReadyH.cons rfl (fun K hK => ?_) AllReadyH.nil
          rw [if_pos (by simp [Region.wanted])]
          refine opw_append B (.tmp 28) (.tmp 31) 28 rfl 33 i0 (.agg #[.int .i64 0, .int .i64 0, .int .i64 0, .slice none 0 0]) 4 48 Try.underlying28 HI.out HI0.out HI1.out HI2.out rfl (by decide) P.v vs.length (voV vs) (by simp [Act.eval]) (HV2.out.alloc _) ⟨W3.heap.size, 0, none⟩ 1 1 (voC ⟨x, a', c'⟩) (by simp [Act.eval]) (by simp [voC]) (by have := cell_vol_new W3 ⟨x, a', c'⟩ 33; unfold voA at this; simp only [hm] at this; exact this) (voC_one _) (by have := HLV.out; unfold maxLen; omega) (by have := HLV.out; omega) (by rw [World.size_alloc]; have := HP3.out.lpb; have := HP3.out.lt (.inl rfl); omega) ?_
          intro v' w4 hown hgr hat
          obtain ⟨a9, c9, rfl, -, -⟩ := own_slice hown
          obtain ⟨⟨cS, fS⟩, hP4, hM4, hM4'⟩ := HP3.out.push HV1.out HV2.out HV3.out ⟨x, a', c'⟩ HLK.out hown hgr hat
          have hno : ¬ P.own w.heap.size := fun q => by have := H.out.lt q; omega
          have HK5 := hide ((hM4'.blk _ (lt_of_block HK3.out) hno).trans HK3.out)
          have HK6 := hide ((hM4.blk _ (lt_of_block HK3.out) hno).trans HK3.out)
          have HP4 := hide hP4
          have HM4 := hide (HM3.out.trans hM4)
          clear hown hgr hat hP4 hM4 hM4' hno
          refine hK.out _ _ HK5.out (fun hHeld => ?_)
          clear hK K
          try simp [Act.put]
          refine wpAnyH_take (i := 9) (v := ?v31) rfl (by kernel_rfl) (by kernel_rfl) (by kernel_rfl) (fun _ _ _ h => h) (Or.inl ⟨by rfl, ?hy31⟩) hHeld ?rest31
          case hy31 => (intro w' hSw; obtain ⟨s0, s1, s2, s3⟩ := bx4 hSw; go_simp; try with_reducible rfl)
          try simp [Act.put]
          refine wpAnyH_take (i := 10) (v := ?v32) rfl (by kernel_rfl) (by kernel_rfl) (by kernel_rfl) (fun _ _ _ h => h) (Or.inl ⟨by rfl, ?hy32⟩) hHeld ?rest32
          case hy32 => (intro w' hSw; obtain ⟨s0, s1, s2, s3⟩ := bx4 hSw; go_simp; try with_reducible rfl)
          try simp [Act.put]
          refine wpAnyH_ready (rs := [11]) (by kernel_rfl) (by simp) ?_
          refine AllReadyH.cons rfl (fun K hK => ?_) AllReadyH.nil
          go_simp
          refine hK.out _ _ HK6.out (fun hHeld => ?_)
          clear hK K
          try simp [Act.put]
          refine wpAnyH_done (by kernel_rfl) (NoPanic.normal ?_) _
          go_wp2_with fail
          try go_ret
          exact ⟨by unfold reE; rw [if_neg (by rw [HNH.out]; decide)]; rfl, ⟨P.pb, P.mb, P.n, .slice a9 (vs.length + 1) c9⟩, rfl, rfl, by unfold reL; rw [if_neg (by rw [HNH.out]; decide)]; exact HP4.out, HM4.out⟩
        case fourth =>
          go_simp
          refine hK.out _ _ HK4.out (fun hHeld => ?_)
          clear hK K
          try simp [Act.put]
          refine wpAnyH_ready (rs := [4]) (by kernel_rfl) (by simp) ?_
          refine AllReadyH.cons rfl (fun K hK => ?_) AllReadyH.nil
          go_simp
          refine hK.out _ _ HK4.out (fun hHeld => ?_)
          clear hK K
          try simp [Act.put]
          refine wpAnyH_ready (rs := [8]) (by kernel_rfl) (by simp) ?_
          refine AllReadyH.cons rfl (fun K hK => ?_) AllReadyH.nil
          rw [if_pos (by simp [Region.wanted])]
          refine opw_append B (.tmp 28) (.tmp 31) 28 rfl 33 i0 (.agg #[.int .i64 0, .int .i64 0, .int .i64 0, .slice none 0 0]) 4 48 Try.underlying28 HI.out HI0.out HI1.out HI2.out rfl (by decide) P.v vs.length (voV vs) (by simp [Act.eval]) (HV2.out.alloc _) ⟨W3.heap.size, 0, none⟩ 1 1 (voC ⟨x, a', c'⟩) (by simp [Act.eval]) (by simp [voC]) (by have := cell_vol_new W3 ⟨x, a', c'⟩ 33; unfold voA at this; simp only [hm] at this; exact this) (voC_one _) (by have := HLV.out; unfold maxLen; omega) (by have := HLV.out; omega) (by rw [World.size_alloc]; have := HP3.out.lpb; have := HP3.out.lt (.inl rfl); omega) ?_
          intro v' w4 hown hgr hat
          obtain ⟨a9, c9, rfl, -, -⟩ := own_slice hown
          obtain ⟨⟨cS, fS⟩, hP4, hM4, hM4'⟩ := HP3.out.push HV1.out HV2.out HV3.out ⟨x, a', c'⟩ HLK.out hown hgr hat
          have hno : ¬ P.own w.heap.size := fun q => by have := H.out.lt q; omega
          have HK5 := hide ((hM4'.blk _ (lt_of_block HK3.out) hno).trans HK3.out)
          have HK6 := hide ((hM4.blk _ (lt_of_block HK3.out) hno).trans HK3.out)
          have HP4 := hide hP4
          have HM4 := hide (HM3.out.trans hM4)
          clear hown hgr hat hP4 hM4 hM4' hno
          refine hK.out _ _ HK5.out (fun hHeld => ?_)
          clear hK K
          try simp [Act.put]
          refine wpAnyH_take (i := 9) (v := ?v41) rfl (by kernel_rfl) (by kernel_rfl) (by kernel_rfl) (fun _ _ _ h => h) (Or.inl ⟨by rfl, ?hy41⟩) hHeld ?rest41
          case hy41 => (intro w' hSw; obtain ⟨s0, s1, s2, s3⟩ := bx4 hSw; go_simp; try with_reducible rfl)
          try simp [Act.put]
          refine wpAnyH_take (i := 10) (v := ?v42) rfl (by kernel_rfl) (by kernel_rfl) (by kernel_rfl) (fun _ _ _ h => h) (Or.inl ⟨by rfl, ?hy42⟩) hHeld ?rest42
          case hy42 => (intro w' hSw; obtain ⟨s0, s1, s2, s3⟩ := bx4 hSw; go_simp; try with_reducible rfl)
          try simp [Act.put]
          refine wpAnyH_ready (rs := [11]) (by kernel_rfl) (by simp) ?_
          refine AllReadyH.cons rfl (fun K hK => ?_) AllReadyH.nil
          go_simp
          refine hK.out _ _ HK6.out (fun hHeld => ?_)
          clear hK K
          try simp [Act.put]
          refine wpAnyH_done (by kernel_rfl) (NoPanic.normal ?_) _
          go_wp2_with fail
          try go_ret
          exact ⟨by unfold reE; rw [if_neg (by rw [HNH.out]; decide)]; rfl, ⟨P.pb, P.mb, P.n, .slice a9 (vs.length + 1) c9⟩, rfl, rfl, by unfold reL; rw [if_neg (by rw [HNH.out]; decide)]; exact HP4.out, HM4.out⟩
end Go.Proofs.Ytghcekhlohgkaaa
