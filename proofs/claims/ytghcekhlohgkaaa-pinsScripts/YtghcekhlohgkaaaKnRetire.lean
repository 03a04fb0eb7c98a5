/- What Retire of the document's pins answers. (Written by genkr.py.) -/
import Derived.Test.YtghcekhlohgkaaaKnUnpin
namespace Go.Proofs.Ytghcekhlohgkaaa
open Go.RowKit
set_option linter.unusedVariables false
set_option maxRecDepth 100000 in
set_option maxHeartbeats 8000000 in
theorem kn_retire {B : Nat} {Z : Kn} {Q : List (Int × Int)} {M : List VD} {w : World} (h : KnAt B w Z Q M) (x : VD) (a : Option Addr) (m c : Nat) (hm : x.ls.length = m) (hx : LocsK B w a x.ls) (hL : M.length ≤ 1000000) : Calls Try.prog 15 #[.pointer (some ⟨Z.kb, 0, none⟩), .agg #[.int .i64 x.id, .int .i64 x.gen, .int .i64 x.len, .slice a m c]] w fun e w' => e = .returned (.int .i64 (reE M x)) ∧ ∃ Z', Z'.kb = Z.kb ∧ KnAt B w' Z' Q (reL M x) ∧ Mds B Z.own w Z'.own w' := by
  obtain ⟨av, cv, hv, hcv, hcm, hvos⟩ := h.rw.form
  have c1 : w.cell? ⟨Z.kb, 1, none⟩ = some (.slice av M.length cv) := by rw [← hv]; exact cell_of_block h.box
  have hb1 : Below w.heap.size w (w.alloc (.cells #[.int .i64 x.id, .int .i64 x.gen, .int .i64 x.len, .slice a m c] 33)) := (Below.refl _ _).alloc (Nat.le_refl _) _
  have hk1 : (w.alloc (.cells #[.int .i64 x.id, .int .i64 x.gen, .int .i64 x.len, .slice a m c] 33)).heap[w.heap.size]? = some (.cells #[.int .i64 x.id, .int .i64 x.gen, .int .i64 x.len, .slice a m c] 33 (0, 0)) := heap_alloc_new _ _
  have c1' : (w.alloc (.cells #[.int .i64 x.id, .int .i64 x.gen, .int .i64 x.len, .slice a m c] 33)).cell? ⟨Z.kb, 1, none⟩ = some (.slice av M.length cv) := (hb1.cell (p := ⟨Z.kb, 1, none⟩) (h.lt (.inl rfl))).trans c1
  have hsz1 : (w.alloc (.cells #[.int .i64 x.id, .int .i64 x.gen, .int .i64 x.len, .slice a m c] 33)).heap.size = w.heap.size + 1 := World.size_alloc _ _
  have HZL : Hid (Z.kb < (w.alloc (.cells #[.int .i64 x.id, .int .i64 x.gen, .int .i64 x.len, .slice a m c] 33)).heap.size) := by have := h.lt (.inl rfl); show _ < _; omega
  have H := hide h
  have HV := hide hv
  have HX := hide (hx.below hb1)
  have HVOS := hide (hvos.below hb1)
  have HB1 := hide hb1
  have HK1 := hide hk1
  have HC1 := hide c1'
  obtain ⟨mn, hmn⟩ : ∃ mn, M.length = mn := ⟨_, rfl⟩
  have HMN := hide hmn
  rw [hmn] at c1' HC1 hL hcv HV
  clear h hv hx hvos hb1 hk1 c1 hmn
  go_enter Try.func15, Try.ntmps15
  go_wp2_with fail
  generalize (w.alloc (.cells #[.int .i64 x.id, .int .i64 x.gen, .int .i64 x.len, .slice a m c] 33)) = W1 at *
  go_loopw [5] (fun y wr => ∃ k : Nat, k ≤ mn ∧ y = .int .i64 k ∧ hasP (M.take k) x.pin = false ∧ Below W1.heap.size W1 wr) (fun y _ => mn - (intOf y).toNat)
  case atStart => exact ⟨0, by omega, rfl, by simp [hasP], Below.refl _ _⟩
  case round =>
    obtain ⟨k, hk, rfl, hno, hbl⟩ := hrel
    have HB := hide hbl
    have HNO := hide hno
    have c2 : wr.cell? ⟨Z.kb, 1, none⟩ = some (.slice av mn cv) := (hbl.cell (p := ⟨Z.kb, 1, none⟩) HZL.out).trans HC1.out
    have hkw := (hbl.block w.heap.size (by omega)).trans HK1.out
    obtain ⟨e1, e2, e3, e4⟩ := bx4 hkw
    clear hbl hno hkw
    by_cases hlt : k < mn
    · have hd : decide ((k : Int) < (mn : Int)) = true := by simp; omega
      have hdi : (k : Int) < (mn : Int) := by omega
      have hd0 : (0 : Int) ≤ (k : Int) := by omega
      obtain ⟨y, hy⟩ : ∃ y, M[k]? = some y := ⟨_, List.getElem?_eq_getElem (by have := HMN.out; omega)⟩
      obtain ⟨b1, o1, ya, yc, rfl, hbk, p1, q1⟩ := (HVOS.out.below HB.out).nth hy
      obtain ⟨d0, d1, d2, d3⟩ := p1
      simp only at d0 d1 d2 d3
      clear d2 d3 q1
      have HY := hide hy
      clear hy
      have HPE : Hid ((y.id = x.id ∧ y.gen = x.gen) ↔ y.pin = x.pin) := by unfold Hid VD.pin; simp
      by_cases hi : y.id = x.id
      · have hqi : (y.id == x.id) = true := by simpa using hi
        by_cases hg : y.gen = x.gen
        · have hqg : (y.gen == x.gen) = true := by simpa using hg
          have HHAS : Hid (hasP M x.pin = true) := by
            unfold Hid hasP
            rw [List.any_eq_true]
            exact ⟨y, List.mem_of_getElem? HY.out, by simpa using HPE.out.1 ⟨hi, hg⟩⟩
          clear hi hg
          go_wp2_with fail
          go_quiet (fail)
          go_wp2_with fail
          try go_ret
          have HBW := HB1.out.trans (((HB.out.trans ((drawn_below (Below.refl _ _) nq).mono HB.out.size))).mono (by omega))
          exact ⟨by unfold reE; rw [if_pos HHAS.out]; rfl, Z, rfl, by unfold reL; rw [if_pos HHAS.out]; exact H.out.below HBW, Mds.of_below Z.own HBW (by have := H.out.low; have := H.out.lt (.inl rfl); omega)⟩
        · have hqg : (y.gen == x.gen) = false := by simpa using hg
          have HN : Hid (hasP (M.take (k + 1)) x.pin = false) := by
            unfold Hid
            rw [hasP_snoc HY.out, HNO.out, decide_eq_false (fun q => hg (HPE.out.2 q).2)]; rfl
          clear hi hg
          go_wp2_with fail
          go_quiet (fail)
          go_wp2_with fail
          all_goals first | exact ⟨⟨k + 1, by omega, by go_num, HN.out, drawn_below HB.out _⟩, by simp [intOf]; omega⟩ | exact ⟨⟨k + 1, by omega, by go_num, HN.out, HB.out⟩, by simp [intOf]; omega⟩
      · have hqi : (y.id == x.id) = false := by simpa using hi
        have HN : Hid (hasP (M.take (k + 1)) x.pin = false) := by
          unfold Hid
          rw [hasP_snoc HY.out, HNO.out, decide_eq_false (fun q => hi (HPE.out.2 q).1)]; rfl
        clear hi
        go_wp2_with fail
        go_quiet (fail)
        go_wp2_with fail
        all_goals first | exact ⟨⟨k + 1, by omega, by go_num, HN.out, drawn_below HB.out _⟩, by simp [intOf]; omega⟩ | exact ⟨⟨k + 1, by omega, by go_num, HN.out, HB.out⟩, by simp [intOf]; omega⟩
    · have hd : decide ((k : Int) < (mn : Int)) = false := by simp; omega
      have HNH : Hid (hasP M x.pin = false) := by
        have := HNO.out
        rw [List.take_of_length_le (by have := HMN.out; omega)] at this
        exact this
      have hbw : Below w.heap.size w wr.drew := (HB1.out.trans (HB.out.mono (by omega))).drew
      have hBwr : B ≤ wr.drew.heap.size := by have := H.out.low; have := H.out.lt (.inl rfl); have := hbw.size; omega
      have HBW2 := hide hBwr
      have hd2 := H.out.below hbw
      have HD := hide hd2
      have HMD0 := hide (Mds.of_below (B := B) Z.own hbw (by have := H.out.low; have := H.out.lt (.inl rfl); omega))
      have HK2 : Hid (wr.drew.heap[w.heap.size]? = some (.cells #[.int .i64 x.id, .int .i64 x.gen, .int .i64 x.len, .slice a m c] 33 (0, 0))) := (HB.out.block _ (by omega)).trans HK1.out
      have hba : Below wr.drew.heap.size wr.drew (wr.drew.alloc (.cells #[.int .i64 x.id, .int .i64 x.gen, .int .i64 x.len, .slice a m c] 33)) := (Below.refl _ _).alloc (Nat.le_refl _) _
      have HK4 := hide ((hba.block _ (lt_of_block HK2.out)).trans HK2.out)
      have HLK := hide ((HX.out.below (HB.out.drew)))
      have cD : wr.drew.cell? ⟨Z.kb, 1, none⟩ = some Z.vw := by rw [HV.out]; exact c2
      have cE : (wr.drew.alloc (.cells #[.int .i64 x.id, .int .i64 x.gen, .int .i64 x.len, .slice a m c] 33)).cell? ⟨Z.kb, 1, none⟩ = some Z.vw := (hba.cell (p := ⟨Z.kb, 1, none⟩) (hd2.lt (.inl rfl))).trans cD
      have cF : (wr.alloc (.cells #[.int .i64 x.id, .int .i64 x.gen, .int .i64 x.len, .slice a m c] 33)).cell? ⟨Z.kb, 1, none⟩ = some Z.vw := cE
      obtain ⟨vs, hv1, hv2, hv3⟩ := hd2.rw
      have HV1 := hide hv1
      have HV2 := hide hv2
      have HV3 := hide hv3
      have HLV : Hid (vs.length = mn) := by unfold Hid; rw [← HMN.out, ← hv1, List.length_map]
      obtain ⟨i0, hi0, hz0, hz1, hz2⟩ := info_parts vol_info
      have HI := hide hi0
      have HI0 := hide hz0
      have HI1 := hide hz1
      have HI2 := hide hz2
      clear hi0 hz0 hz1 hz2 hbw c1' hBwr hd2 hba hv1 hv2 hv3 HC1
      go_wp2_with fail
      refine wp_region_noPanic ?_
      refine wp_region_held_drew (S := fun w' => w'.heap[w.heap.size]? = some (.cells #[.int .i64 x.id, .int .i64 x.gen, .int .i64 x.len, .slice a m c] 33 (0, 0))) (by kernel_rfl) HK2.out (fun hHeld => ?_)
      refine wpAnyH_take (i := 0) (v := ?v1) rfl (by kernel_rfl) (by kernel_rfl) (by kernel_rfl) (fun _ _ _ h => h) (Or.inl ⟨by rfl, ?hy1⟩) hHeld ?rest1
      case hy1 => (intro w' hSw; obtain ⟨s0, s1, s2, s3⟩ := bx4 hSw; go_simp; try with_reducible rfl)
      try simp [Act.put]
      refine wpAnyH_take (i := 1) (v := ?v2) rfl (by kernel_rfl) (by kernel_rfl) (by kernel_rfl) (fun _ _ _ h => h) (Or.inl ⟨by rfl, ?hy2⟩) hHeld ?rest2
      case hy2 => (intro w' hSw; obtain ⟨s0, s1, s2, s3⟩ := bx4 hSw; go_simp; try with_reducible rfl)
      try simp [Act.put]
      refine wpAnyH_take (i := 2) (v := ?v3) rfl (by kernel_rfl) (by kernel_rfl) (by kernel_rfl) (fun _ _ _ h => h) (Or.inl ⟨by rfl, ?hy3⟩) hHeld ?rest3
      case hy3 => (intro w' hSw; obtain ⟨s0, s1, s2, s3⟩ := bx4 hSw; go_simp; try with_reducible rfl)
      try simp [Act.put]
      refine wpAnyH_take (i := 3) (v := ?v4) rfl (by kernel_rfl) (by kernel_rfl) (by kernel_rfl) (fun _ _ _ h => h) (Or.inl ⟨by rfl, ?hy4⟩) hHeld ?rest4
      case hy4 => (intro w' hSw; obtain ⟨s0, s1, s2, s3⟩ := bx4 hSw; go_simp; try with_reducible rfl)
      try simp [Act.put]
      refine wpAnyH_take (i := 5) (v := ?v5) rfl (by kernel_rfl) (by kernel_rfl) (by kernel_rfl) (fun _ _ _ h => h) (Or.inl ⟨by rfl, ?hy5⟩) hHeld ?rest5
      case hy5 => (intro w' hSw; obtain ⟨s0, s1, s2, s3⟩ := bx4 hSw; go_simp; try with_reducible rfl)
      try simp [Act.put]
      refine wpAnyH_ready (rs := [4, 6]) (by kernel_rfl) (by simp) ?_
      refine AllReadyH.cons rfl (fun K hK => ?first) (AllReadyH.cons rfl (fun K hK => ?second) AllReadyH.nil)
      case first =>
        go_simp
        refine hK.out _ _ HK2.out (fun hHeld => ?_)
        clear hK K
        try simp [Act.put]
        refine wpAnyH_ready (rs := [6]) (by kernel_rfl) (by simp) ?_
        refine AllReadyH.cons rfl (fun K hK => ?_) AllReadyH.nil
        go_simp
        refine hK.out _ _ HK4.out (fun hHeld => ?_)
        clear hK K
        try simp [Act.put]
        refine wpAnyH_ready (rs := [7]) (by kernel_rfl) (by simp) ?_
        refine AllReadyH.cons rfl (fun K hK => ?_) AllReadyH.nil
        rw [if_pos (by simp [Region.wanted])]
        refine opw_append B (.tmp 43) (.tmp 45) 28 rfl 33 i0 (.agg #[.int .i64 0, .int .i64 0, .int .i64 0, .slice none 0 0]) 4 48 Try.underlying28 HI.out HI0.out HI1.out HI2.out rfl (by decide) Z.vw vs.length (voV vs) (by simp [Act.eval]) (HV2.out.alloc _) ⟨wr.heap.size, 0, none⟩ 1 1 (voC ⟨x, a, c⟩) (by simp [Act.eval]) (by simp [voC]) (by have := cell_vol_new wr.drew ⟨x, a, c⟩ 33; unfold voA at this; simp only [hm] at this; exact this) (voC_one _) (by have := HLV.out; unfold maxLen; omega) (by have := HLV.out; omega) (by have h9 : B ≤ wr.heap.size := HBW2.out; show _ ≤ (wr.alloc _).heap.size; rw [World.size_alloc]; omega) ?_
        intro v' w4 hown hgr hat
        obtain ⟨a9, c9, rfl, -, -⟩ := own_slice hown
        have hmd := app_mdsE (v' := .slice a9 (vs.length + 1) c9) (by decide) HBW2.out HV2.out hgr hat
        have hS := HD.out.set1 hmd (M2 := M ++ [x]) (RowV.push (x := ⟨x, a, c⟩) vs HV1.out HV3.out HLK.out HV2.out hown hgr)
        have c1 := hS.1.1
        have f1 := hS.1.2
        have HN := hide hS.2
        have hno : ¬ Z.own w.heap.size := fun q => by have := H.out.lt q; omega
        have hno2 : ¬ (fun i => Z.vw.ownBlock = some i) w.heap.size := fun q => hno (.inr (.inr q))
        have HK5 := hide ((hmd.blk _ (lt_of_block HK2.out) hno2).trans HK2.out)
        have HK6 := hide ((hS.2.2.blk _ (lt_of_block HK2.out) hno).trans HK2.out)
        clear hown hgr hat hS hmd hno hno2
        refine hK.out _ _ HK5.out (fun hHeld => ?_)
        clear hK K
        try simp [Act.put]
        refine wpAnyH_take (i := 8) (v := ?v21) rfl (by kernel_rfl) (by kernel_rfl) (by kernel_rfl) (fun _ _ _ h => h) (Or.inl ⟨by rfl, ?hy21⟩) hHeld ?rest21
        case hy21 => (intro w' hSw; obtain ⟨s0, s1, s2, s3⟩ := bx4 hSw; go_simp; try with_reducible rfl)
        try simp [Act.put]
        refine wpAnyH_take (i := 9) (v := ?v22) rfl (by kernel_rfl) (by kernel_rfl) (by kernel_rfl) (fun _ _ _ h => h) (Or.inl ⟨by rfl, ?hy22⟩) hHeld ?rest22
        case hy22 => (intro w' hSw; obtain ⟨s0, s1, s2, s3⟩ := bx4 hSw; go_simp; try with_reducible rfl)
        try simp [Act.put]
        refine wpAnyH_ready (rs := [10]) (by kernel_rfl) (by simp) ?_
        refine AllReadyH.cons rfl (fun K hK => ?_) AllReadyH.nil
        go_simp
        refine hK.out _ _ HK6.out (fun hHeld => ?_)
        clear hK K
        try simp [Act.put]
        refine wpAnyH_done (by kernel_rfl) (NoPanic.normal ?_) _
        go_wp2_with fail
        try go_ret
        exact ⟨by unfold reE; rw [if_neg (by rw [HNH.out]; decide)]; rfl, ⟨Z.kb, Z.vl, .slice a9 (vs.length + 1) c9⟩, rfl, by unfold reL; rw [if_neg (by rw [HNH.out]; decide)]; exact HN.out.1, HMD0.out.trans HN.out.2⟩
      case second =>
        go_simp
        refine hK.out _ _ HK4.out (fun hHeld => ?_)
        clear hK K
        try simp [Act.put]
        refine wpAnyH_ready (rs := [4]) (by kernel_rfl) (by simp) ?_
        refine AllReadyH.cons rfl (fun K hK => ?_) AllReadyH.nil
        go_simp
        refine hK.out _ _ HK4.out (fun hHeld => ?_)
        clear hK K
        try simp [Act.put]
        refine wpAnyH_ready (rs := [7]) (by kernel_rfl) (by simp) ?_
        refine AllReadyH.cons rfl (fun K hK => ?_) AllReadyH.nil
        rw [if_pos (by simp [Region.wanted])]
        refine opw_append B (.tmp 43) (.tmp 45) 28 rfl 33 i0 (.agg #[.int .i64 0, .int .i64 0, .int .i64 0, .slice none 0 0]) 4 48 Try.underlying28 HI.out HI0.out HI1.out HI2.out rfl (by decide) Z.vw vs.length (voV vs) (by simp [Act.eval]) (HV2.out.alloc _) ⟨wr.heap.size, 0, none⟩ 1 1 (voC ⟨x, a, c⟩) (by simp [Act.eval]) (by simp [voC]) (by have := cell_vol_new wr.drew ⟨x, a, c⟩ 33; unfold voA at this; simp only [hm] at this; exact this) (voC_one _) (by have := HLV.out; unfold maxLen; omega) (by have := HLV.out; omega) (by have h9 : B ≤ wr.heap.size := HBW2.out; show _ ≤ (wr.alloc _).heap.size; rw [World.size_alloc]; omega) ?_
        intro v' w4 hown hgr hat
        obtain ⟨a9, c9, rfl, -, -⟩ := own_slice hown
        have hmd := app_mdsE (v' := .slice a9 (vs.length + 1) c9) (by decide) HBW2.out HV2.out hgr hat
        have hS := HD.out.set1 hmd (M2 := M ++ [x]) (RowV.push (x := ⟨x, a, c⟩) vs HV1.out HV3.out HLK.out HV2.out hown hgr)
        have c1 := hS.1.1
        have f1 := hS.1.2
        have HN := hide hS.2
        have hno : ¬ Z.own w.heap.size := fun q => by have := H.out.lt q; omega
        have hno2 : ¬ (fun i => Z.vw.ownBlock = some i) w.heap.size := fun q => hno (.inr (.inr q))
        have HK5 := hide ((hmd.blk _ (lt_of_block HK2.out) hno2).trans HK2.out)
        have HK6 := hide ((hS.2.2.blk _ (lt_of_block HK2.out) hno).trans HK2.out)
        clear hown hgr hat hS hmd hno hno2
        refine hK.out _ _ HK5.out (fun hHeld => ?_)
        clear hK K
        try simp [Act.put]
        refine wpAnyH_take (i := 8) (v := ?v31) rfl (by kernel_rfl) (by kernel_rfl) (by kernel_rfl) (fun _ _ _ h => h) (Or.inl ⟨by rfl, ?hy31⟩) hHeld ?rest31
        case hy31 => (intro w' hSw; obtain ⟨s0, s1, s2, s3⟩ := bx4 hSw; go_simp; try with_reducible rfl)
        try simp [Act.put]
        refine wpAnyH_take (i := 9) (v := ?v32) rfl (by kernel_rfl) (by kernel_rfl) (by kernel_rfl) (fun _ _ _ h => h) (Or.inl ⟨by rfl, ?hy32⟩) hHeld ?rest32
        case hy32 => (intro w' hSw; obtain ⟨s0, s1, s2, s3⟩ := bx4 hSw; go_simp; try with_reducible rfl)
        try simp [Act.put]
        refine wpAnyH_ready (rs := [10]) (by kernel_rfl) (by simp) ?_
        refine AllReadyH.cons rfl (fun K hK => ?_) AllReadyH.nil
        go_simp
        refine hK.out _ _ HK6.out (fun hHeld => ?_)
        clear hK K
        try simp [Act.put]
        refine wpAnyH_done (by kernel_rfl) (NoPanic.normal ?_) _
        go_wp2_with fail
        try go_ret
        exact ⟨by unfold reE; rw [if_neg (by rw [HNH.out]; decide)]; rfl, ⟨Z.kb, Z.vl, .slice a9 (vs.length + 1) c9⟩, rfl, by unfold reL; rw [if_neg (by rw [HNH.out]; decide)]; exact HN.out.1, HMD0.out.trans HN.out.2⟩
end Go.Proofs.Ytghcekhlohgkaaa
