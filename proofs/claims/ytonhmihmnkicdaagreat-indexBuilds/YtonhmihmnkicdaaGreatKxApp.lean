/- The document's Apply. (Written by genka.py.) -/
import Derived.Test.YtonhmihmnkicdaaGreatKxMrg
import Derived.Handy
namespace Go.Proofs.YtonhmihmnkicdaaGreat
open Go.RowKit
set_option linter.unusedVariables false
theorem KS.le.fit {S : KS} (h : S.le 99998) : S.fit := ⟨by have := h.e; omega, by have := h.g; omega, by have := h.v; omega, by have := h.h; omega⟩
theorem KS.le.mono {S : KS} {n m : Nat} (h : S.le n) (hm : n ≤ m) : S.le m := ⟨by have := h.e; omega, by have := h.g; omega, by have := h.v; omega, by have := h.h; omega⟩
def KxDid (B : Nat) (w : World) (K : Kx) (S : KS) (X : FX) (r : Rc) (e : Ending) (w' : World) : Prop :=
  ∃ K' a' c', e = .returned (.tuple #[.slice a' (X.appO r).length c', .int .i64 (X.may r)]) ∧ (X.appO r).length ≤ c' ∧ VosAt B w' a' (X.appO r) ∧ K'.kb = K.kb ∧ KxAt B w' K' (S.app X r) ∧ Mds B K.own w K'.own w'
set_option maxRecDepth 100000 in
set_option maxHeartbeats 16000000 in
theorem kx_apply {B : Nat} {w : World} {K : Kx} {S : KS} {X : FX} (h : KxAt B w K S) (hr : Rel S X) (hi : X.Inv) (hn : S.le 99998) (r : Rc) (a : Option Addr) (c : Nat) (hls : LocsK B w a r.ls) (hfit : r.fit) : Calls Tryz.prog 12 #[.pointer (some ⟨K.kb, 0, none⟩), .agg (rcs r a c)] w (KxDid B w K S X r) := by
  have HRW := hide (rbx_new 40 r a c w)
  have hb1 : Below w.heap.size w (w.alloc (.cells (rcs r a c) 40)) := (Below.refl _ _).alloc (Nat.le_refl _) _
  have HBW1 := hide hb1
  have HXW := hide (h.below hb1)
  have HLW := hide (hls.below hb1)
  have HBW := hide h.Bw
  have HKL := hide (lt_of_block h.box)
  have HRL := hide hr
  have HIV := hide hi
  have HN2 := hide hn
  have HFT := hide hfit
  have HMZ := hide (fun (q : X.may r = 0) => may_zero q)
  have HAO0 : Hid (X.appO r = if X.may r = 0 then X.doO r else []) := rfl
  have HAP0 : Hid (S.app X r = if X.may r = 0 then S.doR X r else S) := rfl
  obtain ⟨i0, hi0, hz0, hz1, hz2⟩ := info_parts vol_info
  have HI := hide hi0
  have HI0 := hide hz0
  have HI1 := hide hz1
  have HI2 := hide hz2
  obtain ⟨j0, hj0, hy0, hy1, hy2⟩ := info_parts en_info5
  have HJ := hide hj0
  have HJ0 := hide hy0
  have HJ1 := hide hy1
  have HJ2 := hide hy2
  clear h hb1 hls hr hi hn hfit hi0 hz0 hz1 hz2 hj0 hy0 hy1 hy2
  go_enter Tryz.func12, Tryz.ntmps12
  go_upto_region 1 with fail
  generalize w.alloc (.cells (rcs r a c) 40) = W1 at *
  go_wp2_with (first | (refine wpList_load_row rfl 40 (.tmp 3) rfl w.heap.size rfl 40 (rcs r a c) (0, 0) _ HRW.out Tryz.underlying40 rfl kx_rinfo ?_))
  refine (kx_may HXW.out HRL.out HIV.out HN2.out.fit r a c HLW.out.at HFT.out).mono ?_
  rintro e w2 ⟨rfl, hb2⟩
  have HB2 := hide (HBW1.out.trans (hb2.mono HBW1.out.size))
  have HX2 := hide (HXW.out.below hb2)
  have HR2 := hide (HRW.out.below hb2 HRW.out.lt)
  have HL2 := hide (HLW.out.below hb2)
  have e1 := HR2.out.c1
  have HM2 := hide (Mds.of_below (B := B) K.own HB2.out HBW.out)
  clear hb2 HXW HBW1 HRW HLW
  by_cases hm : X.may r = 0
  · obtain ⟨hck, z0, z1, z2, z3⟩ := HMZ.out hm
    have hz := ckR_zero.1 hck
    have HAO1 : Hid (X.appO r = X.doO r) := HAO0.out.trans (if_pos hm)
    have HAP1 : Hid (S.app X r = S.doR X r) := HAP0.out.trans (if_pos hm)
    have HMZR := hide hm
    rw [hm]
    have HK4 := hide hz
    rcases kind_four hz.1 with q | q | q | q
    · have HAO : Hid (X.appO r = []) := by unfold Hid; rw [HAO1.out]; unfold FX.doO; rw [if_pos q]
      have HAP : Hid (S.app X r = ⟨S.E ++ [rEn r], S.G, layV S.V (rVD r), S.H ++ [r.vid]⟩) := by unfold Hid; rw [HAP1.out]; unfold KS.doR; rw [if_pos q]
      have q0 : (r.kind == 0) = true := by simpa using q
      have HEL : Hid (S.E.length ≤ 99998) := HN2.out.e
      clear hm hck z0 z1 z2 z3 hz q
      go_upto_region 6 with fail
      obtain ⟨Wd, hWd⟩ : ∃ Wd, Wd = w2.drew := ⟨_, rfl⟩
      have HWD := hide hWd
      have hbd : Below w2.heap.size w2 Wd := by rw [hWd]; exact (Below.refl _ _).drew
      have HX3 := hide (HX2.out.below hbd)
      have HMD3 := hide (HM2.out.trans (Mds.of_below K.own hbd HX2.out.Bw))
      have HLD := hide (HL2.out.below hbd)
      have HK2 := hide (HR2.out.below hbd HR2.out.lt)
      have HBW2 : Hid (B ≤ Wd.heap.size) := HX3.out.Bw
      have hba : Below Wd.heap.size Wd (Wd.alloc (.cells #[.string r.ek, .int .i64 r.ev, .int .i64 r.eo, .int .i64 r.el, .string r.ed] 38)) := (Below.refl _ _).alloc (Nat.le_refl _) _
      have HK4 := hide (HK2.out.below hba HK2.out.lt)
      have cD : Wd.cell? ⟨K.kb, 0, none⟩ = some K.vE := HX3.out.cells.1
      have cE : (Wd.alloc (.cells #[.string r.ek, .int .i64 r.ev, .int .i64 r.eo, .int .i64 r.el, .string r.ed] 38)).cell? ⟨K.kb, 0, none⟩ = some K.vE := (HX3.out.below hba).cells.1
      clear hWd hbd hba e1
      refine wp_region_noPanic ?_
      refine wp_region_held_drew (S := fun w' => RBx w.heap.size 40 r a c w') (by kernel_rfl) (by rw [← HWD.out]; exact HK2.out) (fun hHeld => ?_)
      rw [← HWD.out] at hHeld ⊢
      refine wpAnyH_take (i := 0) (v := ?v1) rfl (by kernel_rfl) (by kernel_rfl) (by kernel_rfl) (fun _ _ _ h => h) (Or.inl ⟨by rfl, ?hy1⟩) hHeld ?rest1
      case hy1 => (intro w' hSw; have s6 := RBx.c6 hSw; have s7 := RBx.c7 hSw; have s8 := RBx.c8 hSw; have s9 := RBx.c9 hSw; have s10 := RBx.c10 hSw; go_simp; try with_reducible rfl)
      try simp [Act.put]
      refine wpAnyH_take (i := 1) (v := ?v2) rfl (by kernel_rfl) (by kernel_rfl) (by kernel_rfl) (fun _ _ _ h => h) (Or.inl ⟨by rfl, ?hy2⟩) hHeld ?rest2
      case hy2 => (intro w' hSw; have s6 := RBx.c6 hSw; have s7 := RBx.c7 hSw; have s8 := RBx.c8 hSw; have s9 := RBx.c9 hSw; have s10 := RBx.c10 hSw; go_simp; try with_reducible rfl)
      try simp [Act.put]
      refine wpAnyH_take (i := 2) (v := ?v3) rfl (by kernel_rfl) (by kernel_rfl) (by kernel_rfl) (fun _ _ _ h => h) (Or.inl ⟨by rfl, ?hy3⟩) hHeld ?rest3
      case hy3 => (intro w' hSw; have s6 := RBx.c6 hSw; have s7 := RBx.c7 hSw; have s8 := RBx.c8 hSw; have s9 := RBx.c9 hSw; have s10 := RBx.c10 hSw; go_simp; try with_reducible rfl)
      try simp [Act.put]
      refine wpAnyH_take (i := 3) (v := ?v4) rfl (by kernel_rfl) (by kernel_rfl) (by kernel_rfl) (fun _ _ _ h => h) (Or.inl ⟨by rfl, ?hy4⟩) hHeld ?rest4
      case hy4 => (intro w' hSw; have s6 := RBx.c6 hSw; have s7 := RBx.c7 hSw; have s8 := RBx.c8 hSw; have s9 := RBx.c9 hSw; have s10 := RBx.c10 hSw; go_simp; try with_reducible rfl)
      try simp [Act.put]
      refine wpAnyH_take (i := 5) (v := ?v5) rfl (by kernel_rfl) (by kernel_rfl) (by kernel_rfl) (fun _ _ _ h => h) (Or.inl ⟨by rfl, ?hy5⟩) hHeld ?rest5
      case hy5 => (intro w' hSw; have s6 := RBx.c6 hSw; have s7 := RBx.c7 hSw; have s8 := RBx.c8 hSw; have s9 := RBx.c9 hSw; have s10 := RBx.c10 hSw; go_simp; try with_reducible rfl)
      try simp [Act.put]
      refine wpAnyH_take (i := 6) (v := ?v6) rfl (by kernel_rfl) (by kernel_rfl) (by kernel_rfl) (fun _ _ _ h => h) (Or.inl ⟨by rfl, ?hy6⟩) hHeld ?rest6
      case hy6 => (intro w' hSw; have s6 := RBx.c6 hSw; have s7 := RBx.c7 hSw; have s8 := RBx.c8 hSw; have s9 := RBx.c9 hSw; have s10 := RBx.c10 hSw; go_simp; try with_reducible rfl)
      try simp [Act.put]
      refine wpAnyH_ready (rs := [4, 7]) (by kernel_rfl) (by simp) ?_
      refine AllReadyH.cons rfl (fun KN hK => ?first) (AllReadyH.cons rfl (fun KN hK => ?second) AllReadyH.nil)
      case first =>
        go_simp
        refine hK.out _ _ HK2.out (fun hHeld => ?_)
        clear hK KN
        try simp [Act.put]
        refine wpAnyH_ready (rs := [7]) (by kernel_rfl) (by simp) ?_
        refine AllReadyH.cons rfl (fun KN hK => ?_) AllReadyH.nil
        go_simp
        refine hK.out _ _ HK4.out (fun hHeld => ?_)
        clear hK KN
        try simp [Act.put]
        refine wpAnyH_ready (rs := [8]) (by kernel_rfl) (by simp) ?_
        refine AllReadyH.cons rfl (fun KN hK => ?_) AllReadyH.nil
        rw [if_pos (by simp [Region.wanted])]
        refine opw_append B (.tmp 25) (.tmp 28) 28 rfl 38 j0 (.agg #[.string ⟨#[]⟩, .int .i64 0, .int .i64 0, .int .i64 0, .string ⟨#[]⟩]) 5 56 Tryz.underlying28 HJ.out HJ0.out HJ1.out HJ2.out rfl (by decide) K.vE S.E.length (enL S.E) (by simp [Act.eval]) (HX3.out.e.alloc _) ⟨Wd.heap.size, 0, none⟩ 1 1 (enC (rEn r)) (by simp [Act.eval]) (by simp [enC]) (cell_en_new Wd (rEn r) 38) (enC_one _) (by have := HEL.out; unfold maxLen; omega) (by have := HEL.out; omega) (by rw [World.size_alloc]; have := HBW2.out; omega) ?_
        intro v' w4 hown hgr hat
        obtain ⟨a9, c9, rfl, -, -⟩ := own_slice hown
        have hmd := app_mdsE (v' := .slice a9 (S.E.length + 1) c9) (by decide) HBW2.out HX3.out.e hgr hat
        have hS := HX3.out.setE HMD3.out (fun _ q => q) (v := .slice a9 (S.E.length + 1) c9) (L := S.E ++ [rEn r]) (hmd.refill fun i hi => hi.elim) (by rw [enL_snoc, List.length_append]; exact hown) (fun i hi => by rcases hmd.own i hi with q | q; exact .inl (.inr (.inl q)); exact .inr q)
        have c1 := hS.1.1
        have f1 := hS.1.2
        have HN := hide hS.2
        have hno2 : ¬ (fun i => K.vE.ownBlock = some i) w.heap.size := fun q => HX3.out.other HK2.out (by decide) (.inr (.inl q))
        have HK5 : Hid (RBx w.heap.size 40 r a c w4) := (hmd.blk _ (lt_of_block HK2.out) hno2).trans HK2.out
        have HK6 : Hid (RBx w.heap.size 40 r a c (w4.setCell ⟨K.kb, 0, none⟩ (.slice a9 (S.E.length + 1) c9))) := (Below.heap_setCell _ ⟨K.kb, 0, none⟩ (.slice a9 (S.E.length + 1) c9) _ (show w.heap.size ≠ K.kb by have := HKL.out; omega)).trans HK5.out
        have HLD5 := hide (HLD.out.mod hmd)
        have HKB5 := hide ((hmd.blk _ (lt_of_block HX3.out.box) (fun q => by have := HX3.out.typed (.inr (.inl q)); obtain ⟨_, _, cu, hcu⟩ := own_at HX3.out.e q; rw [HX3.out.box] at hcu; have := (Obj.cells.inj (Option.some.inj hcu)).2.1; revert this; decide)).trans HX3.out.box)
        clear hown hgr hat hS hmd hno2
        refine hK.out _ _ HK5.out (fun hHeld => ?_)
        clear hK KN
        try simp [Act.put]
        refine wpAnyH_take (i := 9) (v := ?v21) rfl (by kernel_rfl) (by kernel_rfl) (by kernel_rfl) (fun _ _ _ h => h) (Or.inl ⟨by rfl, ?hy21⟩) hHeld ?rest21
        case hy21 => (intro w' hSw; have s6 := RBx.c6 hSw; have s7 := RBx.c7 hSw; have s8 := RBx.c8 hSw; have s9 := RBx.c9 hSw; have s10 := RBx.c10 hSw; go_simp; try with_reducible rfl)
        try simp [Act.put]
        refine wpAnyH_take (i := 10) (v := ?v22) rfl (by kernel_rfl) (by kernel_rfl) (by kernel_rfl) (fun _ _ _ h => h) (Or.inl ⟨by rfl, ?hy22⟩) hHeld ?rest22
        case hy22 => (intro w' hSw; have s6 := RBx.c6 hSw; have s7 := RBx.c7 hSw; have s8 := RBx.c8 hSw; have s9 := RBx.c9 hSw; have s10 := RBx.c10 hSw; go_simp; try with_reducible rfl)
        try simp [Act.put]
        refine wpAnyH_ready (rs := [11]) (by kernel_rfl) (by simp) ?_
        refine AllReadyH.cons rfl (fun KN hK => ?_) AllReadyH.nil
        go_simp
        refine hK.out _ _ HK6.out (fun hHeld => ?_)
        clear hK KN
        try simp [Act.put]
        refine wpAnyH_done (by kernel_rfl) (NoPanic.normal ?_) _
        have HLD6 := hide (HLD5.out.mod (mds_kb (B := B) HKB5.out HX3.out.lb 0 (.slice a9 (S.E.length + 1) c9)))
        generalize w4.setCell ⟨K.kb, 0, none⟩ (.slice a9 (S.E.length + 1) c9) = W5 at *
        clear c1 f1
        have e2 := HK6.out.c2
        have e3 := HK6.out.c3
        have e4 := HK6.out.c4
        have e5 := HK6.out.c5
        go_wp2_with fail
        refine (kx_lay HN.out.1 (by show S.V.length ≤ _; have := HN2.out.v; omega) (by show S.H.length ≤ _; have := HN2.out.h; omega) (rVD r) a r.ls.length c rfl HLD6.out).mono ?_
        rintro e W6 ⟨rfl, K6, hkb6, hP6, hM6⟩
        have HP6 := hide hP6
        have HM6 := hide (HN.out.2.trans hM6)
        have HKB6 := hide hkb6
        clear hP6 hM6 hkb6 e2 e3 e4 e5
        go_wp2_with fail
        try go_returns
        unfold KxDid; rw [HAO.out, HAP.out, HMZR.out]
        exact ⟨K6, none, 0, rfl, Nat.le_refl _, .inl rfl, HKB6.out, HP6.out, HM6.out⟩
      case second =>
        go_simp
        refine hK.out _ _ HK4.out (fun hHeld => ?_)
        clear hK KN
        try simp [Act.put]
        refine wpAnyH_ready (rs := [4]) (by kernel_rfl) (by simp) ?_
        refine AllReadyH.cons rfl (fun KN hK => ?_) AllReadyH.nil
        go_simp
        refine hK.out _ _ HK4.out (fun hHeld => ?_)
        clear hK KN
        try simp [Act.put]
        refine wpAnyH_ready (rs := [8]) (by kernel_rfl) (by simp) ?_
        refine AllReadyH.cons rfl (fun KN hK => ?_) AllReadyH.nil
        rw [if_pos (by simp [Region.wanted])]
        refine opw_append B (.tmp 25) (.tmp 28) 28 rfl 38 j0 (.agg #[.string ⟨#[]⟩, .int .i64 0, .int .i64 0, .int .i64 0, .string ⟨#[]⟩]) 5 56 Tryz.underlying28 HJ.out HJ0.out HJ1.out HJ2.out rfl (by decide) K.vE S.E.length (enL S.E) (by simp [Act.eval]) (HX3.out.e.alloc _) ⟨Wd.heap.size, 0, none⟩ 1 1 (enC (rEn r)) (by simp [Act.eval]) (by simp [enC]) (cell_en_new Wd (rEn r) 38) (enC_one _) (by have := HEL.out; unfold maxLen; omega) (by have := HEL.out; omega) (by rw [World.size_alloc]; have := HBW2.out; omega) ?_
        intro v' w4 hown hgr hat
        obtain ⟨a9, c9, rfl, -, -⟩ := own_slice hown
        have hmd := app_mdsE (v' := .slice a9 (S.E.length + 1) c9) (by decide) HBW2.out HX3.out.e hgr hat
        have hS := HX3.out.setE HMD3.out (fun _ q => q) (v := .slice a9 (S.E.length + 1) c9) (L := S.E ++ [rEn r]) (hmd.refill fun i hi => hi.elim) (by rw [enL_snoc, List.length_append]; exact hown) (fun i hi => by rcases hmd.own i hi with q | q; exact .inl (.inr (.inl q)); exact .inr q)
        have c1 := hS.1.1
        have f1 := hS.1.2
        have HN := hide hS.2
        have hno2 : ¬ (fun i => K.vE.ownBlock = some i) w.heap.size := fun q => HX3.out.other HK2.out (by decide) (.inr (.inl q))
        have HK5 : Hid (RBx w.heap.size 40 r a c w4) := (hmd.blk _ (lt_of_block HK2.out) hno2).trans HK2.out
        have HK6 : Hid (RBx w.heap.size 40 r a c (w4.setCell ⟨K.kb, 0, none⟩ (.slice a9 (S.E.length + 1) c9))) := (Below.heap_setCell _ ⟨K.kb, 0, none⟩ (.slice a9 (S.E.length + 1) c9) _ (show w.heap.size ≠ K.kb by have := HKL.out; omega)).trans HK5.out
        have HLD5 := hide (HLD.out.mod hmd)
        have HKB5 := hide ((hmd.blk _ (lt_of_block HX3.out.box) (fun q => by have := HX3.out.typed (.inr (.inl q)); obtain ⟨_, _, cu, hcu⟩ := own_at HX3.out.e q; rw [HX3.out.box] at hcu; have := (Obj.cells.inj (Option.some.inj hcu)).2.1; revert this; decide)).trans HX3.out.box)
        clear hown hgr hat hS hmd hno2
        refine hK.out _ _ HK5.out (fun hHeld => ?_)
        clear hK KN
        try simp [Act.put]
        refine wpAnyH_take (i := 9) (v := ?v31) rfl (by kernel_rfl) (by kernel_rfl) (by kernel_rfl) (fun _ _ _ h => h) (Or.inl ⟨by rfl, ?hy31⟩) hHeld ?rest31
        case hy31 => (intro w' hSw; have s6 := RBx.c6 hSw; have s7 := RBx.c7 hSw; have s8 := RBx.c8 hSw; have s9 := RBx.c9 hSw; have s10 := RBx.c10 hSw; go_simp; try with_reducible rfl)
        try simp [Act.put]
        refine wpAnyH_take (i := 10) (v := ?v32) rfl (by kernel_rfl) (by kernel_rfl) (by kernel_rfl) (fun _ _ _ h => h) (Or.inl ⟨by rfl, ?hy32⟩) hHeld ?rest32
        case hy32 => (intro w' hSw; have s6 := RBx.c6 hSw; have s7 := RBx.c7 hSw; have s8 := RBx.c8 hSw; have s9 := RBx.c9 hSw; have s10 := RBx.c10 hSw; go_simp; try with_reducible rfl)
        try simp [Act.put]
        refine wpAnyH_ready (rs := [11]) (by kernel_rfl) (by simp) ?_
        refine AllReadyH.cons rfl (fun KN hK => ?_) AllReadyH.nil
        go_simp
        refine hK.out _ _ HK6.out (fun hHeld => ?_)
        clear hK KN
        try simp [Act.put]
        refine wpAnyH_done (by kernel_rfl) (NoPanic.normal ?_) _
        have HLD6 := hide (HLD5.out.mod (mds_kb (B := B) HKB5.out HX3.out.lb 0 (.slice a9 (S.E.length + 1) c9)))
        generalize w4.setCell ⟨K.kb, 0, none⟩ (.slice a9 (S.E.length + 1) c9) = W5 at *
        clear c1 f1
        have e2 := HK6.out.c2
        have e3 := HK6.out.c3
        have e4 := HK6.out.c4
        have e5 := HK6.out.c5
        go_wp2_with fail
        refine (kx_lay HN.out.1 (by show S.V.length ≤ _; have := HN2.out.v; omega) (by show S.H.length ≤ _; have := HN2.out.h; omega) (rVD r) a r.ls.length c rfl HLD6.out).mono ?_
        rintro e W6 ⟨rfl, K6, hkb6, hP6, hM6⟩
        have HP6 := hide hP6
        have HM6 := hide (HN.out.2.trans hM6)
        have HKB6 := hide hkb6
        clear hP6 hM6 hkb6 e2 e3 e4 e5
        go_wp2_with fail
        try go_returns
        unfold KxDid; rw [HAO.out, HAP.out, HMZR.out]
        exact ⟨K6, none, 0, rfl, Nat.le_refl _, .inl rfl, HKB6.out, HP6.out, HM6.out⟩
    · have HAO : Hid (X.appO r = X.remO r.k) := by unfold Hid; rw [HAO1.out]; unfold FX.doO; rw [if_neg (by omega), if_pos q]
      have HAP : Hid (S.app X r = S.rem X r.k) := by unfold Hid; rw [HAP1.out]; unfold KS.doR; rw [if_neg (by omega), if_pos q]
      have q0 : (r.kind == 0) = false := by simp; omega
      have q1 : (r.kind == 1) = true := by simpa using q
      have HZ1 := hide (z1 q)
      have e11 := HR2.out.c11
      clear hm hck z0 z1 z2 z3 hz q
      go_wp2_with fail
      refine (kx_remove HX2.out HRL.out HIV.out (HN2.out.mono (by omega)) r.k HZ1.out).mono ?_
      rintro e W3 ⟨K3, a3, c3, rfl, h1, h2, h3, h4, h5⟩
      have H1 := hide h1
      have H2 := hide h2
      have H3 := hide h3
      have H4 := hide h4
      have H5 := hide (HM2.out.trans h5)
      obtain ⟨n3, hn3⟩ : ∃ n3, (X.remO r.k).length = n3 := ⟨_, rfl⟩
      have HN3 := hide hn3
      rw [hn3]
      clear h1 h2 h3 h4 h5 hn3
      go_wp2_with fail
      try go_returns
      unfold KxDid; rw [HAO.out, HAP.out, HMZR.out]
      exact ⟨K3, a3, c3, by rw [HN3.out]; rfl, H1.out, H2.out, H3.out, H4.out, H5.out⟩
    · have HAO : Hid (X.appO r = [X.vol r.vid]) := by unfold Hid; rw [HAO1.out]; unfold FX.doO; rw [if_neg (by omega), if_neg (by omega), if_pos q]
      have HAP : Hid (S.app X r = ⟨S.E, S.G, movV S.V (rVD r), S.H⟩) := by unfold Hid; rw [HAP1.out]; unfold KS.doR; rw [if_neg (by omega), if_neg (by omega), if_pos q]
      have q0 : (r.kind == 0) = false := by simp; omega
      have q1 : (r.kind == 1) = false := by simp; omega
      have q2 : (r.kind == 2) = true := by simpa using q
      have e2 := HR2.out.c2
      clear hm hck z0 z1 z2 z3 hz q
      go_wp2_with fail
      refine (kx_volume HX2.out HRL.out (by have := HN2.out.v; omega) r.vid).mono ?_
      rintro e W3 ⟨pa, pc, rfl, hlk, hb3⟩
      obtain ⟨ov, hov⟩ : ∃ ov, X.vol r.vid = ov := ⟨_, rfl⟩
      rw [hov] at hlk HAO ⊢
      obtain ⟨p1, p2, p3, pl⟩ := ov
      obtain ⟨pm, hpm⟩ : ∃ pm, pl.length = pm := ⟨_, rfl⟩
      simp only [hpm] at hlk ⊢
      have HPM := hide hpm
      have hb4 := hb3.trans ((vstB W3 p1 p2 p3 pa pm pc).mono hb3.size)
      have HX4 := hide (HX2.out.below hb4)
      have HR4 := hide (HR2.out.below hb4 HR2.out.lt)
      have HM4 := hide (HM2.out.trans (Mds.of_below K.own hb4 HX2.out.Bw))
      have H7 := hide (vstH W3 p1 p2 p3 pa pm pc)
      have HLA := hide (hlk.below (vstB W3 p1 p2 p3 pa pm pc))
      have HLR := hide (HL2.out.below hb4)
      clear hlk hpm hb3 hb4 e1 e2 hov
      go_upto_region 13 with (first | (refine wpList_store_row rfl 36 (.tmp 7) (.tmp 50) rfl W3.heap.size #[.int .i64 p1, .int .i64 p2, .int .i64 p3, .slice pa pm pc] rfl rfl 36 _ (heap_alloc_new _ _) vol_size4 rfl (vol_one _ _ _ _ _ _) ?_))
      generalize (W3.alloc (.cells #[.int .i64 0, .int .i64 0, .int .i64 0, .slice none 0 0] 36)).setRow W3.heap.size #[.int .i64 p1, .int .i64 p2, .int .i64 p3, .slice pa pm pc] = W4 at *
      generalize W3.heap.size = b7 at *
      have HBW4 : Hid (B ≤ W4.heap.size) := HX4.out.Bw
      obtain ⟨mn, hmn⟩ : ∃ mn, S.V.length = mn := ⟨_, rfl⟩
      obtain ⟨av, cv, hvv, hcv, hc2, hvos⟩ := kx_vslice HX4.out hmn
      have HVOS := hide hvos
      have HC2 := hide hc2
      have HMN := hide hmn
      have HVV := hide hvv
      have hnV : mn ≤ 99998 := by rw [← hmn]; exact HN2.out.v
      have HXM : Hid ((rVD r).ls.length = r.ls.length) := rfl
      clear hvv hc2 hvos hmn
      go_wp2_with fail
      go_loopw [9, 10] (fun v y wr => ∃ k : Nat, k ≤ mn ∧ y = .int .i64 k ∧ Hid (Gv B W4 wr v (movV (S.V.take k) (rVD r))) ∧ Hid (Below W4.heap.size W4 wr)) (fun v y _ => mn - (kIx y).toNat)
      case atStart => exact ⟨0, by omega, rfl, hide (Gv.nil B W4 W4), hide (Below.refl _ _)⟩
      case round =>
        obtain ⟨k, hk, rfl, HG, HBL⟩ := hrel
        have c2 : wr.cell? ⟨K.kb, 2, none⟩ = some (.slice av mn cv) := (HBL.out.cell (p := ⟨K.kb, 2, none⟩) (lt_of_block HX4.out.box)).trans HC2.out
        by_cases hlt : k < mn
        · have hd : decide ((k : Int) < (mn : Int)) = true := by simp; omega
          have hdi : (k : Int) < (mn : Int) := by omega
          have hd0 : (0 : Int) ≤ (k : Int) := by omega
          obtain ⟨y, hy⟩ : ∃ y, S.V[k]? = some y := ⟨_, List.getElem?_eq_getElem (by have := HMN.out; omega)⟩
          obtain ⟨b1, o1, ya, yc, rfl, hbk, p1', q1'⟩ := HVOS.out.nth hy
          have HP1 := hide p1'
          have HQ1 := hide q1'
          have HBK := hide hbk
          obtain ⟨yn, hyn⟩ : ∃ yn, y.ls.length = yn := ⟨_, rfl⟩
          have HYN := hide hyn
          have HTO := hide (movV_snoc (rVD r) hy)
          obtain ⟨d0, d1, d2, d3⟩ := p1'.keep (HBL.out.block b1 hbk)
          simp only at d0
          have HRr := hide (HR4.out.below HBL.out HR4.out.lt)
          have e2 := HRr.out.c2
          clear hy p1' q1' hbk hyn d1 d2 d3
          by_cases hq : y.id = r.vid
          · have g1 : (y.id == r.vid) = true := by simpa using hq
            have HT2 : Hid (movV (S.V.take (k + 1)) (rVD r) = movV (S.V.take k) (rVD r) ++ [rVD r]) := by have t := HTO.out; rw [if_pos (show y.id = (rVD r).id from hq)] at t; exact t
            clear hq
            go_wp2_with fail
            go_quiet (fail)
            obtain ⟨WQ, hWQ⟩ : ∃ WQ, WQ = wr.drewN nq := ⟨_, rfl⟩
            have hdr : Below wr.heap.size wr WQ := by rw [hWQ]; exact drawn_below (Below.refl _ _) nq
            rw [← hWQ]
            have HBQ := hide (HBL.out.trans (hdr.mono HBL.out.size))
            have hgq := HG.out.below hdr
            clear hWQ hdr c2 e2 d0
            have HRq := hide (HR4.out.below HBQ.out HR4.out.lt)
            have e2 := HRq.out.c2
            have e3 := HRq.out.c3
            have e4 := HRq.out.c4
            have e5 := HRq.out.c5
            obtain ⟨vs, HV2, hvl, hpush⟩ := gv_push1 HBW4.out HBQ.out hgq
            have HPUSH : Hid (∀ {o : Obj} {w1 : World} {v' : Value}, w1.ownsRow B 36 4 v' (vs.length + 1) (voV vs ++ voC (⟨rVD r, a, c⟩ : Vo)) → (WQ.alloc o).grownBy w1 u9.ownBlock → (v'.ownBlock = u9.ownBlock ∨ v'.ownBlock = some (WQ.alloc o).heap.size) → Gv B W4 w1 v' ((movV (S.V.take k) (rVD r)) ++ [(⟨rVD r, a, c⟩ : Vo).d]) ∧ Below W4.heap.size W4 w1) := fun h1 h2 h3 => hpush (⟨rVD r, a, c⟩ : Vo) (HLR.out.below HBQ.out) h1 h2 h3
            have HLV : Hid (vs.length ≤ mn) := by have : (movV (S.V.take k) (rVD r)).length ≤ mn := (by unfold movV; rw [List.length_map, List.length_take]; omega); unfold Hid; omega
            have hsz3 : B ≤ WQ.heap.size := Nat.le_trans HBW4.out HBQ.out.size
            clear hgq hvl hpush
            go_wp2_with (first | (at_builtin; refine wpList_append_own_at _ rfl (.tmp 73) (.tmp 76) 29 rfl B 36 i0 (.agg #[.int .i64 0, .int .i64 0, .int .i64 0, .slice none 0 0]) 4 48 Tryz.underlying29 HI.out HI0.out HI1.out HI2.out rfl (by decide) _ _ _ rfl (HV2.out.alloc _) ⟨WQ.heap.size, 0, none⟩ 1 1 (voC (⟨rVD r, a, c⟩ : Vo)) rfl (by simp [voC]) (by have := cell_vol_new WQ (⟨rVD r, a, c⟩ : Vo) 36; unfold voA at this; simp only [HXM.out] at this; exact this) (voC_one _) (by have := HLV.out; unfold maxLen; omega) (by have := HLV.out; omega) (by rw [World.size_alloc]; omega) ?_; intro v' w3 hown hgr hnil hat; clear hnil; have HN := hide (HPUSH.out hown hgr hat); clear hown hgr hat))
            all_goals exact ⟨⟨k + 1, by omega, by go_num, by rw [HT2.out]; exact hide HN.out.1, hide HN.out.2⟩, by simp [kIx]; omega⟩
          · have g1 : (y.id == r.vid) = false := by simpa using hq
            have HT2 : Hid (movV (S.V.take (k + 1)) (rVD r) = movV (S.V.take k) (rVD r) ++ [y]) := by have t := HTO.out; rw [if_neg (show ¬ y.id = (rVD r).id from hq)] at t; exact t
            clear hq
            go_wp2_with fail
            go_quiet (fail)
            obtain ⟨WQ, hWQ⟩ : ∃ WQ, WQ = wr.drewN nq := ⟨_, rfl⟩
            have hdr : Below wr.heap.size wr WQ := by rw [hWQ]; exact drawn_below (Below.refl _ _) nq
            rw [← hWQ]
            have HBQ := hide (HBL.out.trans (hdr.mono HBL.out.size))
            have hgq := HG.out.below hdr
            clear hWQ hdr c2 e2 d0
            obtain ⟨d0, d1, d2, d3⟩ := HP1.out.keep (HBQ.out.block b1 HBK.out)
            simp only at d0 d1 d2 d3
            rw [HYN.out] at d3
            have c2 := (HBQ.out.cell (p := ⟨K.kb, 2, none⟩) (lt_of_block HX4.out.box)).trans HC2.out
            obtain ⟨vs, HV2, hvl, hpush⟩ := gv_push1 HBW4.out HBQ.out hgq
            have HPUSH : Hid (∀ {o : Obj} {w1 : World} {v' : Value}, w1.ownsRow B 36 4 v' (vs.length + 1) (voV vs ++ voC (⟨y, ya, yc⟩ : Vo)) → (WQ.alloc o).grownBy w1 u9.ownBlock → (v'.ownBlock = u9.ownBlock ∨ v'.ownBlock = some (WQ.alloc o).heap.size) → Gv B W4 w1 v' ((movV (S.V.take k) (rVD r)) ++ [(⟨y, ya, yc⟩ : Vo).d]) ∧ Below W4.heap.size W4 w1) := fun h1 h2 h3 => hpush (⟨y, ya, yc⟩ : Vo) (HQ1.out.below HBQ.out) h1 h2 h3
            have HLV : Hid (vs.length ≤ mn) := by have : (movV (S.V.take k) (rVD r)).length ≤ mn := (by unfold movV; rw [List.length_map, List.length_take]; omega); unfold Hid; omega
            have hsz3 : B ≤ WQ.heap.size := Nat.le_trans HBW4.out HBQ.out.size
            clear hgq hvl hpush
            go_wp2_with (first | (at_builtin; refine wpList_append_own_at _ rfl (.tmp 78) (.tmp 86) 29 rfl B 36 i0 (.agg #[.int .i64 0, .int .i64 0, .int .i64 0, .slice none 0 0]) 4 48 Tryz.underlying29 HI.out HI0.out HI1.out HI2.out rfl (by decide) _ _ _ rfl (HV2.out.alloc _) ⟨WQ.heap.size, 0, none⟩ 1 1 (voC (⟨y, ya, yc⟩ : Vo)) rfl (by simp [voC]) (by have := cell_vol_new WQ (⟨y, ya, yc⟩ : Vo) 36; unfold voA at this; simp only [HYN.out] at this; exact this) (voC_one _) (by have := HLV.out; unfold maxLen; omega) (by have := HLV.out; omega) (by rw [World.size_alloc]; omega) ?_; intro v' w3 hown hgr hnil hat; clear hnil; have HN := hide (HPUSH.out hown hgr hat); clear hown hgr hat))
            all_goals exact ⟨⟨k + 1, by omega, by go_num, by rw [HT2.out]; exact hide HN.out.1, hide HN.out.2⟩, by simp [kIx]; omega⟩
        · have hd : decide ((k : Int) < (mn : Int)) = false := by simp; omega
          have hkk : S.V.take k = S.V := List.take_of_length_le (by have := HMN.out; omega)
          have hgf := HG.out
          rw [hkk] at hgf
          obtain ⟨⟨cs, fs⟩, hP, hM⟩ := HX4.out.setV (Mds.refl B K.own W4) (fun _ q => q) (Mds.of_below (fun _ => False) HBL.out HBW4.out) hgf.row
          rw [HVV.out] at cs
          obtain ⟨oa, oc, rfl, _, _⟩ := hgf.row.form
          have hml : (movV S.V (rVD r)).length = mn := by unfold movV; rw [List.length_map]; exact HMN.out
          rw [hml] at hP hM
          have HP := hide hP
          have HMF := hide (HM4.out.trans hM)
          have H76 := hide (kx_keep HX4.out hM H7.out (by decide))
          have HLA6 := hide (HLA.out.mod hM)
          rw [hml]
          clear hkk hgf hP hM hml
          go_upto_region 21 with fail
          generalize wr.setCell ⟨K.kb, 2, none⟩ (.slice oa mn oc) = W6 at *
          clear cs fs c2
          go_wp2_with (first | (refine wpList_load_row rfl 36 (.tmp 7) rfl b7 rfl 36 #[.int .i64 p1, .int .i64 p2, .int .i64 p3, .slice pa pm pc] (0, 0) _ H76.out Tryz.underlying36 rfl vol_size4 ?_))
          try go_returns
          unfold KxDid; rw [HAO.out, HAP.out, HMZR.out]
          have hba : Below W6.heap.size W6 (W6.alloc (.cells #[.int .i64 p1, .int .i64 p2, .int .i64 p3, .slice pa pm pc] 36)) := (Below.refl _ _).alloc (Nat.le_refl _) _
          exact ⟨⟨K.kb, K.vE, K.vG, .slice oa mn oc, K.vH⟩, some ⟨W6.heap.size, 0, none⟩, 1, rfl, Nat.le_refl _, one_vos HPM.out HLA6.out, rfl, HP.out.below hba, HMF.out.trans (Mds.of_below _ hba HP.out.Bw)⟩
    · have HAO : Hid (X.appO r = X.mrgO r) := by unfold Hid; rw [HAO1.out]; unfold FX.doO; rw [if_neg (by omega), if_neg (by omega), if_neg (by omega)]
      have HAP : Hid (S.app X r = S.mrg X r) := by unfold Hid; rw [HAP1.out]; unfold KS.doR; rw [if_neg (by omega), if_neg (by omega), if_neg (by omega)]
      have q0 : (r.kind == 0) = false := by simp; omega
      have q1 : (r.kind == 1) = false := by simp; omega
      have q2 : (r.kind == 2) = false := by simp; omega
      have HZ3 := hide (z3 q)
      have HNE := hide ((ckK_3 q).1 hz.2.1).2.2.2
      clear hm hck z0 z1 z2 z3 hz q
      go_wp2_with (first | (refine wpList_load_row rfl 40 (.tmp 3) rfl w.heap.size rfl 40 (rcs r a c) (0, 0) _ HR2.out Tryz.underlying40 rfl kx_rinfo ?_))
      refine (kx_merge HX2.out HRL.out HIV.out HN2.out r a c HL2.out HZ3.out HNE.out).mono ?_
      rintro e W3 ⟨K3, a3, c3, rfl, h1, h2, h3, h4, h5⟩
      have H1 := hide h1
      have H2 := hide h2
      have H3 := hide h3
      have H4 := hide h4
      have H5 := hide (HM2.out.trans h5)
      obtain ⟨n3, hn3⟩ : ∃ n3, (X.mrgO r).length = n3 := ⟨_, rfl⟩
      have HN3 := hide hn3
      rw [hn3]
      clear h1 h2 h3 h4 h5 hn3
      go_wp2_with fail
      try go_returns
      unfold KxDid; rw [HAO.out, HAP.out, HMZR.out]
      exact ⟨K3, a3, c3, by rw [HN3.out]; rfl, H1.out, H2.out, H3.out, H4.out, H5.out⟩
  · have HAO : Hid (X.appO r = []) := HAO0.out.trans (if_neg hm)
    have HAP : Hid (S.app X r = S) := HAP0.out.trans (if_neg hm)
    have q9 : (X.may r == 0) = false := by simpa using hm
    have q8 : (X.may r != 0) = true := by simpa using hm
    clear hm
    go_wp2_with fail
    try go_returns
    unfold KxDid; rw [HAO.out, HAP.out]
    exact ⟨K, none, 0, rfl, Nat.le_refl _, .inl rfl, rfl, HX2.out, HM2.out⟩
end Go.Proofs.YtonhmihmnkicdaaGreat
