/- What sluicegateref03.block answers: the state behind a block, in a row of its own: the walk. -/
import Derived.Test.YtlpibpkbgmcclaaGreatDoorShBlockX
import Derived.Deep.DeepCutAuto
import Derived.StillTailTactics
namespace Go.Proofs.YtlpibpkbgmcclaaGreatDoor
open Go.RowKit
set_option maxRecDepth 100000 in
set_option maxHeartbeats 2000000 in
theorem refBlock_any (g0 o0 c0 bb o cap : Nat) (v : Sh.S8) (b : Nat → Nat) (w : World) (hv : Sh.In v) (hb : ∀ p, b p < 256) (hS : Sl8 w g0 o0 v) (hbb : bb < w.heap.size) (hc : ∀ p, p < 64 → w.cell? ⟨bb, o + p, none⟩ = some (.int .u8 (b p : Nat))) :
    Calls Tryz.prog 36 #[.slice (some ⟨g0, o0, none⟩) 8 c0, .slice (some ⟨bb, o, none⟩) 64 cap] w fun e w' => ∃ v' g c, e = .returned v' ∧ v' = .slice (some ⟨g, 0, none⟩) 8 c ∧ w.heap.size ≤ g ∧ Sl8 w' g 0 (Sh.blk v b) ∧ Below w.heap.size w w' := by
  obtain ⟨i0, hi0, hz0, hz1, hz2⟩ := info_parts u32_info
  have HI := hide hi0
  have HI0 := hide hz0
  have HI1 := hide hz1
  have HI2 := hide hz2
  have HC := hide hc
  have HB := hide hb
  have HV := hide hv
  have HS := hide hS
  clear hi0 hz0 hz1 hz2 hc hb hv hS
  go_enter Tryz.func36, Tryz.ntmps36
  go_wp2_with fail
  refine (refWords_any bb o cap b w HB.out hbb HC.out).mono ?_
  rintro e w1 ⟨vw, rfl, how, hb1⟩
  have HW := hide how
  have HB1 := hide hb1
  clear how hb1
  have HS1 := hide (HS.out.below HB1.out HS.out.1)
  go_wp2_with (first | (at_builtin; refine wpList_append_own _ rfl (.const (.slice none 0 0)) (.tmp 13) 76 rfl w1.heap.size 75 i0 (.int .u32 0) 1 4 Tryz.underlying76 HI.out HI0.out HI1.out HI2.out rfl (by decide) _ 0 [] rfl (World.ownsRow_nil _ _ _ _) ⟨g0, o0, none⟩ 8 c0 (w8 v) rfl rfl (news8 HS1.out) (by simp [w8, Value.oneCell']) (by unfold maxLen; omega) (by omega) (Nat.le_refl _) ?_; intro v' w3 hown hgr hnil; clear hnil))
  obtain ⟨gw, cw, rfl, hcw, hcm, hwc⟩ := WdRel.form (w := w) (wr := w1) (b := b) ⟨HW.out, HB1.out⟩ (by omega)
  have hgw : gw < w1.heap.size := block_lt_of_cell (hwc 0 (by omega))
  have HWC := hide hwc
  have HRel := hide (bkRel_first hown (Below.grown (Below.refl _ _) hgr (Nat.le_refl _) (fun g hg => by cases hg)))
  clear hown hgr hwc HW
  go_wp2_with fail
  go_loopw [6, 7] (fun x y wr => ∃ k : Nat, k ≤ 64 ∧ y = .int .i64 k ∧ BkRel w1 wr x (Sh.rnds (Sh.ww b) v k) k) (fun _ y _ => 64 - (intOf y).toNat)
  case atStart => exact ⟨0, by omega, rfl, HRel.out⟩
  case round =>
    obtain ⟨k, hk, rfl, g, c, rfl, hc8, hst, hfn⟩ := hrel
    have hU := hide (rnds_in HB.out HV.out k)
    have hN : Hid (Sh.rnds (Sh.ww b) v (k + 1) = Sh.rnd (Sh.rnds (Sh.ww b) v k) (Sh.kk k) (Sh.ww b k)) := rfl
    by_cases hlt : k < 64
    · clear hfn
      generalize Sh.rnds (Sh.ww b) v k = U at *
      have hd : decide ((k : Int) < 64) = true := by simp; omega
      have hni : (0 : Int) ≤ (k : Int) := by omega
      have hbi : (k : Int) < 64 := by omega
      have l0 : U.a < 4294967296 := hU.out 0
      have l1 : U.b < 4294967296 := hU.out 1
      have l2 : U.c < 4294967296 := hU.out 2
      have l4 : U.e < 4294967296 := hU.out 4
      have l5 : U.f < 4294967296 := hU.out 5
      have l6 : U.g < 4294967296 := hU.out 6
      have e4 := cell_regrown (hst.cell (q := 4) (by omega))
      have e5 := cell_regrown (hst.cell (q := 5) (by omega))
      have e6 := cell_regrown (hst.cell (q := 6) (by omega))
      have e7 := cell_regrown (hst.cell (q := 7) (by omega))
      have eW := cell_regrown ((hst.2.2.cell (p := ⟨gw, k, none⟩) hgw).trans (HWC.out k hlt))
      simp only [Sh.at8] at e4 e5 e6 e7
      have r6 : ∀ d os, Calls Tryz.prog 49 #[.int .u32 (U.e : Int), .int .u64 6] (Go.Sort.grow (redrawn wr d) os) fun e w'' => e = .returned (.int .u32 (Sh.rot U.e 6 : Nat)) ∧ ∃ p : Regrown, w'' = Go.Sort.grow (redrawn wr p.d) p.os := bkRot U.e 6 wr l4 (by decide) (by decide)
      have r11 : ∀ d os, Calls Tryz.prog 49 #[.int .u32 (U.e : Int), .int .u64 11] (Go.Sort.grow (redrawn wr d) os) fun e w'' => e = .returned (.int .u32 (Sh.rot U.e 11 : Nat)) ∧ ∃ p : Regrown, w'' = Go.Sort.grow (redrawn wr p.d) p.os := bkRot U.e 11 wr l4 (by decide) (by decide)
      have r25 : ∀ d os, Calls Tryz.prog 49 #[.int .u32 (U.e : Int), .int .u64 25] (Go.Sort.grow (redrawn wr d) os) fun e w'' => e = .returned (.int .u32 (Sh.rot U.e 25 : Nat)) ∧ ∃ p : Regrown, w'' = Go.Sort.grow (redrawn wr p.d) p.os := bkRot U.e 25 wr l4 (by decide) (by decide)
      have rK := bkK k wr hlt
      have H := hide hst
      clear hst
      go_upto_region 6 with fail
      go_cut [8] (fun x wx => x = .int .u32 (Sh.rT U (Sh.kk k) (Sh.ww b k) : Nat) ∧ BkSt w1 wx g U)
      case first =>
        refine wp_region_quiet_below (by kernel_rfl) (by kernel_rfl) ?_
        repeat (quiet_step (first | (with_reducible exact r6 _ _) | (with_reducible exact r11 _ _) | (with_reducible exact r25 _ _) | (with_reducible exact rK _ _)))
        refine wpQuiet_nil ?_
        intro _ hw'
        obtain ⟨pq, hw''⟩ := hw'
        subst hw''
        rw [bkT U (Sh.kk k) (Sh.ww b k) l4 l5 l6]
        have HQ := hide (H.out.next (below_regrown wr pq.d pq.os))
        go_wp2_with fail
        go_meet
        case rel => exact ⟨rfl, HQ.out⟩
      case rest =>
      obtain ⟨rfl, hst⟩ := hcut
      clear e4 e5 e6 e7 eW r6 r11 r25 rK H
      have HQ := hide hst
      clear hst
      generalize hT : Sh.rT U (Sh.kk k) (Sh.ww b k) = T at *
      have HT := hide hT
      clear hT
      have c0 := HQ.out.cell (q := 0) (by omega)
      have c1 := HQ.out.cell (q := 1) (by omega)
      have c2 := HQ.out.cell (q := 2) (by omega)
      simp only [Sh.at8] at c0 c1 c2
      have r2 : ∀ m, Calls Tryz.prog 49 #[.int .u32 (U.a : Int), .int .u64 2] (wc.drewN m) fun e w' => e = .returned (.int .u32 (Sh.rot U.a 2 : Nat)) ∧ ∃ m, w' = wc.drewN m := bkRotQ U.a 2 wc l0 (by decide) (by decide)
      have r13 : ∀ m, Calls Tryz.prog 49 #[.int .u32 (U.a : Int), .int .u64 13] (wc.drewN m) fun e w' => e = .returned (.int .u32 (Sh.rot U.a 13 : Nat)) ∧ ∃ m, w' = wc.drewN m := bkRotQ U.a 13 wc l0 (by decide) (by decide)
      have r22 : ∀ m, Calls Tryz.prog 49 #[.int .u32 (U.a : Int), .int .u64 22] (wc.drewN m) fun e w' => e = .returned (.int .u32 (Sh.rot U.a 22 : Nat)) ∧ ∃ m, w' = wc.drewN m := bkRotQ U.a 22 wc l0 (by decide) (by decide)
      go_upto_region 7 with fail
      go_cut [9] (fun x wx => x = .int .u32 (Sh.rU U : Nat) ∧ BkSt w1 wx g U)
      case first =>
        go_quiet (first | (with_reducible exact r2 _) | (with_reducible exact r13 _) | (with_reducible exact r22 _))
        rw [bkU U l0 l1 l2]
        have HR := hide (HQ.out.next (below_draws (Below.refl _ _) nq))
        go_wp2_with fail
        go_meet
        case rel => exact ⟨rfl, HR.out⟩
      case rest =>
      obtain ⟨rfl, hst⟩ := hcut
      clear c0 c1 c2 HQ r2 r13 r22
      have HR := hide hst
      clear hst
      generalize hX : Sh.rU U = X at *
      have HX := hide hX
      clear hX
      have c0 := HR.out.cell (q := 0) (by omega)
      have c1 := HR.out.cell (q := 1) (by omega)
      have c2 := HR.out.cell (q := 2) (by omega)
      have c3 := HR.out.cell (q := 3) (by omega)
      have c4 := HR.out.cell (q := 4) (by omega)
      have c5 := HR.out.cell (q := 5) (by omega)
      have c6 := HR.out.cell (q := 6) (by omega)
      simp only [Sh.at8] at c0 c1 c2 c3 c4 c5 c6
      go_upto_region 8 with fail
      go_region
      have HN := hide (bkRel_new (k := k + 1) HR.out HT.out HX.out)
      rw [← hN.out] at HN
      clear c0 c1 c2 c3 c4 c5 c6 HR HT HX hU hN
      go_wp2_with fail
      exact ⟨⟨k + 1, by omega, by go_num, HN.out⟩, by simp [intOf]; omega⟩
    · have HR := hide (blk_of (v := v) (b := b) (show k = 64 by omega))
      have HR0 : Hid (Bk2 w1 wr g (mix8 (Sh.rnds (Sh.ww b) v k) v 0)) := by
        rw [mix8_none]
        exact ⟨hst.1, hfn (by omega), hst.2.2⟩
      have hgg := hst.1
      have hg0 : g0 < w1.heap.size := HS1.out.1
      clear hN hU hst hfn HRel HWC
      generalize Sh.rnds (Sh.ww b) v k = R at *
      go_wp2_with fail
      go_loopw [10] (fun y wr => ∃ q : Nat, q ≤ 8 ∧ y = .int .i64 q ∧ Bk2 w1 wr g (mix8 R v q)) (fun y _ => 8 - (intOf y).toNat)
      case atStart => exact ⟨0, by omega, rfl, HR0.out⟩
      case round =>
        obtain ⟨q, hq, rfl, hrel⟩ := hrel
        have H := hide hrel
        by_cases hlt : q < 8
        · have hd : decide ((q : Int) < 8) = true := by simp; omega
          have hni : (0 : Int) ≤ (q : Int) := by omega
          have hbi : (q : Int) < 8 := by omega
          have c1 := hrel.2.1.cell hlt
          have f1 := hrel.2.1.free q
          have c2 := (hrel.2.2.cell (p := ⟨g0, o0 + q, none⟩) hg0).trans (HS1.out.2 q hlt)
          rw [mix8_at R v hlt] at c1
          clear hrel
          go_wp2_with fail
          go_region
          rw [show (((Sh.at8 R q : Nat) : Int) + ((Sh.at8 v q : Nat) : Int)) % 4294967296 = (((Sh.at8 R q + Sh.at8 v q) % Sh.M : Nat) : Int) by unfold Sh.M; omega]
          have HN := hide ((H.out.step hlt).drewN 1)
          clear H c1 c2 f1
          go_wp2_with fail
          exact ⟨⟨q + 1, by omega, by go_num, HN.out⟩, by simp [intOf]; omega⟩
        · obtain rfl : q = 8 := by omega
          clear hrel
          have HF := hide (H.out)
          rw [mix8_all, ← HR.out] at HF
          generalize hF : Sh.blk v b = F at *
          have HE := hide hF
          clear hF
          go_wp2_with fail
          go_ret
          exact ⟨_, g, c, rfl, rfl, Nat.le_trans HB1.out.size hgg, ⟨HF.out.2.1.lt, fun q hq => by rw [Nat.zero_add, HE.out]; exact HF.out.2.1.cell hq⟩, below_down HB1.out HB1.out.size HF.out.2.2⟩
end Go.Proofs.YtlpibpkbgmcclaaGreatDoor
