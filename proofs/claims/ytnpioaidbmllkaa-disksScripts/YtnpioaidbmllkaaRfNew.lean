/- What the document's New answers. -/
import Derived.Test.YtnpioaidbmllkaaRfAgain
namespace Go.Proofs.Ytnpioaidbmllkaa
open Go.RowKit
set_option linter.unusedVariables false
theorem pt_info : (Try.prog.info? 57).map (fun i => (i.zero, i.size, i.bytes)) = some (some (.pointer none), 1, 8) := by kernel_rfl
structure NwMid (w wr : World) (rb : Nat) (v : Value) (k : Nat) (R : Nat → Rk) : Prop where
  rbk : RB wr rb v k R
  ct : ∀ e, e < k → (R e).ct = ⟨false, fun _ => ByteArray.empty, []⟩
  foot : ∀ q, RFoot rb v k R q → w.heap.size ≤ q
  below : Below w.heap.size w wr
theorem NwMid.step {w wr w4 W3 : World} {rb k : Nat} {v v' : Value} {R : Nat → Rk} (h : NwMid w wr rb v k R)
    (hW3 : Below wr.heap.size wr W3) (hsz : W3.heap.size = wr.heap.size + 3) (hat0 : RkAt W3 (rNew wr.heap.size (wr.heap.size + 1) false))
    (hown : w4.ownsRow 0 57 1 v' (k + 1) (ptV R k ++ [.pointer (some ⟨wr.heap.size + 1, 0, none⟩)])) (hgr : W3.grownBy w4 v.ownBlock) (hat : v'.ownBlock = v.ownBlock ∨ v'.ownBlock = some W3.heap.size) :
    NwMid w (w4.setCell ⟨rb, 0, none⟩ v') rb v' (k + 1) (updR R k (rNew wr.heap.size (wr.heap.size + 1) false)) := by
  have hrb : rb < wr.heap.size := lt_of_block h.rbk.blk
  have hvl : ∀ q, v.ownBlock = some q → q < wr.heap.size := fun q hq => row_lt h.rbk.row hq
  have hold : ∀ q, q < wr.heap.size → some q ≠ v.ownBlock → w4.heap[q]? = wr.heap[q]? := fun q hq hn => (hgr.block q (by omega) hn).trans (hW3.block q hq)
  have hnew : ∀ q, wr.heap.size ≤ q → q < wr.heap.size + 3 → w4.heap[q]? = W3.heap[q]? := fun q h1 h2 => hgr.block q (by omega) fun e => by have := hvl q e.symm; omega
  have hv'n : ∀ q, v'.ownBlock = some q → v.ownBlock = some q ∨ wr.heap.size + 3 ≤ q := fun q hq => by
    rcases hat with e | e
    · exact .inl (by rw [← e]; exact hq)
    · rw [e] at hq; cases hq; exact .inr (by omega)
  have hin : ∀ i q, i < k + 1 → RkF (updR R k (rNew wr.heap.size (wr.heap.size + 1) false) i) q → (i < k ∧ RkF (R i) q ∧ q < wr.heap.size) ∨ (i = k ∧ wr.heap.size ≤ q ∧ q < wr.heap.size + 3) := by
    intro i q hi hq
    by_cases c : i = k
    · subst c; rw [updR_at] at hq; exact .inr ⟨rfl, by rcases rNew_f hq with e | e <;> omega⟩
    · rw [updR_ne c] at hq; exact .inl ⟨by omega, hq, (h.rbk.dk i (by omega)).lt hq⟩
  refine ⟨⟨?_, ?_, ?_, ?_, ?_, ?_⟩, ?_, ?_, ?_⟩
  · have : w4.heap[rb]? = _ := (hold rb hrb fun e => h.rbk.a1 e.symm).trans h.rbk.blk
    exact block_setCell _ this
  · rw [ptV_succ, updR_at, ptV_congr (R := R) fun e he => by rw [updR_ne (by omega)]]
    exact row_keep hown fun g hg => Below.heap_setCell _ _ _ _ fun e => by
      have e' : g = rb := e
      rcases hv'n g hg with hx | hx
      · exact h.rbk.a1 (by rw [hx, e'])
      · omega
  · intro i hi
    by_cases c : i = k
    · subst c
      rw [updR_at]
      exact hat0.keep fun q hq => by
        have hq' : wr.heap.size ≤ q ∧ q < wr.heap.size + 3 := by rcases rNew_f hq with e | e <;> omega
        exact (Below.heap_setCell _ _ _ _ (by show q ≠ rb; omega)).trans (hnew q hq'.1 hq'.2)
    · rw [updR_ne c]
      have hi' : i < k := by omega
      exact (h.rbk.dk i hi').keep fun q hq => (Below.heap_setCell _ _ _ _ (h.rbk.a2 i hi' q hq).1).trans (hold q ((h.rbk.dk i hi').lt hq) fun e => (h.rbk.a2 i hi' q hq).2 e.symm)
  · intro i i' q hi hi' hq hq'
    rcases hin i q hi hq with ⟨h1, h2, h3⟩ | ⟨h1, h2, h3⟩
    · rcases hin i' q hi' hq' with ⟨h4, h5, h6⟩ | ⟨h4, h5, h6⟩
      · exact h.rbk.ap i i' q h1 h4 h2 h5
      · omega
    · rcases hin i' q hi' hq' with ⟨h4, h5, h6⟩ | ⟨h4, h5, h6⟩
      · omega
      · omega
  · intro e
    rcases hv'n rb e with hx | hx
    · exact h.rbk.a1 hx
    · omega
  · intro i hi q hq
    rcases hin i q hi hq with ⟨h1, h2, h3⟩ | ⟨h1, h2, h3⟩
    · refine ⟨(h.rbk.a2 i h1 q h2).1, fun e => ?_⟩
      rcases hv'n q e with hx | hx
      · exact (h.rbk.a2 i h1 q h2).2 hx
      · omega
    · refine ⟨by omega, fun e => ?_⟩
      rcases hv'n q e with hx | hx
      · have := hvl q hx; omega
      · omega
  · intro i hi
    by_cases c : i = k
    · subst c; rw [updR_at]; rfl
    · rw [updR_ne c]; exact h.ct i (by omega)
  · intro q hq
    have hw := h.below.size
    rcases hq with hq | hq | ⟨i, hi, hq⟩
    · rw [hq]; exact h.foot rb (.inl rfl)
    · rcases hv'n q hq with hx | hx
      · exact h.foot q (.inr (.inl hx))
      · omega
    · rcases hin i q hi hq with ⟨h1, h2, h3⟩ | ⟨h1, h2, h3⟩
      · exact h.foot q (.inr (.inr ⟨i, h1, h2⟩))
      · omega
  · have hw := h.below.size
    have hfr := h.foot rb (.inl rfl)
    have h4 : Below w.heap.size w w4 := ⟨hgr.os.trans (hW3.os.trans h.below.os), hgr.tape.trans (hW3.tape.trans h.below.tape), hgr.output.trans (hW3.output.trans h.below.output), Nat.le_trans hw (Nat.le_trans hW3.size hgr.size), fun q hq => (hold q (by omega) fun e => by have := h.foot q (.inr (.inl e.symm)); omega).trans (h.below.block q hq)⟩
    exact h4.setCell hfr _
theorem rNew3 (wr : World) (Z : Array Value) (hZ : secs0 = Z) : RkAt (((wr.alloc (.cells Z 9)).alloc (.cells #[.slice (some ⟨wr.heap.size, 0, none⟩) 112 112, .slice none 0 0, .bool false] 61)).alloc (.cells #[.pointer (some ⟨wr.heap.size + 1, 0, none⟩)] 57)).drew (rNew wr.heap.size (wr.heap.size + 1) false) := by
  subst hZ
  have hb : Below ((wr.alloc (.cells secs0 9)).alloc (.cells #[.slice (some ⟨wr.heap.size, 0, none⟩) 112 112, .slice none 0 0, .bool false] 61)).heap.size ((wr.alloc (.cells secs0 9)).alloc (.cells #[.slice (some ⟨wr.heap.size, 0, none⟩) 112 112, .slice none 0 0, .bool false] 61)) (((wr.alloc (.cells secs0 9)).alloc (.cells #[.slice (some ⟨wr.heap.size, 0, none⟩) 112 112, .slice none 0 0, .bool false] 61)).alloc (.cells #[.pointer (some ⟨wr.heap.size + 1, 0, none⟩)] 57)) := (Below.refl _ _).alloc (Nat.le_refl _) _
  exact (rNew_at wr false).keep fun q hq => hb.block q ((rNew_at wr false).lt hq)
set_option maxRecDepth 100000 in
set_option maxHeartbeats 4000000 in
theorem rNew_any (w : World) : Calls Try.prog 10 #[] w fun e w' => ∃ rb v R, e = .returned (.pointer (some ⟨rb, 0, none⟩)) ∧ NwMid w w' rb v 12 R := by
  obtain ⟨i0, hi0, hz0, hz1, hz2⟩ := info_parts pt_info
  have HI := hide hi0
  have HI0 := hide hz0
  have HI1 := hide hz1
  have HI2 := hide hz2
  have hmk := make_secs
  have hzs := secs0_size
  have HZ : Hid (∀ wr : World, RkAt (((wr.alloc (.cells secs0 9)).alloc (.cells #[.slice (some ⟨wr.heap.size, 0, none⟩) 112 112, .slice none 0 0, .bool false] 61)).alloc (.cells #[.pointer (some ⟨wr.heap.size + 1, 0, none⟩)] 57)).drew (rNew wr.heap.size (wr.heap.size + 1) false)) := fun wr => rNew3 wr _ rfl
  clear hi0 hz0 hz1 hz2
  generalize secs0 = Z at *
  go_enter Try.func10, Try.ntmps10
  go_wp2_with fail
  have HM : Hid (NwMid w (w.alloc (.cells #[.slice none 0 0] 56)) w.heap.size (.slice none 0 0) 0 fun _ => rNew 0 0 false) := by
    refine ⟨⟨heap_alloc_new _ _, World.ownsRow_nil _ _ _ _, fun e he => by omega, fun e _ _ he => by omega, fun e => (by cases e), fun e he => by omega⟩, fun e he => by omega, fun q hq => ?_, (Below.refl _ _).alloc (Nat.le_refl _) _⟩
    rcases hq with hq | hq | ⟨i, hi, _⟩
    · omega
    · cases hq
    · omega
  go_loopw [2] (fun y wr => ∃ k : Nat, k ≤ 12 ∧ y = .int .i64 k ∧ ∃ v R, NwMid w wr w.heap.size v k R) (fun y _ => 12 - (intOf y).toNat)
  case atStart => exact ⟨0, by omega, rfl, _, _, HM.out⟩
  case round =>
    obtain ⟨k, hk, rfl, v, R, hM⟩ := hrel
    have HC := hide hM
    clear HM
    by_cases hlt : k < 12
    · have hd1 : decide ((k : Int) < 12) = true := by simp; omega
      have cB : wr.cell? ⟨w.heap.size, 0, none⟩ = some v := cell_of_block hM.rbk.blk
      have hrbl : w.heap.size < wr.heap.size := lt_of_block hM.rbk.blk
      have hvb : ∀ q, v.ownBlock = some q → q ≠ w.heap.size := fun q hq e => hM.rbk.a1 (by rw [hq, e])
      have HVB := hide hvb
      have HFB : Hid (∀ q, wr.frozen? ⟨w.heap.size, q, none⟩ = false) := fun q => free_of_block hM.rbk.blk
      have HROW := hide hM.rbk.row
      obtain ⟨a9, c9, hv9⟩ := row_form hM.rbk.row
      subst hv9
      clear hM hvb
      generalize hrb : w.heap.size = rb at *
      go_wp2_with fail
      refine wp_region_noPanic ?_
      refine wp_region_held_drew (S := fun _ => True) (by kernel_rfl) trivial (fun hHeld => ?_)
      refine wpAnyH_take (i := 0) (v := ?v1) rfl (by kernel_rfl) (by kernel_rfl) (by kernel_rfl) (fun _ _ _ h => h) (Or.inl ⟨by rfl, ?hy1⟩) hHeld ?rest1
      case hy1 => (intro w' hSw; go_simp; try with_reducible rfl)
      try simp [Act.put]
      refine wpAnyH_take (i := 1) (v := ?v2) rfl (by kernel_rfl) (by kernel_rfl) (by kernel_rfl) (fun _ _ _ h => h) (Or.inl ⟨by rfl, ?hy2⟩) hHeld ?rest2
      case hy2 => (intro w' hSw; go_simp; try with_reducible rfl)
      try simp [Act.put]
      refine wpAnyH_take (i := 2) (v := ?v3) rfl (by kernel_rfl) (by kernel_rfl) (by kernel_rfl) (fun _ _ _ h => h) (Or.inl ⟨by rfl, ?hy3⟩) hHeld ?rest3
      case hy3 => (intro w' hSw; go_simp; try with_reducible rfl)
      try simp [Act.put]
      refine wpAnyH_take (i := 3) (v := ?v4) rfl (by kernel_rfl) (by kernel_rfl) (by kernel_rfl) (fun _ _ _ h => h) (Or.inl ⟨by rfl, ?hy4⟩) hHeld ?rest4
      case hy4 => (intro w' hSw; go_simp; try with_reducible rfl)
      try simp [Act.put]
      have cB1 : (wr.alloc (.cells Z 9)).cell? ⟨rb, 0, none⟩ = some (.slice a9 k c9) := Lib.cell?_alloc_some _ cB
      have cB2 : ((wr.alloc (.cells Z 9)).alloc (.cells #[.slice (some ⟨wr.heap.size, 0, none⟩) 112 112, .slice none 0 0, .bool false] 61)).cell? ⟨rb, 0, none⟩ = some (.slice a9 k c9) := Lib.cell?_alloc_some _ cB1
      have cB3 : (((wr.alloc (.cells Z 9)).alloc (.cells #[.slice (some ⟨wr.heap.size, 0, none⟩) 112 112, .slice none 0 0, .bool false] 61)).alloc (.cells #[.pointer (some ⟨wr.heap.size + 1, 0, none⟩)] 57)).cell? ⟨rb, 0, none⟩ = some (.slice a9 k c9) := Lib.cell?_alloc_some _ cB2
      refine wpAnyH_ready (rs := [4, 5]) (by kernel_rfl) (by simp) ?_
      refine AllReadyH.cons rfl (fun K hK => ?oa1) (AllReadyH.cons rfl (fun K hK => ?ob1) AllReadyH.nil)
      case oa1 =>
        go_simp
        refine hK.out _ _ trivial (fun hHeld => ?_)
        clear hK K
        try simp [Act.put]
        refine wpAnyH_ready (rs := [5]) (by kernel_rfl) (by simp) ?_
        refine AllReadyH.cons rfl (fun K hK => ?_) AllReadyH.nil
        go_simp
        refine hK.out _ _ trivial (fun hHeld => ?_)
        clear hK K
        try simp [Act.put]
        refine wpAnyH_take (i := 6) (v := ?v5) rfl (by kernel_rfl) (by kernel_rfl) (by kernel_rfl) (fun _ _ _ h => h) (Or.inl ⟨by rfl, ?hy5⟩) hHeld ?rest5
        case hy5 => (intro w' hSw; go_simp; try with_reducible rfl)
        try simp [Act.put]
        refine wpAnyH_ready (rs := [7]) (by kernel_rfl) (by simp) ?_
        refine AllReadyH.cons rfl (fun K hK => ?_) AllReadyH.nil
        go_simp
        refine hK.out _ _ trivial (fun hHeld => ?_)
        clear hK K
        try simp [Act.put]
        refine wpAnyH_ready (rs := [8]) (by kernel_rfl) (by simp) ?_
        refine AllReadyH.cons rfl (fun K hK => ?_) AllReadyH.nil
        go_simp
        refine hK.out _ _ trivial (fun hHeld => ?_)
        clear hK K
        try simp [Act.put]
        refine wpAnyH_ready (rs := [9]) (by kernel_rfl) (by simp) ?_
        refine AllReadyH.cons rfl (fun K hK => ?_) AllReadyH.nil
        rw [if_pos (by simp [Region.wanted])]
        have hW3 : Below wr.heap.size wr (((wr.alloc (.cells Z 9)).alloc (.cells #[.slice (some ⟨wr.heap.size, 0, none⟩) 112 112, .slice none 0 0, .bool false] 61)).alloc (.cells #[.pointer (some ⟨wr.heap.size + 1, 0, none⟩)] 57)).drew := ((((Below.refl _ _).alloc (Nat.le_refl _) _).alloc (by rw [World.size_alloc]; omega) _).alloc (by rw [World.size_alloc, World.size_alloc]; omega) _).drew
        have hs3 : (((wr.alloc (.cells Z 9)).alloc (.cells #[.slice (some ⟨wr.heap.size, 0, none⟩) 112 112, .slice none 0 0, .bool false] 61)).alloc (.cells #[.pointer (some ⟨wr.heap.size + 1, 0, none⟩)] 57)).drew.heap.size = wr.heap.size + 3 := by show (((wr.alloc (.cells Z 9)).alloc (.cells #[.slice (some ⟨wr.heap.size, 0, none⟩) 112 112, .slice none 0 0, .bool false] 61)).alloc (.cells #[.pointer (some ⟨wr.heap.size + 1, 0, none⟩)] 57)).heap.size = _; rw [World.size_alloc, World.size_alloc, World.size_alloc]
        have hcn : ∀ j u, [Value.pointer (some ⟨wr.heap.size + 1, 0, none⟩)][j]? = some u → (((wr.alloc (.cells Z 9)).alloc (.cells #[.slice (some ⟨wr.heap.size, 0, none⟩) 112 112, .slice none 0 0, .bool false] 61)).alloc (.cells #[.pointer (some ⟨wr.heap.size + 1, 0, none⟩)] 57)).drew.cell? ((⟨wr.heap.size + 2, 0, none⟩ : Addr).add j) = some u := by
          have h9 := cell_one_new ((wr.alloc (.cells Z 9)).alloc (.cells #[.slice (some ⟨wr.heap.size, 0, none⟩) 112 112, .slice none 0 0, .bool false] 61)) (.pointer (some ⟨wr.heap.size + 1, 0, none⟩)) 57
          rw [World.size_alloc, World.size_alloc] at h9
          exact h9
        refine wp_append_at (.tmp 13) (.tmp 17) 54 rfl 57 i0 (.pointer none) 1 8 Try.underlying54 HI.out HI0.out HI1.out HI2.out rfl (by decide) (.slice a9 k c9) k (ptV R k) (by simp [Act.eval]) (row_keep HROW.out fun g hg => hW3.block g (row_lt HROW.out hg)) ⟨wr.heap.size + 2, 0, none⟩ 1 1 [.pointer (some ⟨wr.heap.size + 1, 0, none⟩)] (by simp [Act.eval]) rfl hcn (by simp [Value.oneCell']) (by unfold maxLen; omega) (by omega) ?_
        intro v' w4 hown hgr hat
        have HN := hide (HC.out.step hW3 hs3 (HZ.out wr) hown hgr hat)
        obtain ⟨b9, d9, hv8⟩ := row_form hown
        subst hv8
        have hpb : w4.heap[rb]? = wr.heap[rb]? := (hgr.block rb (by omega) (fun e' => HVB.out rb e'.symm rfl)).trans (hW3.block rb hrbl)
        have hcc : w4.cell? ⟨rb, 0, none⟩ = some (.slice a9 k c9) := (World.cell?_of_block (w := wr) (a := ⟨rb, 0, none⟩) hpb).trans cB
        have hff : w4.frozen? ⟨rb, 0, none⟩ = false := (World.frozen?_of_block (w := wr) (a := ⟨rb, 0, none⟩) hpb).trans (HFB.out 0)
        clear hown hgr hat hpb hW3 hs3 hcn
        refine hK.out _ _ trivial (fun hHeld => ?_)
        clear hK K
        try simp [Act.put]
        refine wpAnyH_take (i := 10) (v := ?v6) rfl (by kernel_rfl) (by kernel_rfl) (by kernel_rfl) (fun _ _ _ h => h) (Or.inl ⟨by rfl, ?hy6⟩) hHeld ?rest6
        case hy6 => (intro w' hSw; go_simp; try with_reducible rfl)
        try simp [Act.put]
        refine wpAnyH_take (i := 11) (v := ?v7) rfl (by kernel_rfl) (by kernel_rfl) (by kernel_rfl) (fun _ _ _ h => h) (Or.inl ⟨by rfl, ?hy7⟩) hHeld ?rest7
        case hy7 => (intro w' hSw; go_simp; try with_reducible rfl)
        try simp [Act.put]
        refine wpAnyH_ready (rs := [12]) (by kernel_rfl) (by simp) ?_
        refine AllReadyH.cons rfl (fun K hK => ?_) AllReadyH.nil
        go_simp
        refine hK.out _ _ trivial (fun hHeld => ?_)
        clear hK K
        try simp [Act.put]
        refine wpAnyH_done (by kernel_rfl) (NoPanic.normal ?_) _
        generalize w4.setCell ⟨rb, 0, none⟩ (.slice b9 (k + 1) d9) = W4 at *
        clear hcc hff hHeld
        go_wp2_with fail
        exact ⟨⟨k + 1, by omega, by go_num, _, _, HN.out⟩, by simp [intOf]; omega⟩
      case ob1 =>
        go_simp
        refine hK.out _ _ trivial (fun hHeld => ?_)
        clear hK K
        try simp [Act.put]
        refine wpAnyH_take (i := 6) (v := ?v8) rfl (by kernel_rfl) (by kernel_rfl) (by kernel_rfl) (fun _ _ _ h => h) (Or.inl ⟨by rfl, ?hy8⟩) hHeld ?rest8
        case hy8 => (intro w' hSw; go_simp; try with_reducible rfl)
        try simp [Act.put]
        refine wpAnyH_ready (rs := [4, 7]) (by kernel_rfl) (by simp) ?_
        refine AllReadyH.cons rfl (fun K hK => ?oa2) (AllReadyH.cons rfl (fun K hK => ?ob2) AllReadyH.nil)
        case oa2 =>
          go_simp
          refine hK.out _ _ trivial (fun hHeld => ?_)
          clear hK K
          try simp [Act.put]
          refine wpAnyH_ready (rs := [7]) (by kernel_rfl) (by simp) ?_
          refine AllReadyH.cons rfl (fun K hK => ?_) AllReadyH.nil
          go_simp
          refine hK.out _ _ trivial (fun hHeld => ?_)
          clear hK K
          try simp [Act.put]
          refine wpAnyH_ready (rs := [8]) (by kernel_rfl) (by simp) ?_
          refine AllReadyH.cons rfl (fun K hK => ?_) AllReadyH.nil
          go_simp
          refine hK.out _ _ trivial (fun hHeld => ?_)
          clear hK K
          try simp [Act.put]
          refine wpAnyH_ready (rs := [9]) (by kernel_rfl) (by simp) ?_
          refine AllReadyH.cons rfl (fun K hK => ?_) AllReadyH.nil
          rw [if_pos (by simp [Region.wanted])]
          have hW3 : Below wr.heap.size wr (((wr.alloc (.cells Z 9)).alloc (.cells #[.slice (some ⟨wr.heap.size, 0, none⟩) 112 112, .slice none 0 0, .bool false] 61)).alloc (.cells #[.pointer (some ⟨wr.heap.size + 1, 0, none⟩)] 57)).drew := ((((Below.refl _ _).alloc (Nat.le_refl _) _).alloc (by rw [World.size_alloc]; omega) _).alloc (by rw [World.size_alloc, World.size_alloc]; omega) _).drew
          have hs3 : (((wr.alloc (.cells Z 9)).alloc (.cells #[.slice (some ⟨wr.heap.size, 0, none⟩) 112 112, .slice none 0 0, .bool false] 61)).alloc (.cells #[.pointer (some ⟨wr.heap.size + 1, 0, none⟩)] 57)).drew.heap.size = wr.heap.size + 3 := by show (((wr.alloc (.cells Z 9)).alloc (.cells #[.slice (some ⟨wr.heap.size, 0, none⟩) 112 112, .slice none 0 0, .bool false] 61)).alloc (.cells #[.pointer (some ⟨wr.heap.size + 1, 0, none⟩)] 57)).heap.size = _; rw [World.size_alloc, World.size_alloc, World.size_alloc]
          have hcn : ∀ j u, [Value.pointer (some ⟨wr.heap.size + 1, 0, none⟩)][j]? = some u → (((wr.alloc (.cells Z 9)).alloc (.cells #[.slice (some ⟨wr.heap.size, 0, none⟩) 112 112, .slice none 0 0, .bool false] 61)).alloc (.cells #[.pointer (some ⟨wr.heap.size + 1, 0, none⟩)] 57)).drew.cell? ((⟨wr.heap.size + 2, 0, none⟩ : Addr).add j) = some u := by
            have h9 := cell_one_new ((wr.alloc (.cells Z 9)).alloc (.cells #[.slice (some ⟨wr.heap.size, 0, none⟩) 112 112, .slice none 0 0, .bool false] 61)) (.pointer (some ⟨wr.heap.size + 1, 0, none⟩)) 57
            rw [World.size_alloc, World.size_alloc] at h9
            exact h9
          refine wp_append_at (.tmp 13) (.tmp 17) 54 rfl 57 i0 (.pointer none) 1 8 Try.underlying54 HI.out HI0.out HI1.out HI2.out rfl (by decide) (.slice a9 k c9) k (ptV R k) (by simp [Act.eval]) (row_keep HROW.out fun g hg => hW3.block g (row_lt HROW.out hg)) ⟨wr.heap.size + 2, 0, none⟩ 1 1 [.pointer (some ⟨wr.heap.size + 1, 0, none⟩)] (by simp [Act.eval]) rfl hcn (by simp [Value.oneCell']) (by unfold maxLen; omega) (by omega) ?_
          intro v' w4 hown hgr hat
          have HN := hide (HC.out.step hW3 hs3 (HZ.out wr) hown hgr hat)
          obtain ⟨b9, d9, hv8⟩ := row_form hown
          subst hv8
          have hpb : w4.heap[rb]? = wr.heap[rb]? := (hgr.block rb (by omega) (fun e' => HVB.out rb e'.symm rfl)).trans (hW3.block rb hrbl)
          have hcc : w4.cell? ⟨rb, 0, none⟩ = some (.slice a9 k c9) := (World.cell?_of_block (w := wr) (a := ⟨rb, 0, none⟩) hpb).trans cB
          have hff : w4.frozen? ⟨rb, 0, none⟩ = false := (World.frozen?_of_block (w := wr) (a := ⟨rb, 0, none⟩) hpb).trans (HFB.out 0)
          clear hown hgr hat hpb hW3 hs3 hcn
          refine hK.out _ _ trivial (fun hHeld => ?_)
          clear hK K
          try simp [Act.put]
          refine wpAnyH_take (i := 10) (v := ?v9) rfl (by kernel_rfl) (by kernel_rfl) (by kernel_rfl) (fun _ _ _ h => h) (Or.inl ⟨by rfl, ?hy9⟩) hHeld ?rest9
          case hy9 => (intro w' hSw; go_simp; try with_reducible rfl)
          try simp [Act.put]
          refine wpAnyH_take (i := 11) (v := ?v10) rfl (by kernel_rfl) (by kernel_rfl) (by kernel_rfl) (fun _ _ _ h => h) (Or.inl ⟨by rfl, ?hy10⟩) hHeld ?rest10
          case hy10 => (intro w' hSw; go_simp; try with_reducible rfl)
          try simp [Act.put]
          refine wpAnyH_ready (rs := [12]) (by kernel_rfl) (by simp) ?_
          refine AllReadyH.cons rfl (fun K hK => ?_) AllReadyH.nil
          go_simp
          refine hK.out _ _ trivial (fun hHeld => ?_)
          clear hK K
          try simp [Act.put]
          refine wpAnyH_done (by kernel_rfl) (NoPanic.normal ?_) _
          generalize w4.setCell ⟨rb, 0, none⟩ (.slice b9 (k + 1) d9) = W4 at *
          clear hcc hff hHeld
          go_wp2_with fail
          exact ⟨⟨k + 1, by omega, by go_num, _, _, HN.out⟩, by simp [intOf]; omega⟩
        case ob2 =>
          go_simp
          refine hK.out _ _ trivial (fun hHeld => ?_)
          clear hK K
          try simp [Act.put]
          refine wpAnyH_ready (rs := [4, 8]) (by kernel_rfl) (by simp) ?_
          refine AllReadyH.cons rfl (fun K hK => ?oa3) (AllReadyH.cons rfl (fun K hK => ?ob3) AllReadyH.nil)
          case oa3 =>
            go_simp
            refine hK.out _ _ trivial (fun hHeld => ?_)
            clear hK K
            try simp [Act.put]
            refine wpAnyH_ready (rs := [8]) (by kernel_rfl) (by simp) ?_
            refine AllReadyH.cons rfl (fun K hK => ?_) AllReadyH.nil
            go_simp
            refine hK.out _ _ trivial (fun hHeld => ?_)
            clear hK K
            try simp [Act.put]
            refine wpAnyH_ready (rs := [9]) (by kernel_rfl) (by simp) ?_
            refine AllReadyH.cons rfl (fun K hK => ?_) AllReadyH.nil
            rw [if_pos (by simp [Region.wanted])]
            have hW3 : Below wr.heap.size wr (((wr.alloc (.cells Z 9)).alloc (.cells #[.slice (some ⟨wr.heap.size, 0, none⟩) 112 112, .slice none 0 0, .bool false] 61)).alloc (.cells #[.pointer (some ⟨wr.heap.size + 1, 0, none⟩)] 57)).drew := ((((Below.refl _ _).alloc (Nat.le_refl _) _).alloc (by rw [World.size_alloc]; omega) _).alloc (by rw [World.size_alloc, World.size_alloc]; omega) _).drew
            have hs3 : (((wr.alloc (.cells Z 9)).alloc (.cells #[.slice (some ⟨wr.heap.size, 0, none⟩) 112 112, .slice none 0 0, .bool false] 61)).alloc (.cells #[.pointer (some ⟨wr.heap.size + 1, 0, none⟩)] 57)).drew.heap.size = wr.heap.size + 3 := by show (((wr.alloc (.cells Z 9)).alloc (.cells #[.slice (some ⟨wr.heap.size, 0, none⟩) 112 112, .slice none 0 0, .bool false] 61)).alloc (.cells #[.pointer (some ⟨wr.heap.size + 1, 0, none⟩)] 57)).heap.size = _; rw [World.size_alloc, World.size_alloc, World.size_alloc]
            have hcn : ∀ j u, [Value.pointer (some ⟨wr.heap.size + 1, 0, none⟩)][j]? = some u → (((wr.alloc (.cells Z 9)).alloc (.cells #[.slice (some ⟨wr.heap.size, 0, none⟩) 112 112, .slice none 0 0, .bool false] 61)).alloc (.cells #[.pointer (some ⟨wr.heap.size + 1, 0, none⟩)] 57)).drew.cell? ((⟨wr.heap.size + 2, 0, none⟩ : Addr).add j) = some u := by
              have h9 := cell_one_new ((wr.alloc (.cells Z 9)).alloc (.cells #[.slice (some ⟨wr.heap.size, 0, none⟩) 112 112, .slice none 0 0, .bool false] 61)) (.pointer (some ⟨wr.heap.size + 1, 0, none⟩)) 57
              rw [World.size_alloc, World.size_alloc] at h9
              exact h9
            refine wp_append_at (.tmp 13) (.tmp 17) 54 rfl 57 i0 (.pointer none) 1 8 Try.underlying54 HI.out HI0.out HI1.out HI2.out rfl (by decide) (.slice a9 k c9) k (ptV R k) (by simp [Act.eval]) (row_keep HROW.out fun g hg => hW3.block g (row_lt HROW.out hg)) ⟨wr.heap.size + 2, 0, none⟩ 1 1 [.pointer (some ⟨wr.heap.size + 1, 0, none⟩)] (by simp [Act.eval]) rfl hcn (by simp [Value.oneCell']) (by unfold maxLen; omega) (by omega) ?_
            intro v' w4 hown hgr hat
            have HN := hide (HC.out.step hW3 hs3 (HZ.out wr) hown hgr hat)
            obtain ⟨b9, d9, hv8⟩ := row_form hown
            subst hv8
            have hpb : w4.heap[rb]? = wr.heap[rb]? := (hgr.block rb (by omega) (fun e' => HVB.out rb e'.symm rfl)).trans (hW3.block rb hrbl)
            have hcc : w4.cell? ⟨rb, 0, none⟩ = some (.slice a9 k c9) := (World.cell?_of_block (w := wr) (a := ⟨rb, 0, none⟩) hpb).trans cB
            have hff : w4.frozen? ⟨rb, 0, none⟩ = false := (World.frozen?_of_block (w := wr) (a := ⟨rb, 0, none⟩) hpb).trans (HFB.out 0)
            clear hown hgr hat hpb hW3 hs3 hcn
            refine hK.out _ _ trivial (fun hHeld => ?_)
            clear hK K
            try simp [Act.put]
            refine wpAnyH_take (i := 10) (v := ?v11) rfl (by kernel_rfl) (by kernel_rfl) (by kernel_rfl) (fun _ _ _ h => h) (Or.inl ⟨by rfl, ?hy11⟩) hHeld ?rest11
            case hy11 => (intro w' hSw; go_simp; try with_reducible rfl)
            try simp [Act.put]
            refine wpAnyH_take (i := 11) (v := ?v12) rfl (by kernel_rfl) (by kernel_rfl) (by kernel_rfl) (fun _ _ _ h => h) (Or.inl ⟨by rfl, ?hy12⟩) hHeld ?rest12
            case hy12 => (intro w' hSw; go_simp; try with_reducible rfl)
            try simp [Act.put]
            refine wpAnyH_ready (rs := [12]) (by kernel_rfl) (by simp) ?_
            refine AllReadyH.cons rfl (fun K hK => ?_) AllReadyH.nil
            go_simp
            refine hK.out _ _ trivial (fun hHeld => ?_)
            clear hK K
            try simp [Act.put]
            refine wpAnyH_done (by kernel_rfl) (NoPanic.normal ?_) _
            generalize w4.setCell ⟨rb, 0, none⟩ (.slice b9 (k + 1) d9) = W4 at *
            clear hcc hff hHeld
            go_wp2_with fail
            exact ⟨⟨k + 1, by omega, by go_num, _, _, HN.out⟩, by simp [intOf]; omega⟩
          case ob3 =>
            go_simp
            refine hK.out _ _ trivial (fun hHeld => ?_)
            clear hK K
            try simp [Act.put]
            refine wpAnyH_ready (rs := [4]) (by kernel_rfl) (by simp) ?_
            refine AllReadyH.cons rfl (fun K hK => ?_) AllReadyH.nil
            go_simp
            refine hK.out _ _ trivial (fun hHeld => ?_)
            clear hK K
            try simp [Act.put]
            refine wpAnyH_ready (rs := [9]) (by kernel_rfl) (by simp) ?_
            refine AllReadyH.cons rfl (fun K hK => ?_) AllReadyH.nil
            rw [if_pos (by simp [Region.wanted])]
            have hW3 : Below wr.heap.size wr (((wr.alloc (.cells Z 9)).alloc (.cells #[.slice (some ⟨wr.heap.size, 0, none⟩) 112 112, .slice none 0 0, .bool false] 61)).alloc (.cells #[.pointer (some ⟨wr.heap.size + 1, 0, none⟩)] 57)).drew := ((((Below.refl _ _).alloc (Nat.le_refl _) _).alloc (by rw [World.size_alloc]; omega) _).alloc (by rw [World.size_alloc, World.size_alloc]; omega) _).drew
            have hs3 : (((wr.alloc (.cells Z 9)).alloc (.cells #[.slice (some ⟨wr.heap.size, 0, none⟩) 112 112, .slice none 0 0, .bool false] 61)).alloc (.cells #[.pointer (some ⟨wr.heap.size + 1, 0, none⟩)] 57)).drew.heap.size = wr.heap.size + 3 := by show (((wr.alloc (.cells Z 9)).alloc (.cells #[.slice (some ⟨wr.heap.size, 0, none⟩) 112 112, .slice none 0 0, .bool false] 61)).alloc (.cells #[.pointer (some ⟨wr.heap.size + 1, 0, none⟩)] 57)).heap.size = _; rw [World.size_alloc, World.size_alloc, World.size_alloc]
            have hcn : ∀ j u, [Value.pointer (some ⟨wr.heap.size + 1, 0, none⟩)][j]? = some u → (((wr.alloc (.cells Z 9)).alloc (.cells #[.slice (some ⟨wr.heap.size, 0, none⟩) 112 112, .slice none 0 0, .bool false] 61)).alloc (.cells #[.pointer (some ⟨wr.heap.size + 1, 0, none⟩)] 57)).drew.cell? ((⟨wr.heap.size + 2, 0, none⟩ : Addr).add j) = some u := by
              have h9 := cell_one_new ((wr.alloc (.cells Z 9)).alloc (.cells #[.slice (some ⟨wr.heap.size, 0, none⟩) 112 112, .slice none 0 0, .bool false] 61)) (.pointer (some ⟨wr.heap.size + 1, 0, none⟩)) 57
              rw [World.size_alloc, World.size_alloc] at h9
              exact h9
            refine wp_append_at (.tmp 13) (.tmp 17) 54 rfl 57 i0 (.pointer none) 1 8 Try.underlying54 HI.out HI0.out HI1.out HI2.out rfl (by decide) (.slice a9 k c9) k (ptV R k) (by simp [Act.eval]) (row_keep HROW.out fun g hg => hW3.block g (row_lt HROW.out hg)) ⟨wr.heap.size + 2, 0, none⟩ 1 1 [.pointer (some ⟨wr.heap.size + 1, 0, none⟩)] (by simp [Act.eval]) rfl hcn (by simp [Value.oneCell']) (by unfold maxLen; omega) (by omega) ?_
            intro v' w4 hown hgr hat
            have HN := hide (HC.out.step hW3 hs3 (HZ.out wr) hown hgr hat)
            obtain ⟨b9, d9, hv8⟩ := row_form hown
            subst hv8
            have hpb : w4.heap[rb]? = wr.heap[rb]? := (hgr.block rb (by omega) (fun e' => HVB.out rb e'.symm rfl)).trans (hW3.block rb hrbl)
            have hcc : w4.cell? ⟨rb, 0, none⟩ = some (.slice a9 k c9) := (World.cell?_of_block (w := wr) (a := ⟨rb, 0, none⟩) hpb).trans cB
            have hff : w4.frozen? ⟨rb, 0, none⟩ = false := (World.frozen?_of_block (w := wr) (a := ⟨rb, 0, none⟩) hpb).trans (HFB.out 0)
            clear hown hgr hat hpb hW3 hs3 hcn
            refine hK.out _ _ trivial (fun hHeld => ?_)
            clear hK K
            try simp [Act.put]
            refine wpAnyH_take (i := 10) (v := ?v13) rfl (by kernel_rfl) (by kernel_rfl) (by kernel_rfl) (fun _ _ _ h => h) (Or.inl ⟨by rfl, ?hy13⟩) hHeld ?rest13
            case hy13 => (intro w' hSw; go_simp; try with_reducible rfl)
            try simp [Act.put]
            refine wpAnyH_take (i := 11) (v := ?v14) rfl (by kernel_rfl) (by kernel_rfl) (by kernel_rfl) (fun _ _ _ h => h) (Or.inl ⟨by rfl, ?hy14⟩) hHeld ?rest14
            case hy14 => (intro w' hSw; go_simp; try with_reducible rfl)
            try simp [Act.put]
            refine wpAnyH_ready (rs := [12]) (by kernel_rfl) (by simp) ?_
            refine AllReadyH.cons rfl (fun K hK => ?_) AllReadyH.nil
            go_simp
            refine hK.out _ _ trivial (fun hHeld => ?_)
            clear hK K
            try simp [Act.put]
            refine wpAnyH_done (by kernel_rfl) (NoPanic.normal ?_) _
            generalize w4.setCell ⟨rb, 0, none⟩ (.slice b9 (k + 1) d9) = W4 at *
            clear hcc hff hHeld
            go_wp2_with fail
            exact ⟨⟨k + 1, by omega, by go_num, _, _, HN.out⟩, by simp [intOf]; omega⟩
    · have hd1 : decide ((k : Int) < 12) = false := by simp; omega
      have hk12 : k = 12 := by omega
      subst hk12
      clear hM
      go_wp2_with fail
      try go_ret
      exact ⟨_, _, _, rfl, HC.out⟩
end Go.Proofs.Ytnpioaidbmllkaa
