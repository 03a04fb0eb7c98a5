/- What Copy of the disks answers. -/
import Derived.Test.YtnpioaidbmllkaaDkCopy
import Derived.Deep.RegionHeld3
namespace Go.Proofs.Ytnpioaidbmllkaa
open Go.RowKit
set_option linter.unusedVariables false
/-- disks of which the first k are like others, and the rest empty -/
def Like (D E : Nat → Dk) (k : Nat) : Prop := ∀ e, e < k → (E e).lost = (D e).lost ∧ (E e).sec = (D e).sec ∧ (E e).ws = (D e).ws
theorem Like.step {D E : Nat → Dk} {k : Nat} (h : Like D E k) (v : Value) : Like D (upd E k ⟨(D k).lost, (D k).sec, v, (D k).ws⟩) (k + 1) := fun e he => by
  by_cases c : e = k
  · subst c; rw [upd_at]; exact ⟨rfl, rfl, rfl⟩
  · rw [upd_ne c]; exact h e (by omega)
structure CpMid (w wr : World) (b : Nat) (D : Nat → Dk) (k : Nat) (E : Nat → Dk) : Prop where
  old : Bk wr b D
  new : Bk wr w.heap.size E
  like : Like D E k
  foot : ∀ i, Foot w.heap.size E i → w.heap.size ≤ i
  below : Below w.heap.size w wr
theorem CpMid.step {w wr w1 : World} {b k : Nat} {D E : Nat → Dk} {v : Value} (h : CpMid w wr b D k E) (hbw : b < w.heap.size) (hf : ∀ i, Foot b D i → i < w.heap.size) (hk : k < 12) (hb : Below wr.heap.size wr w1) (hr : w1.ownsRow wr.heap.size 72 2 v (D k).ws.length (wtV (D k).ws)) :
    CpMid w (w1.setCells w.heap.size (k * 114) (fnC 114 (dkV ⟨(D k).lost, (D k).sec, v, (D k).ws⟩)).toList) b D (k + 1) (upd E k ⟨(D k).lost, (D k).sec, v, (D k).ws⟩) := by
  have hsz := h.below.size
  have hcl := h.new.mem.lt
  have hl : (fnC 114 (dkV ⟨(D k).lost, (D k).sec, v, (D k).ws⟩)).toList.length = 114 := by rw [Array.length_toList, fnC_size]
  have hgl : ∀ g, v.ownBlock = some g → wr.heap.size ≤ g := fun g hg => row_low hr hg
  obtain ⟨h1, h2, h3⟩ := same_setCells w.heap.size (fnC 114 (dkV ⟨(D k).lost, (D k).sec, v, (D k).ws⟩)).toList (k * 114) w1
  have hbk := h.new.change (w' := w1.setCells w.heap.size (k * 114) (fnC 114 (dkV ⟨(D k).lost, (D k).sec, v, (D k).ws⟩)).toList) hk ⟨(D k).lost, (D k).sec, v, (D k).ws⟩
    ((FnAt.setCells _ _ (h.new.below hb).mem).congr fun q hq => by
      rw [hl, bkV_upd]
      by_cases c : k * 114 ≤ q ∧ q < k * 114 + 114
      · rw [if_pos c, if_pos (by omega), fnC_getD (by omega), show q - k * 114 = q % 114 by omega]
      · rw [if_neg c, if_neg (by omega)])
    (row_weak (row_keep hr fun g hg => heap_setCells (by have := hgl g hg; omega) _ _ _) (Nat.zero_le _))
    (by cases hv : v.ownBlock with
        | none => exact .inl rfl
        | some g => exact .inr (.inr ⟨g, rfl, hgl g hv⟩))
    (fun i hi hne _ => (heap_setCells hne _ _ _).trans (hb.block i hi)) (h.old.secs k hk) (h1.trans hb.os) (h2.trans hb.tape) (h3.trans hb.output) (by rw [size_setCells]; exact hb.size) hk
  refine ⟨(h.old.below hb).keep fun i hi => heap_setCells (by have := hf i hi; omega) _ _ _, hbk.1, h.like.step v, fun i hi => ?_, ?_⟩
  · rcases hbk.2.foot i hi with hx | hx
    · exact h.foot i hx
    · omega
  · exact ⟨(h1.trans hb.os).trans h.below.os, (h2.trans hb.tape).trans h.below.tape, (h3.trans hb.output).trans h.below.output, by rw [size_setCells]; exact Nat.le_trans hsz hb.size, fun i hi => (heap_setCells (by omega) _ _ _).trans ((hb.block i (by omega)).trans (h.below.block i hi))⟩
set_option maxRecDepth 100000 in
set_option maxHeartbeats 2000000 in
theorem copy_nil (w : World) : Calls Try.prog 21 #[.pointer none] w fun e w' => e = .returned (.pointer none) ∧ w = w' := by
  go_enter Try.func21, Try.ntmps21
  go_wp2_with fail
  try go_ret
  exact ⟨rfl, rfl⟩
set_option maxRecDepth 100000 in
set_option maxHeartbeats 2000000 in
theorem copy_any (b : Nat) (D : Nat → Dk) (w : World) (h : Bk w b D) (hn : ∀ d, d < 12 → (D d).ws.length < 1000000) :
    Calls Try.prog 21 #[.pointer (some ⟨b, 0, none⟩)] w fun e w' => e = .returned (.pointer (some ⟨w.heap.size, 0, none⟩)) ∧ ∃ E, CpMid w w' b D 12 E := by
  have H := hide h
  have HF : Hid (∀ i, Foot b D i → i < w.heap.size) := fun i hi => h.lt hi
  have hbw := h.mem.lt
  have HN := hide hn
  clear h hn
  go_enter Try.func21, Try.ntmps21
  go_wp2_with fail
  refine (new_any w).mono ?_
  rintro e w1 ⟨c, rfl, hc, hB1, hb1⟩
  subst hc
  have foot0 : ∀ i, Foot w.heap.size (fun _ => dk0) i → w.heap.size ≤ i := by
    intro i hi
    rcases hi with hx | ⟨d, _, hx⟩
    · omega
    · cases hx
  have HM : Hid (CpMid w w1 b D 0 fun _ => dk0) := ⟨H.out.below hb1, hB1, fun e he => by omega, foot0, hb1⟩
  clear hB1 hb1 foot0
  go_wp2_with fail
  go_loopw [8] (fun y wr => ∃ k : Nat, k ≤ 12 ∧ y = .int .i64 k ∧ ∃ E, CpMid w wr b D k E) (fun y _ => 12 - (intOf y).toNat)
  case atStart => exact ⟨0, by omega, rfl, _, HM.out⟩
  case round =>
    obtain ⟨k, hk, rfl, E, hM⟩ := hrel
    have HC := hide hM
    clear hM HM
    by_cases hlt : k < 12
    · have hd1 : decide ((k : Int) < 12) = true := by simp; omega
      have hdi : (k : Int) < 12 := by omega
      have hni : (0 : Int) ≤ (k : Int) := by omega
      go_wp2_with fail
      refine wp_region_noPanic ?_
      refine wp_region_held_drew (S := fun _ => True) (by kernel_rfl) trivial (fun hHeld => ?_)
      refine wpAnyH_take (i := 0) (v := ?v1) rfl (by kernel_rfl) (by kernel_rfl) (by kernel_rfl) (fun _ _ _ h => h) (Or.inl ⟨by rfl, ?hy1⟩) hHeld ?rest1
      case hy1 => (intro w' hSw; go_simp; try with_reducible rfl)
      try simp [Act.put]
      refine wpAnyH_take (i := 1) (v := ?v2) rfl (by kernel_rfl) (by kernel_rfl) (by kernel_rfl) (fun _ _ _ h => h) (Or.inl ⟨by rfl, ?hy2⟩) hHeld ?rest2
      case hy2 => (intro w' hSw; go_simp; try with_reducible rfl)
      try simp [Act.put]
      refine wpAnyH_take (i := 2) (v := ?v3) rfl (by kernel_rfl) (by kernel_rfl) (by kernel_rfl) (fun _ _ _ h => h) (Or.inl ⟨by rfl, ?hy3⟩) hHeld ?rest3
      case hy3 => (intro w' hSw; go_simp; try with_reducible rfl)
      try simp [Act.put]
      refine wpAnyH_take (i := 3) (v := ?v4) rfl (by kernel_rfl) (by kernel_rfl) (by kernel_rfl) (fun _ _ _ h => h) (Or.inl ⟨by rfl, ?hy4⟩) hHeld ?rest4
      case hy4 => (intro w' hSw; go_simp; try with_reducible rfl)
      try simp [Act.put]
      refine wpAnyH_take (i := 4) (v := ?v5) rfl (by kernel_rfl) (by kernel_rfl) (by kernel_rfl) (fun _ _ _ h => h) (Or.inl ⟨by rfl, ?hy5⟩) hHeld ?rest5
      case hy5 => (intro w' hSw; go_simp; try with_reducible rfl)
      try simp [Act.put]
      refine wpAnyH_take (i := 5) (v := ?v6) rfl (by kernel_rfl) (by kernel_rfl) (by kernel_rfl) (fun _ _ _ h => h) (Or.inl ⟨by rfl, ?hy6⟩) hHeld ?rest6
      case hy6 => (intro w' hSw; go_simp; try with_reducible rfl)
      try simp [Act.put]
      refine wpAnyH_take (i := 6) (v := ?v7) rfl (by kernel_rfl) (by kernel_rfl) (by kernel_rfl) (fun _ _ _ h => h) (Or.inl ⟨by rfl, ?hy7⟩) hHeld ?rest7
      case hy7 => (intro w' hSw; go_simp; try with_reducible rfl)
      try simp [Act.put]
      refine wpAnyH_take (i := 8) (v := ?v8) rfl (by kernel_rfl) (by kernel_rfl) (by kernel_rfl) (fun _ _ _ h => h) (Or.inl ⟨by rfl, ?hy8⟩) hHeld ?rest8
      case hy8 => (intro w' hSw; go_simp; try with_reducible rfl)
      try simp [Act.put]
      refine wpAnyH_take (i := 9) (v := ?v9) rfl (by kernel_rfl) (by kernel_rfl) (by kernel_rfl) (fun _ _ _ h => h) (Or.inl ⟨by rfl, ?hy9⟩) hHeld ?rest9
      case hy9 => (intro w' hSw; go_simp; try with_reducible rfl)
      try simp [Act.put]
      refine wpAnyH_ready (rs := [7]) (by kernel_rfl) (by simp) ?_
      refine AllReadyH.cons rfl (fun K hK => ?_) AllReadyH.nil
      go_simp
      have hbD := (Below.refl wr.heap.size wr).drew
      refine (copied_any b k D _ (HC.out.old.below hbD) hlt (HN.out k hlt)).mono ?_
      rintro e w2 ⟨v', rfl, hrow, hb2⟩
      have HB2 : Hid (Below wr.heap.size wr w2) := hbD.trans hb2
      have HRW : Hid (w2.ownsRow wr.heap.size 72 2 v' (D k).ws.length (wtV (D k).ws)) := hrow
      have HO := hide (dkV_one ⟨(D k).lost, (D k).sec, v', (D k).ws⟩ (row_one hrow))
      clear hrow hb2 hbD
      have HSI := hide (disk_size' ⟨(D k).lost, (D k).sec, v', (D k).ws⟩)
      have hcs : (fnC 114 (dkV ⟨(D k).lost, (D k).sec, v', (D k).ws⟩)).size = 114 := fnC_size _ _
      have HS := hide (HC.out.step hbw HF.out hlt HB2.out HRW.out)
      have HT : Hid (w2.there w.heap.size (k * 114) (fnC 114 (dkV ⟨(D k).lost, (D k).sec, v', (D k).ws⟩)).size) := by rw [hcs]; exact (HC.out.new.below HB2.out).there hlt
      generalize fnC 114 (dkV ⟨(D k).lost, (D k).sec, v', (D k).ws⟩) = C at *
      go_simp
      refine hK.out _ _ trivial (fun hHeld => ?_)
      clear hK K
      try simp [Act.put]
      refine wpAnyH_take (i := 10) (v := ?v10) rfl (by kernel_rfl) (by kernel_rfl) (by kernel_rfl) (fun _ _ _ h => h) (Or.inl ⟨by rfl, ?hy10⟩) hHeld ?rest10
      case hy10 => (intro w' hSw; go_simp; try with_reducible rfl)
      try simp [Act.put]
      refine wpAnyH_ready (rs := [11]) (by kernel_rfl) (by simp) ?_
      refine AllReadyH.cons rfl (fun K hK => ?_) AllReadyH.nil
      rw [if_pos (by simp [Region.wanted])]
      refine wp_store_mid 50 (.tmp 21) (.tmp 18) rfl w.heap.size (k * 114) C rfl rfl HT.out HSI.out HO.out ?_
      refine hK.out _ _ trivial (fun hHeld => ?_)
      clear hK K
      try simp [Act.put]
      refine wpAnyH_done (by kernel_rfl) (NoPanic.normal ?_) _
      generalize w2.setCells w.heap.size (k * 114) C.toList = W4 at *
      go_wp2_with fail
      exact ⟨⟨k + 1, by omega, by go_num, _, HS.out⟩, by simp [intOf]; omega⟩
    · have hd1 : decide ((k : Int) < 12) = false := by simp; omega
      have hk12 : k = 12 := by omega
      subst hk12
      go_wp2_with fail
      try go_ret
      exact ⟨rfl, _, HC.out⟩
end Go.Proofs.Ytnpioaidbmllkaa
