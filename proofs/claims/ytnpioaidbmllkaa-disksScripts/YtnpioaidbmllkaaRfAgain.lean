/- What the document's Again answers. -/
import Derived.Test.YtnpioaidbmllkaaRfSpoil
namespace Go.Proofs.Ytnpioaidbmllkaa
open Go.RowKit
set_option linter.unusedVariables false
theorem str_info : (Try.prog.info? 9).map (fun i => (i.zero, i.size, i.bytes)) = some (some (.string ByteArray.empty), 1, 16) := by kernel_rfl
/-- 112 sectors -/
def secs0 : Array Value := fnC 112 fun _ => .string ByteArray.empty
theorem make_secs (w : World) : (Instr.makeSlice 58 (.int .i64 112) (.int .i64 112)).run Try.prog w = .ok (.slice (some ⟨w.heap.size, 0, none⟩) 112 112) (w.alloc (.cells secs0 9)) := by
  obtain ⟨i0, hi, hz0, hz1, hz2⟩ := info_parts str_info
  have h := run_make (P := Try.prog) w 58 9 i0 (.string ByteArray.empty) Try.underlying58 hi hz0 .i64 .i64 112 112 (by omega) (by omega) (by rw [hz2]; omega) (by omega)
  rw [hz1] at h
  rw [h]
  simp only [show Int.toNat 112 = 112 from rfl, Nat.mul_one]
  rw [show (Value.string ByteArray.empty).cells = #[.string ByteArray.empty] from rfl, fnC_made]
  rfl
theorem secs0_size : secs0.size = 112 := fnC_size _ _
/-- an empty disk in new blocks -/
def rNew (g p : Nat) (l : Bool) : Rk := ⟨p, g, .slice none 0 0, ⟨l, fun _ => ByteArray.empty, []⟩⟩
theorem rNew_at (w : World) (l : Bool) : RkAt ((w.alloc (.cells secs0 9)).alloc (.cells #[.slice (some ⟨w.heap.size, 0, none⟩) 112 112, .slice none 0 0, .bool l] 61)) (rNew w.heap.size (w.heap.size + 1) l) := by
  refine ⟨?_, ?_, World.ownsRow_nil _ _ _ _, (fun y hy => by cases hy), (by show w.heap.size + 1 ≠ w.heap.size; omega), (fun e => by cases e), (fun e => by cases e)⟩
  · have := heap_alloc_new (w.alloc (.cells secs0 9)) (.cells #[.slice (some ⟨w.heap.size, 0, none⟩) 112 112, .slice none 0 0, .bool l] 61)
    rw [World.size_alloc] at this
    exact this
  · show FnAt _ w.heap.size _ _ _
    unfold FnAt
    rw [Below.heap_alloc _ _ _ (by rw [World.size_alloc]; omega)]
    exact heap_alloc_new _ _
theorem rNew_f {g p : Nat} {l : Bool} {q : Nat} (h : RkF (rNew g p l) q) : q = p ∨ q = g := by
  rcases h with h | h | h
  · exact .inl h
  · exact .inr h
  · cases h
theorem row1_set {w : World} {base g L c p : Nat} {xs : List Value} (h : w.ownsRow base 57 1 (.slice (some ⟨g, 0, none⟩) L c) L xs) (v : Value) : (w.setCell ⟨g, p, none⟩ v).ownsRow base 57 1 (.slice (some ⟨g, 0, none⟩) L c) L (xs.set p v) := by
  obtain ⟨hl, ⟨h1, h2⟩ | ⟨g', cap, cur, hv, hb, hg, hc, hm, hz, ht⟩⟩ := h
  · cases h1
  · cases hv
    refine ⟨by rw [List.length_set]; exact hl, .inr ⟨g, c, _, rfl, hb, block_setCell _ hg, hc, hm, by rw [Array.size_setIfInBounds]; exact hz, ?_⟩⟩
    rw [← ht, Array.toList_setIfInBounds, take_set]
theorem ptV_set (R : Nat → Rk) {k e : Nat} (he : e < k) (x : Rk) : (ptV R k).set e (.pointer (some ⟨x.p, 0, none⟩)) = ptV (updR R e x) k := by
  apply List.ext_getElem?
  intro j
  rw [List.getElem?_set, ptV_len]
  by_cases hj : j < k
  · rw [ptV_at _ hj, ptV_at _ hj]
    by_cases c : e = j
    · subst c; rw [if_pos rfl, if_pos hj, updR_at]
    · rw [if_neg c, updR_ne fun h => c h.symm]
  · by_cases c : e = j
    · subst c; exact absurd he hj
    · rw [if_neg c, List.getElem?_eq_none (by rw [ptV_len]; omega), List.getElem?_eq_none (by rw [ptV_len]; omega)]
theorem RB.again {w : World} {rb gd cap : Nat} {R : Nat → Rk} (h : RB w rb (.slice (some ⟨gd, 0, none⟩) 12 cap) 12 R) {e : Nat} (he : e < 12) (l : Bool) :
    RB (((w.alloc (.cells secs0 9)).alloc (.cells #[.slice (some ⟨w.heap.size, 0, none⟩) 112 112, .slice none 0 0, .bool l] 61)).setCell ⟨gd, e, none⟩ (.pointer (some ⟨w.heap.size + 1, 0, none⟩))) rb (.slice (some ⟨gd, 0, none⟩) 12 cap) 12 (updR R e (rNew w.heap.size (w.heap.size + 1) l)) ∧
    RStep rb (.slice (some ⟨gd, 0, none⟩) 12 cap) 12 R w (updR R e (rNew w.heap.size (w.heap.size + 1) l)) (((w.alloc (.cells secs0 9)).alloc (.cells #[.slice (some ⟨w.heap.size, 0, none⟩) 112 112, .slice none 0 0, .bool l] 61)).setCell ⟨gd, e, none⟩ (.pointer (some ⟨w.heap.size + 1, 0, none⟩))) := by
  have hgd : gd < w.heap.size := row_lt h.row rfl
  have hb : Below w.heap.size w ((w.alloc (.cells secs0 9)).alloc (.cells #[.slice (some ⟨w.heap.size, 0, none⟩) 112 112, .slice none 0 0, .bool l] 61)) := ((Below.refl _ _).alloc (Nat.le_refl _) _).alloc (by rw [World.size_alloc]; omega) _
  refine h.change he (rNew w.heap.size (w.heap.size + 1) l) ((rNew_at w l).keep fun q hq => Below.heap_setCell _ _ _ _ (by show q ≠ gd; rcases rNew_f hq with e' | e' <;> omega)) ?_ (fun q hq => .inr (by rcases rNew_f hq with e' | e' <;> omega)) (fun q hq hn _ => (Below.heap_setCell _ _ _ _ fun e' => hn (by rw [e']; rfl)).trans (hb.block q hq)) hb.os hb.tape hb.output (by show _ ≤ (Array.modify _ _ _).size; rw [Array.size_modify]; exact hb.size)
  rw [← ptV_set R he]
  exact row1_set (row_keep h.row fun g hg => hb.block g (row_lt h.row hg)) _
set_option maxRecDepth 100000 in
set_option maxHeartbeats 4000000 in
theorem rAgain_any (rb : Nat) (v : Value) (R : Nat → Rk) (C : Nat → Ct) (d : Int) (l : Bool) (w : World) (h : RB w rb v 12 R) (hC : ContR R C) :
    Calls Try.prog 30 #[.pointer (some ⟨rb, 0, none⟩), .int .i64 d, .bool l] w fun e w' => e = .returned (.int .i64 (eKnown d : Nat)) ∧ DidR rb v R w (agC C d l) w' := by
  unfold agC eKnown
  by_cases hz : d < 0 ∨ 11 < d
  · rw [if_pos hz, if_pos hz]
    have HD : Hid (DidR rb v R w C w) := didR_same h hC (Below.refl _ _)
    clear h hC
    have key : d < 0 ∨ (¬ d < 0 ∧ 11 < d) := by omega
    clear hz
    rcases key with h0 | ⟨h0, h1⟩
    all_goals
      go_enter Try.func30, Try.ntmps30
      go_wp2_with fail
      try go_ret
      exact ⟨rfl, HD.out⟩
  · rw [if_neg hz, if_neg hz]
    obtain ⟨k, rfl⟩ : ∃ k : Nat, d = (k : Int) := ⟨d.toNat, by omega⟩
    have hk : k < 12 := by omega
    simp only [Int.toNat_natCast]
    obtain ⟨gd, cap, hv, hc12, hcm, cB, cP, fP⟩ := h.at hk
    subst hv
    have HST := hide (RB.again (w := w.drew) (h.below (drew_below w)) hk l)
    have HS1 : Hid (RB (((w.alloc (.cells secs0 9)).alloc (.cells #[.slice (some ⟨w.heap.size, 0, none⟩) 112 112, .slice none 0 0, .bool l] 61)).drew.setCell ⟨gd, k, none⟩ (.pointer (some ⟨w.heap.size + 1, 0, none⟩))) rb (.slice (some ⟨gd, 0, none⟩) 12 cap) 12 (updR R k (rNew w.heap.size (w.heap.size + 1) l))) := HST.out.1
    have HS2 : Hid (RStep rb (.slice (some ⟨gd, 0, none⟩) 12 cap) 12 R w (updR R k (rNew w.heap.size (w.heap.size + 1) l)) (((w.alloc (.cells secs0 9)).alloc (.cells #[.slice (some ⟨w.heap.size, 0, none⟩) 112 112, .slice none 0 0, .bool l] 61)).drew.setCell ⟨gd, k, none⟩ (.pointer (some ⟨w.heap.size + 1, 0, none⟩)))) := (RStep.of_below (drew_below w)).trans HST.out.2
    have HC := hide (hC.upd k (rNew w.heap.size (w.heap.size + 1) l))
    have HDR : Hid (RStep rb (.slice (some ⟨gd, 0, none⟩) 12 cap) 12 R w R w.drew) := RStep.of_below (drew_below w)
    have hne : rb ≠ gd := fun e => h.a1 (by rw [e]; rfl)
    have hgdl : gd < w.heap.size := row_lt h.row rfl
    have hrbl : rb < w.heap.size := lt_of_block h.blk
    have g0 : ¬ (k : Int) < 0 := by omega
    have g1 : ¬ 11 < (k : Int) := by omega
    have g2 : (k : Int) < 12 := by omega
    have g3 : (0 : Int) ≤ (k : Int) := by omega
    have hmk := make_secs
    have hzs := secs0_size
    clear h hC hz
    generalize secs0 = Z at *
    go_enter Try.func30, Try.ntmps30
    go_wp2_with fail
    refine wp_region_noPanic ?_
    refine wp_region_held_drew (S := fun w' => w'.cell? ⟨rb, 0, none⟩ = some (.slice (some ⟨gd, 0, none⟩) 12 cap)) (by kernel_rfl) cB (fun hHeld => ?_)
    refine wpAnyH_take (i := 0) (v := ?v1) rfl (by kernel_rfl) (by kernel_rfl) (by kernel_rfl) (fun _ _ _ h => h) (Or.inl ⟨by rfl, ?hy1⟩) hHeld ?rest1
    case hy1 => (intro w' hSw; go_simp; try with_reducible rfl)
    try simp [Act.put]
    refine wpAnyH_take (i := 1) (v := ?v2) rfl (by kernel_rfl) (by kernel_rfl) (by kernel_rfl) (fun _ _ _ h => h) (Or.inl ⟨by rfl, ?hy2⟩) hHeld ?rest2
    case hy2 => (intro w' hSw; go_simp; try with_reducible rfl)
    try simp [Act.put]
    refine wpAnyH_take (i := 2) (v := ?v3) rfl (by kernel_rfl) (by kernel_rfl) (by kernel_rfl) (fun _ _ _ h => h) (Or.inl ⟨by rfl, ?hy3⟩) hHeld ?rest3
    case hy3 => (intro w' hSw; go_simp; try with_reducible rfl)
    try simp [Act.put]
    refine wpAnyH_take (i := 3) (v := ?v4) rfl (by kernel_rfl) (by kernel_rfl) (by kernel_rfl) (fun _ _ _ h => h) (Or.inl ⟨by rfl, ?hy4⟩) hHeld ?rest4
    case hy4 => (intro w' hSw; go_simp; try with_reducible rfl)
    try simp [Act.put]
    refine wpAnyH_take (i := 4) (v := ?v5) rfl (by kernel_rfl) (by kernel_rfl) (by kernel_rfl) (fun _ _ _ h => h) (Or.inl ⟨by rfl, ?hy5⟩) hHeld ?rest5
    case hy5 => (intro w' hSw; go_simp; try with_reducible rfl)
    try simp [Act.put]
    refine wpAnyH_take (i := 6) (v := ?v6) rfl (by kernel_rfl) (by kernel_rfl) (by kernel_rfl) (fun _ _ _ h => h) (Or.inl ⟨by rfl, ?hy6⟩) hHeld ?rest6
    case hy6 => (intro w' hSw; go_simp; try with_reducible rfl)
    try simp [Act.put]
    refine wpAnyH_ready (rs := [5]) (by kernel_rfl) (by simp) ?_
    refine AllReadyH.cons rfl (fun K hK => ?_) AllReadyH.nil
    go_simp
    have cB1 : (w.alloc (.cells Z 9)).cell? ⟨rb, 0, none⟩ = some (.slice (some ⟨gd, 0, none⟩) 12 cap) := Lib.cell?_alloc_some _ cB
    refine hK.out _ _ cB1 (fun hHeld => ?_)
    clear hK K
    try simp [Act.put]
    refine wpAnyH_take (i := 7) (v := ?v7) rfl (by kernel_rfl) (by kernel_rfl) (by kernel_rfl) (fun _ _ _ h => h) (Or.inl ⟨by rfl, ?hy7⟩) hHeld ?rest7
    case hy7 => (intro w' hSw; go_simp; try with_reducible rfl)
    try simp [Act.put]
    refine wpAnyH_ready (rs := [8]) (by kernel_rfl) (by simp) ?_
    refine AllReadyH.cons rfl (fun K hK => ?_) AllReadyH.nil
    go_simp
    have cB2 : ((w.alloc (.cells Z 9)).alloc (.cells #[.slice (some ⟨w.heap.size, 0, none⟩) 112 112, .slice none 0 0, .bool l] 61)).cell? ⟨rb, 0, none⟩ = some (.slice (some ⟨gd, 0, none⟩) 12 cap) := Lib.cell?_alloc_some _ cB1
    refine hK.out _ _ cB2 (fun hHeld => ?_)
    clear hK K
    try simp [Act.put]
    refine wpAnyH_take (i := 9) (v := ?v8) rfl (by kernel_rfl) (by kernel_rfl) (by kernel_rfl) (fun _ _ _ h => h) (Or.inl ⟨by rfl, ?hy8⟩) hHeld ?rest8
    case hy8 => (intro w' hSw; go_simp; try with_reducible rfl)
    try simp [Act.put]
    have hbb : ((w.alloc (.cells Z 9)).alloc (.cells #[.slice (some ⟨w.heap.size, 0, none⟩) 112 112, .slice none 0 0, .bool l] 61)).heap[gd]? = w.heap[gd]? := (Below.heap_alloc _ _ _ (by rw [World.size_alloc]; omega)).trans (Below.heap_alloc _ _ _ hgdl)
    have cP2 := (World.cell?_of_block (w := w) (a := ⟨gd, k, none⟩) hbb).trans cP
    have fP2 := (World.frozen?_of_block (w := w) (a := ⟨gd, k, none⟩) hbb).trans fP
    have cB3 : (((w.alloc (.cells Z 9)).alloc (.cells #[.slice (some ⟨w.heap.size, 0, none⟩) 112 112, .slice none 0 0, .bool l] 61)).drew.setCell ⟨gd, k, none⟩ (.pointer (some ⟨w.heap.size + 1, 0, none⟩))).cell? ⟨rb, 0, none⟩ = some (.slice (some ⟨gd, 0, none⟩) 12 cap) := (World.cell?_of_block (a := ⟨rb, 0, none⟩) (Below.heap_setCell _ _ _ _ hne)).trans cB2
    have HCB3 := hide cB3
    clear hbb cB3 HST
    generalize ((w.alloc (.cells Z 9)).alloc (.cells #[.slice (some ⟨w.heap.size, 0, none⟩) 112 112, .slice none 0 0, .bool l] 61)) = WG at *
    refine wpAnyH_ready (rs := [10]) (by kernel_rfl) (by simp) ?_
    refine AllReadyH.cons rfl (fun K hK => ?_) AllReadyH.nil
    go_simp
    refine hK.out _ _ HCB3.out (fun hHeld => ?_)
    clear hK K
    try simp [Act.put]
    refine wpAnyH_done (by kernel_rfl) (NoPanic.normal ?_) _
    go_wp2_with fail
    try go_ret
    exact ⟨rfl, _, HS1.out, HS2.out, HC.out⟩
end Go.Proofs.Ytnpioaidbmllkaa
