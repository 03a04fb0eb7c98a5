/- What the document's Give and All answer. -/
import Derived.Test.YthcpcdinjellcaaRsOps
namespace Go.Proofs.Ythcpcdinjellcaa
open Go.RowKit
set_option linter.unusedVariables false
/-- a list without a place -/
def dl (L : List (Int × Int)) (x : Int × Int) : List (Int × Int) := L.filter fun z => decide (z ≠ x)
theorem dl_not {L : List (Int × Int)} {x : Int × Int} (h : memL L x = false) : dl L x = L := by
  unfold dl
  rw [List.filter_eq_self]
  intro z hz
  unfold memL at h
  rw [decide_eq_false_iff_not] at h
  rw [decide_eq_true_eq]
  intro e
  exact h (e ▸ hz)
theorem dl_succ {L : List (Int × Int)} {x y : Int × Int} {k : Nat} (h : L[k]? = some y) : dl (L.take (k + 1)) x = dl (L.take k) x ++ (if y = x then [] else [y]) := by
  unfold dl
  rw [List.take_add_one, h, List.filter_append]
  by_cases e : y = x <;> simp [e]
theorem dl_len (L : List (Int × Int)) (x : Int × Int) (k : Nat) : (dl (L.take k) x).length ≤ k := by unfold dl; exact Nat.le_trans (List.length_filter_le _ _) (by rw [List.length_take]; omega)
theorem dl_le (L : List (Int × Int)) (x : Int × Int) : (dl L x).length ≤ L.length := List.length_filter_le _ _
theorem mem_dl (L : List (Int × Int)) (x y : Int × Int) : memL (dl L x) y = (memL L y && decide (y ≠ x)) := by
  unfold memL dl
  rw [Bool.eq_iff_iff]
  simp
theorem Rel.give {B : Nat → Bool} {L : List (Int × Int)} (h : Rel B L) (x : Int × Int) : Rel (gvB B x) (dl L x) := by
  refine ⟨fun y hy => ?_, ?_, fun y hy => ?_⟩
  · rw [mem_dl, gvB_is, h.iff y hy]
    congr 1
    unfold hit
    cases ho : okL x with
    | true =>
      by_cases e : y = x
      · subst e; simp
      · have : (idx x == idx y) = false := by rw [beq_eq_false_iff_ne]; exact fun q => e (idx_inj ho hy q).symm
        rw [this]; simp [e]
    | false =>
      have : y ≠ x := fun e => by rw [e, ho] at hy; cases hy
      simp [this]
  · unfold dl; exact h.nodup.filter _
  · unfold dl at hy; exact h.ok y (List.mem_filter.1 hy).1
theorem gv_e {B : Nat → Bool} {x : Int × Int} : gvE B x = if tnB B x then 0 else 1 := rfl
set_option maxRecDepth 100000 in
set_option maxHeartbeats 8000000 in
theorem rGive_any (rb : Nat) (v : Value) (L : List (Int × Int)) (B : Nat → Bool) (x y : Int) (w : World) (h : Rs w rb v L) (hr : Rel B L) (hl : L.length ≤ 1000000) : Calls Try.prog 24 #[.pointer (some ⟨rb, 0, none⟩), .agg #[.int .i64 x, .int .i64 y]] w fun e w' => e = .returned (.int .i64 (gvE B (x, y))) ∧ ∃ v', Rs w' rb v' (dl L (x, y)) ∧ Ru rb v w v' w' := by
  have hal : Below w.heap.size w (w.alloc (.cells #[.int .i64 x, .int .i64 y] 31)) := (Below.refl _ _).alloc (Nat.le_refl _) _
  have HAL := hide hal
  have HBX : Hid ((w.alloc (.cells #[.int .i64 x, .int .i64 y] 31)).heap[w.heap.size]? = some (.cells #[.int .i64 x, .int .i64 y] 31 (0, 0))) := heap_alloc_new _ _
  have HT := hide (rTaken_any rb v L x y _ (h.below hal))
  have HS0 := hide h
  obtain ⟨i0, hi0, hz0, hz1, hz2⟩ := info_parts loc_info
  have HI := hide hi0
  have HZ0 := hide hz0
  have HZ1 := hide hz1
  have HZ2 := hide hz2
  obtain ⟨av, cv, rfl, hcv, hcm, hL⟩ := h.form
  have HLC := hide hL
  rw [gv_e, ← hr.tn]
  clear hi0 hz0 hz1 hz2 h hal hL hr
  cases hm : memL L (x, y) with
  | false =>
    rw [hm] at HT
    rw [dl_not hm]
    clear hm
    go_enter Try.func24, Try.ntmps24
    go_wp2_with fail
    refine HT.out.mono ?_
    rintro e w1 ⟨rfl, hb1⟩
    have HB1 : Hid (Below w.heap.size w w1) := HAL.out.trans (hb1.mono HAL.out.size)
    clear hb1
    go_wp2_with fail
    try go_ret
    exact ⟨rfl, _, HS0.out.below HB1.out, Ru.of_below HB1.out⟩
  | true =>
    rw [hm] at HT
    clear hm
    go_enter Try.func24, Try.ntmps24
    go_wp2_with fail
    refine HT.out.mono ?_
    rintro e w1 ⟨rfl, hb1⟩
    have HB1 : Hid (Below w.heap.size w w1) := HAL.out.trans (hb1.mono HAL.out.size)
    have HLK : Hid (w1.heap[w.heap.size]? = some (.cells #[.int .i64 x, .int .i64 y] 31 (0, 0))) := (hb1.block _ (lt_of_block HBX.out)).trans HBX.out
    have hlb : w.heap.size < w1.heap.size := lt_of_block HLK.out
    clear hb1
    go_wp2_with fail
    go_loopw [5, 6] (fun u q wr => ∃ k : Nat, k ≤ L.length ∧ q = .int .i64 k ∧ GR w1 wr 31 2 u (dl (L.take k) (x, y)).length (lcV (dl (L.take k) (x, y)))) (fun _ q _ => L.length - (intOf q).toNat)
    case atStart => exact ⟨0, by omega, rfl, GR.nil _ _ _ _ (Below.refl _ _)⟩
    case round =>
      obtain ⟨k, hk, rfl, hgr⟩ := hrel
      have HG := hide hgr
      have HBr : Hid (Below w.heap.size w wr) := HB1.out.trans (hgr.2.mono HB1.out.size)
      have c0 := (HS0.out.below HBr.out).c0
      have hszr := hgr.2.size
      have hlk := (hgr.2.block _ hlb).trans HLK.out
      have m0 : wr.cell? ⟨w.heap.size, 0, none⟩ = some (.int .i64 x) := cell_of_block hlk
      have m1 : wr.cell? ⟨w.heap.size, 1, none⟩ = some (.int .i64 y) := cell_of_block hlk
      have hdl := dl_len L (x, y) k
      clear hgr hlk
      by_cases hlt : k < L.length
      · have hdk : decide ((k : Int) < (L.length : Int)) = true := by simp; omega
        have hki : (k : Int) < (L.length : Int) := by omega
        have hk0 : (0 : Int) ≤ (k : Int) := by omega
        obtain ⟨⟨p, q⟩, hx⟩ : ∃ x, L[k]? = some x := ⟨_, List.getElem?_eq_getElem hlt⟩
        obtain ⟨b1, o1, rfl, hb1, e0, e1⟩ := (HLC.out.below HBr.out).nth hx
        simp only at e0 e1
        have HSU := hide (dl_succ (x := (x, y)) hx)
        clear hx
        generalize dl (L.take k) (x, y) = M at *
        by_cases exy : p = x ∧ q = y
        · have q1 : (p == x) = true := by simpa using exy.1
          have q2 : (q == y) = true := by simpa using exy.2
          rw [if_pos (by rw [exy.1, exy.2]), List.append_nil] at HSU
          clear exy
          go_wp2_with fail
          go_quiet (fail)
          go_wp2_with fail
          all_goals exact ⟨⟨k + 1, by omega, by go_num, by rw [HSU.out]; exact HG.out.below ⟨rfl, rfl, rfl, Nat.le_refl _, fun _ _ => rfl⟩⟩, by simp [intOf]; omega⟩
        · rw [if_neg (fun e => exy ⟨congrArg Prod.fst e, congrArg Prod.snd e⟩)] at HSU
          have HGd : Hid (∀ n, GR w1 (wr.drewN n) 31 2 _ M.length (lcV M)) := fun n => HG.out.below ⟨rfl, rfl, rfl, Nat.le_refl _, fun _ _ => rfl⟩
          by_cases ex : p = x
          · have q1 : (p == x) = true := by simpa using ex
            have q2 : (q == y) = false := by simpa using fun e2 => exy ⟨ex, e2⟩
            clear exy ex
            go_wp2_with fail
            go_quiet (fail)
            go_wp2_with (first | (at_builtin; refine wpList_append_own _ rfl (.tmp 29) (.tmp 37) 27 rfl w1.heap.size 31 i0 (.agg #[.int .i64 0, .int .i64 0]) 2 16 Try.underlying27 HI.out HZ0.out HZ1.out HZ2.out rfl (by decide) _ _ _ rfl ((HGd.out _).1.alloc _) ⟨wr.heap.size, 0, none⟩ 1 1 [.int .i64 p, .int .i64 q] rfl rfl (cell_two_new _ _ _ _) (by simp [Value.oneCell']) (by unfold maxLen; omega) (by omega) (by rw [World.size_alloc]; show _ ≤ wr.heap.size + 1; omega) ?_; intro v' w3 hown hgr hnil; clear hnil; have HN3 := hide ((HGd.out _).step hown hgr); clear hown hgr))
            all_goals first | exact ⟨⟨k + 1, by omega, by go_num, by rw [HSU.out, lcV_snoc, List.length_append]; exact HN3.out⟩, by simp [intOf]; omega⟩ | (go_roundw; (case rel => exact ⟨k + 1, by omega, by go_num, by rw [HSU.out, lcV_snoc, List.length_append]; exact HN3.out⟩); (case measure => simp [intOf]; omega))
          · have q1 : (p == x) = false := by simpa using ex
            clear exy ex
            go_wp2_with fail
            go_quiet (fail)
            go_wp2_with (first | (at_builtin; refine wpList_append_own _ rfl (.tmp 29) (.tmp 37) 27 rfl w1.heap.size 31 i0 (.agg #[.int .i64 0, .int .i64 0]) 2 16 Try.underlying27 HI.out HZ0.out HZ1.out HZ2.out rfl (by decide) _ _ _ rfl ((HGd.out _).1.alloc _) ⟨wr.heap.size, 0, none⟩ 1 1 [.int .i64 p, .int .i64 q] rfl rfl (cell_two_new _ _ _ _) (by simp [Value.oneCell']) (by unfold maxLen; omega) (by omega) (by rw [World.size_alloc]; show _ ≤ wr.heap.size + 1; omega) ?_; intro v' w3 hown hgr hnil; clear hnil; have HN3 := hide ((HGd.out _).step hown hgr); clear hown hgr))
            all_goals first | exact ⟨⟨k + 1, by omega, by go_num, by rw [HSU.out, lcV_snoc, List.length_append]; exact HN3.out⟩, by simp [intOf]; omega⟩ | (go_roundw; (case rel => exact ⟨k + 1, by omega, by go_num, by rw [HSU.out, lcV_snoc, List.length_append]; exact HN3.out⟩); (case measure => simp [intOf]; omega))
      · have hdk : decide ((k : Int) < (L.length : Int)) = false := by simp; omega
        have hf0 := (HS0.out.below HBr.out).f0
        have HTK : Hid (dl (L.take k) (x, y) = dl L (x, y)) := by unfold Hid; rw [List.take_of_length_le (by omega)]
        rw [HTK.out] at HG
        obtain ⟨au, cu, hu, -, -⟩ := own_form HG.out.1
        subst hu
        have hrb := HS0.out.lt
        have HBOX := hide (HS0.out.below HBr.out).box
        have HF : Hid (Rs (wr.setCell ⟨rb, 0, none⟩ (.slice au (dl L (x, y)).length cu)) rb (.slice au (dl L (x, y)).length cu) (dl L (x, y))) := by
          refine ⟨block_setCell (c := #[_]) _ HBOX.out, ?_⟩
          obtain ⟨hl, ⟨h1, hz⟩ | ⟨g, cap, cur, h1, hB, hg, hc, hm, hss, ht⟩⟩ := HG.out.1
          · exact ⟨hl, .inl ⟨h1, hz⟩⟩
          · exact ⟨hl, .inr ⟨g, cap, cur, h1, by omega, (Below.heap_setCell _ _ _ _ (by show g ≠ rb; omega)).trans hg, hc, hm, hss, ht⟩⟩
        have HU : Hid (Ru rb (.slice av L.length cv) w (.slice au (dl L (x, y)).length cu) (wr.setCell ⟨rb, 0, none⟩ (.slice au (dl L (x, y)).length cu))) :=
          ⟨HBr.out.os, HBr.out.tape, HBr.out.output, by simpa using HBr.out.size, fun q hq hn _ => (Below.heap_setCell _ _ _ _ (by show q ≠ rb; exact hn)).trans (HBr.out.block q hq), fun q hq => .inr (by have := row_base HG.out.1 hq; omega)⟩
        go_wp2_with fail
        try go_ret
        exact ⟨rfl, _, HF.out, HU.out⟩
end Go.Proofs.Ythcpcdinjellcaa
