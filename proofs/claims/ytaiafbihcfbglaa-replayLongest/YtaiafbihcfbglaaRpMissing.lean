/- What replay.Missing answers; the document's. -/
import Derived.Test.YtaiafbihcfbglaaRpTold
import Derived.Test.YtaiafbihcfbglaaBase
namespace Go.Proofs.Ytaiafbihcfbglaa
open Go.RowKit
set_option linter.unusedVariables false
/-- the record at a place is not what the sectors have there -/
noncomputable def misB (ss : List ByteArray) (l : List RT) (i : Nat) : Bool := decide (ss[i]? ≠ (l[i]?).map fun x => wR x.1)
noncomputable def misL (ss : List ByteArray) (l : List RT) (k : Nat) : List Int := ((List.range k).filter (misB ss l)).map Int.ofNat
theorem misL_succ (ss : List ByteArray) (l : List RT) (k : Nat) : misL ss l (k + 1) = if misB ss l k = true then misL ss l k ++ [(k : Int)] else misL ss l k := by
  unfold misL
  rw [List.range_succ, List.filter_append, List.map_append]
  by_cases h : misB ss l k = true
  · rw [if_pos h]; simp [h]
  · rw [if_neg h]; simp [h]
theorem misL_len (ss : List ByteArray) (l : List RT) (k : Nat) : (misL ss l k).length ≤ k := by
  unfold misL
  rw [List.length_map]
  exact Nat.le_trans (List.length_filter_le _ _) (by simp)
theorem mis_out {ss : List ByteArray} {l : List RT} {k : Nat} {x : RT} (hx : l[k]? = some x) (h : ss.length ≤ k) : misB ss l k = true := by
  unfold misB; rw [List.getElem?_eq_none h, hx]; simp
theorem mis_at {ss : List ByteArray} {l : List RT} {k : Nat} {x : RT} {s : ByteArray} (hx : l[k]? = some x) (hs : ss[k]? = some s) : misB ss l k = true ↔ wR x.1 ≠ s := by
  unfold misB; rw [hx, hs]; simp
  exact ⟨fun h e => h e.symm, fun h e => h e.symm⟩
theorem StrsAt.nth {w : World} {a : Option Addr} {l : List ByteArray} (h : StrsAt w a l) {k : Nat} {x : ByteArray} (hx : l[k]? = some x) : ∃ b o, a = some ⟨b, o, none⟩ ∧ b < w.heap.size ∧ w.cell? ⟨b, o + k, none⟩ = some (.string x) := by
  rcases h with h | ⟨b, o, ha, hlt, hc⟩
  · rw [h] at hx; simp at hx
  · exact ⟨b, o, ha, hlt, hc k x hx⟩
/-- the list of a row of one's own, and that it lies in a block of one's own -/
theorem GR.ints_far {w wr : World} {e : TypeId} {v : Value} {l : List Int} (h : GR w wr e 1 v l.length (inV l)) : ∃ a c, v = .slice a l.length c ∧ l.length ≤ c ∧ IntsAt wr a l ∧ ∀ b o, a = some ⟨b, o, none⟩ → w.heap.size ≤ b := by
  obtain ⟨a, c, e1, hc, _, h0 | ⟨g, rfl, hg, hlt, hcell⟩⟩ := h.form
  · obtain ⟨⟨hl, ⟨rfl, e⟩ | ⟨g, cap, cur, rfl, hB, _⟩⟩, _⟩ := h
    · exact ⟨none, 0, by rw [e], by omega, .inl (List.length_eq_zero_iff.1 h0), fun b o q => by cases q⟩
    · cases e1
      exact ⟨_, c, rfl, hc, .inl (List.length_eq_zero_iff.1 h0), fun b o q => by cases q; exact hB⟩
  · exact ⟨_, c, e1, hc, .inr ⟨g, 0, rfl, hlt, fun i s hs => hcell i _ (by unfold inV; rw [List.getElem?_map, hs]; rfl)⟩, fun b o q => by cases q; exact hg⟩
set_option maxRecDepth 100000 in
set_option maxHeartbeats 8000000 in
theorem pmiss_any (a1 a2 : Option Addr) (c1 c2 n m : Nat) (ss : List ByteArray) (l : List RT) (w : World) (hs : ss.length = n) (hl : l.length = m) (h63 : n ≤ 100000) (h64 : m ≤ 100000) (h1 : StrsAt w a1 ss) (h2 : RecsAt w a2 l) (hf : ∀ x ∈ l, x.1.fit) : Calls Try.prog 20 #[.slice a1 n c1, .slice a2 m c2] w fun e w' => ∃ a' c', e = .returned (.slice a' (misL ss l m).length c') ∧ (misL ss l m).length ≤ c' ∧ IntsAt w' a' (misL ss l m) ∧ Below w.heap.size w w' ∧ ∀ b o, a' = some ⟨b, o, none⟩ → w.heap.size ≤ b := by
  have HN := hide hs
  have HL := hide hl
  have HS := hide h1
  have HR := hide h2
  have HF := hide hf
  obtain ⟨i0, hi, hz0, hz1, hz2⟩ := info_parts int_info
  have HI := hide hi
  have HI0 := hide hz0
  have HI1 := hide hz1
  have HI2 := hide hz2
  clear hs hl h1 h2 hf hi hz0 hz1 hz2
  go_enter Try.func20, Try.ntmps20
  go_wp2_with fail
  go_loopw [5, 12] (fun x y wr => ∃ k : Nat, k ≤ m ∧ y = .int .i64 k ∧ GR w wr 3 1 x (misL ss l k).length (inV (misL ss l k))) (fun _ y _ => m - (intOf y).toNat)
  case atStart => exact ⟨0, by omega, rfl, GR.nil w w 3 1 (Below.refl _ _)⟩
  case round =>
    obtain ⟨k, hk, rfl, hg⟩ := hrel
    have HG := hide hg
    clear hg
    by_cases hlt : k < m
    · have hd : decide ((k : Int) < (m : Int)) = true := by simp; omega
      have hdi : (k : Int) < (m : Int) := by omega
      have hd0 : (0 : Int) ≤ (k : Int) := by omega
      obtain ⟨⟨x, xa, xc⟩, hx⟩ : ∃ x, l[k]? = some x := ⟨_, List.getElem?_eq_getElem (by have := HL.out; omega)⟩
      obtain ⟨b1, o1, rfl, hb1, p1, q1⟩ := (HR.out.below HG.out.2).nth hx
      have hfx : x.fit := HF.out _ (List.mem_of_getElem? hx)
      have HX := hide hx
      have P1 := hide p1
      have HSU := hide (misL_succ ss l k)
      clear hx
      have hal1 : Below wr.heap.size wr (wr.alloc (.cells #[.int .i64 0, .int .i64 0, .int .i64 0, .int .i64 0, .int .i64 0, .slice none 0 0, .string { data := #[] }, .int .i64 0, .int .i64 0, .int .i64 0, .string { data := #[] }, .string { data := #[] }, .int .i64 0, .int .i64 0] 55)) := (Below.refl _ _).alloc (Nat.le_refl _) _
      have hrow1 := below_setRow hal1 (Nat.le_refl _) (rcs x xa xc)
      have N1 : Hid (RBx wr.heap.size 55 Rc.zero none 0 (wr.alloc (.cells #[.int .i64 0, .int .i64 0, .int .i64 0, .int .i64 0, .int .i64 0, .slice none 0 0, .string { data := #[] }, .int .i64 0, .int .i64 0, .int .i64 0, .string { data := #[] }, .string { data := #[] }, .int .i64 0, .int .i64 0] 55))) := rbx_new 55 Rc.zero none 0 wr
      have X1 : Hid (RBx wr.heap.size 55 x xa xc ((wr.alloc (.cells #[.int .i64 0, .int .i64 0, .int .i64 0, .int .i64 0, .int .i64 0, .slice none 0 0, .string { data := #[] }, .int .i64 0, .int .i64 0, .int .i64 0, .string { data := #[] }, .string { data := #[] }, .int .i64 0, .int .i64 0] 55)).setRow wr.heap.size (rcs x xa xc))) := N1.out.row x xa xc
      have G1 : Hid (GR w ((wr.alloc (.cells #[.int .i64 0, .int .i64 0, .int .i64 0, .int .i64 0, .int .i64 0, .slice none 0 0, .string { data := #[] }, .int .i64 0, .int .i64 0, .int .i64 0, .string { data := #[] }, .string { data := #[] }, .int .i64 0, .int .i64 0] 55)).setRow wr.heap.size (rcs x xa xc)) 3 1 u5 (misL ss l k).length (inV (misL ss l k))) := HG.out.below hrow1
      have L1 : Hid (LocsAt ((wr.alloc (.cells #[.int .i64 0, .int .i64 0, .int .i64 0, .int .i64 0, .int .i64 0, .slice none 0 0, .string { data := #[] }, .int .i64 0, .int .i64 0, .int .i64 0, .string { data := #[] }, .string { data := #[] }, .int .i64 0, .int .i64 0] 55)).setRow wr.heap.size (rcs x xa xc)) xa x.ls) := q1.below hrow1
      clear p1 q1 hal1 hrow1 HG
      go_wp2_with (first | (refine wpList_load_mid rfl 55 (.tmp 15) rfl b1 (o1 + k * 14) rfl (rtC (x, xa, xc)).toList _ P1.out Try.underlying55 rfl rec_info ?_; rw [show (rtC (x, xa, xc)).toList.toArray = rcs x xa xc from rfl]) | (refine wpList_store_row rfl 55 (.tmp 7) (.tmp 16) rfl wr.heap.size (rcs x xa xc) rfl rfl 55 (rcs Rc.zero none 0) N1.out rec_info rfl (rcs_one _ _ _) ?_; generalize (wr.alloc (.cells #[.int .i64 0, .int .i64 0, .int .i64 0, .int .i64 0, .int .i64 0, .slice none 0 0, .string { data := #[] }, .int .i64 0, .int .i64 0, .int .i64 0, .string { data := #[] }, .string { data := #[] }, .int .i64 0, .int .i64 0] 55)).setRow wr.heap.size (rcs x xa xc) = W1 at *; generalize wr.heap.size = bb1 at *) | (refine wpList_load_row rfl 55 (.tmp 7) rfl bb1 rfl 55 (rcs x xa xc) (0, 0) _ X1.out Try.underlying55 rfl rec_info ?_))
      refine (rwrite_any x xa xc W1 L1.out hfx).mono ?_
      rintro e w2 ⟨rfl, hb2⟩
      have G2 := hide (G1.out.below hb2)
      clear hb2 G1 L1 X1 N1
      by_cases hin : n ≤ k
      · have g1 : decide ((n : Int) ≤ (k : Int)) = true := by simp; omega
        have HMT : Hid (misB ss l k = true) := mis_out HX.out (by have := HN.out; omega)
        generalize wR x = S at *
        generalize ckR x = E at *
        go_wp2_with (first | (at_builtin; refine wpList_append_own _ rfl (.tmp 34) (.tmp 36) 42 rfl w.heap.size 3 i0 (.int .i64 0) 1 8 Try.underlying42 HI.out HI0.out HI1.out HI2.out rfl (by decide) u5 (misL ss l k).length (inV (misL ss l k)) rfl (own_alloc G2.out.1 _) ⟨w2.heap.size, 0, none⟩ 1 1 [.int .i64 (k : Int)] rfl rfl (cell_one_new _ _ _) (by simp [Value.oneCell']) (by unfold maxLen; have := misL_len ss l k; omega) (by have := misL_len ss l k; omega) (by rw [World.size_alloc]; have := G2.out.2.size; omega) ?_; intro v' w3 hown hgr hnil; clear hnil; have G3 := hide (G2.out.step hown hgr); clear hown hgr))
        exact ⟨⟨k + 1, by omega, by go_num, by rw [HSU.out, if_pos HMT.out, List.length_append, inV_snoc]; exact G3.out⟩, by simp [intOf]; omega⟩
      · have g1 : decide ((n : Int) ≤ (k : Int)) = false := by simp; omega
        have g2 : (k : Int) < (n : Int) := by omega
        obtain ⟨s, hs⟩ : ∃ x, ss[k]? = some x := ⟨_, List.getElem?_eq_getElem (by have := HN.out; omega)⟩
        obtain ⟨b2, o2, rfl, hb2, e2⟩ := (HS.out.below G2.out.2).nth hs
        have HMA := hide (mis_at HX.out hs)
        clear hs
        by_cases hw : wR x = s
        · have g3 := str_eq hw
          have HMF : Hid (¬ misB ss l k = true) := fun q => (HMA.out.1 q) hw
          clear hw HMA
          generalize wR x = S at *
          generalize ckR x = E at *
          go_wp2_with fail
          exact ⟨⟨k + 1, by omega, by go_num, by rw [HSU.out, if_neg HMF.out]; exact G2.out⟩, by simp [intOf]; omega⟩
        · have g3 := str_ne hw
          have HMT : Hid (misB ss l k = true) := HMA.out.2 hw
          clear hw HMA
          generalize wR x = S at *
          generalize ckR x = E at *
          go_wp2_with (first | (at_builtin; refine wpList_append_own _ rfl (.tmp 34) (.tmp 36) 42 rfl w.heap.size 3 i0 (.int .i64 0) 1 8 Try.underlying42 HI.out HI0.out HI1.out HI2.out rfl (by decide) u5 (misL ss l k).length (inV (misL ss l k)) rfl (own_alloc G2.out.1 _) ⟨w2.heap.size, 0, none⟩ 1 1 [.int .i64 (k : Int)] rfl rfl (cell_one_new _ _ _) (by simp [Value.oneCell']) (by unfold maxLen; have := misL_len ss l k; omega) (by have := misL_len ss l k; omega) (by rw [World.size_alloc]; have := G2.out.2.size; omega) ?_; intro v' w3 hown hgr hnil; clear hnil; have G3 := hide (G2.out.step hown hgr); clear hown hgr))
          exact ⟨⟨k + 1, by omega, by go_num, by rw [HSU.out, if_pos HMT.out, List.length_append, inV_snoc]; exact G3.out⟩, by simp [intOf]; omega⟩
    · have hd : decide ((k : Int) < (m : Int)) = false := by simp; omega
      have hdi : ¬ (k : Int) < (m : Int) := by omega
      obtain rfl : k = m := by omega
      obtain ⟨a', c', e1, hc', hin, hfar⟩ := HG.out.ints_far
      have HF' := hide hin
      have HB := hide HG.out.2
      have HFA := hide hfar
      clear hin HG hfar
      subst e1
      go_wp2_with fail
      try go_ret
      exact ⟨a', c', rfl, hc', HF'.out, HB.out, HFA.out⟩
set_option maxRecDepth 100000 in
set_option maxHeartbeats 8000000 in
theorem qmiss_any (a1 a2 : Option Addr) (c1 c2 n m : Nat) (ss : List ByteArray) (l : List RT) (w : World) (hs : ss.length = n) (hl : l.length = m) (h63 : n ≤ 100000) (h64 : m ≤ 100000) (h1 : StrsAt w a1 ss) (h2 : RecsAt w a2 l) (hf : ∀ x ∈ l, x.1.fit) : Calls Try.prog 21 #[.slice a1 n c1, .slice a2 m c2] w fun e w' => ∃ a' c', e = .returned (.slice a' (misL ss l m).length c') ∧ (misL ss l m).length ≤ c' ∧ IntsAt w' a' (misL ss l m) ∧ Below w.heap.size w w' ∧ ∀ b o, a' = some ⟨b, o, none⟩ → w.heap.size ≤ b := by
  have HN := hide hs
  have HL := hide hl
  have HS := hide h1
  have HR := hide h2
  have HF := hide hf
  obtain ⟨i0, hi, hz0, hz1, hz2⟩ := info_parts int_info
  have HI := hide hi
  have HI0 := hide hz0
  have HI1 := hide hz1
  have HI2 := hide hz2
  clear hs hl h1 h2 hf hi hz0 hz1 hz2
  go_enter Try.func21, Try.ntmps21
  go_wp2_with fail
  go_loopw [5, 6] (fun x y wr => ∃ k : Nat, k ≤ m ∧ y = .int .i64 k ∧ GR w wr 3 1 x (misL ss l k).length (inV (misL ss l k))) (fun _ y _ => m - (intOf y).toNat)
  case atStart => exact ⟨0, by omega, rfl, GR.nil w w 3 1 (Below.refl _ _)⟩
  case round =>
    obtain ⟨k, hk, rfl, hg⟩ := hrel
    have HG := hide hg
    clear hg
    by_cases hlt : k < m
    · have hd : decide ((k : Int) < (m : Int)) = true := by simp; omega
      have hdi : (k : Int) < (m : Int) := by omega
      have hd0 : (0 : Int) ≤ (k : Int) := by omega
      obtain ⟨⟨x, xa, xc⟩, hx⟩ : ∃ x, l[k]? = some x := ⟨_, List.getElem?_eq_getElem (by have := HL.out; omega)⟩
      obtain ⟨b1, o1, rfl, hb1, p1, q1⟩ := (HR.out.below HG.out.2).nth hx
      have hfx : x.fit := HF.out _ (List.mem_of_getElem? hx)
      have HX := hide hx
      have P1 := hide p1
      have HSU := hide (misL_succ ss l k)
      clear hx
      have L1 := hide q1
      clear p1 q1
      go_wp2_with (first | (refine wpList_load_mid rfl 33 (.tmp 18) rfl b1 (o1 + k * 14) rfl (rtC (x, xa, xc)).toList _ P1.out Try.underlying33 rfl ref_info ?_; rw [show (rtC (x, xa, xc)).toList.toArray = rcs x xa xc from rfl]))
      refine (qwrite_any x xa xc wr L1.out hfx).mono ?_
      rintro e w2 ⟨rfl, hb2⟩
      have G2 := hide (HG.out.below hb2)
      clear hb2 HG L1
      by_cases hin : n ≤ k
      · have g1 : decide ((n : Int) ≤ (k : Int)) = true := by simp; omega
        have HMT : Hid (misB ss l k = true) := mis_out HX.out (by have := HN.out; omega)
        generalize wR x = S at *
        generalize ckR x = E at *
        go_wp2_with (first | (at_builtin; refine wpList_append_own _ rfl (.tmp 35) (.tmp 37) 42 rfl w.heap.size 3 i0 (.int .i64 0) 1 8 Try.underlying42 HI.out HI0.out HI1.out HI2.out rfl (by decide) u5 (misL ss l k).length (inV (misL ss l k)) rfl (own_alloc G2.out.1 _) ⟨w2.heap.size, 0, none⟩ 1 1 [.int .i64 (k : Int)] rfl rfl (cell_one_new _ _ _) (by simp [Value.oneCell']) (by unfold maxLen; have := misL_len ss l k; omega) (by have := misL_len ss l k; omega) (by rw [World.size_alloc]; have := G2.out.2.size; omega) ?_; intro v' w3 hown hgr hnil; clear hnil; have G3 := hide (G2.out.step hown hgr); clear hown hgr))
        exact ⟨⟨k + 1, by omega, by go_num, by rw [HSU.out, if_pos HMT.out, List.length_append, inV_snoc]; exact G3.out⟩, by simp [intOf]; omega⟩
      · have g1 : decide ((n : Int) ≤ (k : Int)) = false := by simp; omega
        have g2 : (k : Int) < (n : Int) := by omega
        obtain ⟨s, hs⟩ : ∃ x, ss[k]? = some x := ⟨_, List.getElem?_eq_getElem (by have := HN.out; omega)⟩
        obtain ⟨b2, o2, rfl, hb2, e2⟩ := (HS.out.below G2.out.2).nth hs
        have HMA := hide (mis_at HX.out hs)
        clear hs
        by_cases hw : wR x = s
        · have g3 := str_eq hw.symm
          have HMF : Hid (¬ misB ss l k = true) := fun q => (HMA.out.1 q) hw
          clear hw HMA
          generalize wR x = S at *
          generalize ckR x = E at *
          go_wp2_with fail
          exact ⟨⟨k + 1, by omega, by go_num, by rw [HSU.out, if_neg HMF.out]; exact G2.out⟩, by simp [intOf]; omega⟩
        · have g3 := str_ne (fun q => hw q.symm)
          have HMT : Hid (misB ss l k = true) := HMA.out.2 hw
          clear hw HMA
          generalize wR x = S at *
          generalize ckR x = E at *
          go_wp2_with (first | (at_builtin; refine wpList_append_own _ rfl (.tmp 35) (.tmp 37) 42 rfl w.heap.size 3 i0 (.int .i64 0) 1 8 Try.underlying42 HI.out HI0.out HI1.out HI2.out rfl (by decide) u5 (misL ss l k).length (inV (misL ss l k)) rfl (own_alloc G2.out.1 _) ⟨w2.heap.size, 0, none⟩ 1 1 [.int .i64 (k : Int)] rfl rfl (cell_one_new _ _ _) (by simp [Value.oneCell']) (by unfold maxLen; have := misL_len ss l k; omega) (by have := misL_len ss l k; omega) (by rw [World.size_alloc]; have := G2.out.2.size; omega) ?_; intro v' w3 hown hgr hnil; clear hnil; have G3 := hide (G2.out.step hown hgr); clear hown hgr))
          exact ⟨⟨k + 1, by omega, by go_num, by rw [HSU.out, if_pos HMT.out, List.length_append, inV_snoc]; exact G3.out⟩, by simp [intOf]; omega⟩
    · have hd : decide ((k : Int) < (m : Int)) = false := by simp; omega
      have hdi : ¬ (k : Int) < (m : Int) := by omega
      obtain rfl : k = m := by omega
      obtain ⟨a', c', e1, hc', hin, hfar⟩ := HG.out.ints_far
      have HF' := hide hin
      have HB := hide HG.out.2
      have HFA := hide hfar
      clear hin HG hfar
      subst e1
      go_wp2_with fail
      try go_ret
      exact ⟨a', c', rfl, hc', HF'.out, HB.out, HFA.out⟩
end Go.Proofs.Ytaiafbihcfbglaa
