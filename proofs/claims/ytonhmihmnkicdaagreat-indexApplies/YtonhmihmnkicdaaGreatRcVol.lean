/- What record.Volume answers; the document's Volume. -/
import Derived.Test.YtonhmihmnkicdaaGreatRcSmall
import Derived.Test.YtonhmihmnkicdaaGreatRcMem
namespace Go.Proofs.YtonhmihmnkicdaaGreat
open Go.RowKit
set_option linter.unusedVariables false
theorem volR_no {i g n : Int} {l : List (Int × Int)} (h : ¬ volR i g n l) : false = decide (volR i g n l) := by simp [h]
theorem volR_yes {i g n : Int} {l : List (Int × Int)} (h : volR i g n l) : true = decide (volR i g n l) := by simp [h]
/-- the first j places may be, and have disks of their own -/
def locsTo (l : List (Int × Int)) (j : Nat) : Prop := locsR (l.take j)
theorem locsTo_zero (l : List (Int × Int)) : locsTo l 0 := by unfold locsTo locsR; simp
theorem take_next {l : List (Int × Int)} {j : Nat} {x : Int × Int} (hx : l[j]? = some x) : l.take (j + 1) = l.take j ++ [x] := by rw [List.take_add_one, hx]; rfl
theorem locsTo_step {l : List (Int × Int)} {j : Nat} {x : Int × Int} (h : locsTo l j) (hx : l[j]? = some x) (hr : locR x) (hn : ∀ i y, i < j → l[i]? = some y → y.1 ≠ x.1) : locsTo l (j + 1) := by
  unfold locsTo locsR at *
  rw [take_next hx]
  refine ⟨fun y hy => ?_, ?_⟩
  · rcases List.mem_append.1 hy with h1 | h1
    · exact h.1 y h1
    · simp at h1; subst h1; exact hr
  · rw [List.map_append, List.nodup_append]
    refine ⟨h.2, by simp, ?_⟩
    intro a ha b hb
    simp at hb
    subst hb
    obtain ⟨y, hy, rfl⟩ := List.mem_map.1 ha
    obtain ⟨i, hi, e⟩ := List.getElem_of_mem hy
    rw [List.length_take] at hi
    have : l[i]? = some y := by
      rw [← e, List.getElem_take]
      exact List.getElem?_eq_getElem (by omega)
    exact hn i y (by omega) this
theorem locsTo_all {l : List (Int × Int)} (h : locsTo l l.length) : locsR l := by unfold locsTo at h; rwa [List.take_length] at h
theorem locs_bad {l : List (Int × Int)} {j : Nat} {x : Int × Int} (hx : l[j]? = some x) (h : ¬ locR x) : ¬ locsR l := fun q => h (q.1 x (List.mem_of_getElem? hx))
theorem nodup_at {l : List Int} (h : l.Nodup) {i j : Nat} {x : Int} (hi : l[i]? = some x) (hj : l[j]? = some x) : i = j := by
  rw [List.nodup_iff_pairwise_ne, List.pairwise_iff_getElem] at h
  obtain ⟨h1, e1⟩ := List.getElem?_eq_some_iff.1 hi
  obtain ⟨h2, e2⟩ := List.getElem?_eq_some_iff.1 hj
  rcases Nat.lt_trichotomy i j with q | q | q
  · exact absurd (e1.trans e2.symm) (h i j h1 h2 q)
  · exact q
  · exact absurd (e2.trans e1.symm) (h j i h2 h1 q)
theorem locs_twice {l : List (Int × Int)} {i j : Nat} {x y : Int × Int} (hi : l[i]? = some x) (hj : l[j]? = some y) (hne : i ≠ j) (e : x.1 = y.1) : ¬ locsR l := fun q => by
  refine hne (nodup_at q.2 (x := x.1) ?_ ?_)
  · rw [List.getElem?_map, hi]; rfl
  · rw [List.getElem?_map, hj, e]; rfl
/-- which disks were seen among the first j -/
def usedB (l : List (Int × Int)) (j : Nat) (d : Nat) : Bool := (l.take j).any fun x => x.1 == (d : Int)
theorem usedB_zero (l : List (Int × Int)) (d : Nat) : usedB l 0 d = false := by unfold usedB; simp
theorem usedB_step {l : List (Int × Int)} {j : Nat} {x : Int × Int} (hx : l[j]? = some x) (d : Nat) : usedB l (j + 1) d = (usedB l j d || x.1 == (d : Int)) := by unfold usedB; rw [take_next hx, List.any_append]; simp
theorem usedB_no {l : List (Int × Int)} {j d : Nat} (h : usedB l j d = false) : ∀ i y, i < j → l[i]? = some y → y.1 ≠ (d : Int) := by
  intro i y hi hy e
  unfold usedB at h
  rw [List.any_eq_false] at h
  refine h y ?_ (by simp [e])
  rw [List.mem_iff_getElem?]
  exact ⟨i, by rw [List.getElem?_take, if_pos hi]; exact hy⟩
theorem usedB_yes {l : List (Int × Int)} {j d : Nat} (h : usedB l j d = true) : ∃ i y, i < j ∧ l[i]? = some y ∧ y.1 = (d : Int) := by
  unfold usedB at h
  rw [List.any_eq_true] at h
  obtain ⟨y, hy, e⟩ := h
  rw [List.mem_iff_getElem?] at hy
  obtain ⟨i, hi⟩ := hy
  rw [List.getElem?_take] at hi
  split at hi
  · next q => exact ⟨i, y, q, hi, by simpa using e⟩
  · cases hi
theorem vol9 {i g n : Int} {l : List (Int × Int)} (h : numR i ∧ numR g ∧ (0 ≤ n ∧ n ≤ 384) ∧ l.length = 9) : volR i g n l ↔ locsR l := by
  unfold volR
  constructor
  · intro q; exact q.2.2.2.2
  · intro q; exact ⟨h.1, h.2.1, h.2.2.1, h.2.2.2, q⟩
set_option maxRecDepth 100000 in
set_option maxHeartbeats 8000000 in
theorem vol_any (i g n : Int) (a : Option Addr) (m c : Nat) (l : List (Int × Int)) (w : World) (hl : l.length = m) (h63 : m ≤ 1000000) (hS : LocsAt w a l) : Calls Tryz.prog 57 #[.agg (vlc i g n a m c)] w fun e w' => e = .returned (.bool (decide (volR i g n l))) ∧ Below w.heap.size w w' := by
  have HB : Hid (Below w.heap.size w (w.alloc (.cells (vlc i g n a m c) 36))) := (Below.refl _ _).alloc (Nat.le_refl _) _
  have H1 := hide (isNumber_any i (w.alloc (.cells (vlc i g n a m c) 36)))
  have H2 := hide (isNumber_any g (w.alloc (.cells (vlc i g n a m c) 36)))
  have H3 := hide (upTo_any n 384 (w.alloc (.cells (vlc i g n a m c) 36)))
  simp only [vlc] at HB H1 H2 H3 ⊢
  by_cases h1 : numR i
  case neg =>
    have HF := hide (volR_no (i := i) (g := g) (n := n) (l := l) fun q => h1 q.1)
    rw [decide_eq_false h1] at H1
    rw [← HF.out]
    clear h1 hS
    go_enter Tryz.func57, Tryz.ntmps57
    go_wp2_with fail
    refine H1.out.mono ?_
    rintro e _ ⟨rfl, rfl⟩
    go_wp2_with fail
    try go_ret
    exact ⟨rfl, HB.out⟩
  by_cases h2 : numR g
  case neg =>
    have HF := hide (volR_no (i := i) (g := g) (n := n) (l := l) fun q => h2 q.2.1)
    rw [decide_eq_true h1] at H1
    rw [decide_eq_false h2] at H2
    rw [← HF.out]
    clear h1 h2 hS
    go_enter Tryz.func57, Tryz.ntmps57
    go_wp2_with fail
    refine H1.out.mono ?_
    rintro e _ ⟨rfl, rfl⟩
    go_wp2_with fail
    refine H2.out.mono ?_
    rintro e _ ⟨rfl, rfl⟩
    go_wp2_with fail
    try go_ret
    exact ⟨rfl, HB.out⟩
  by_cases h3 : 0 ≤ n ∧ n ≤ 384
  case neg =>
    have HF := hide (volR_no (i := i) (g := g) (n := n) (l := l) fun q => h3 q.2.2.1)
    rw [decide_eq_true h1] at H1
    rw [decide_eq_true h2] at H2
    rw [decide_eq_false h3] at H3
    rw [← HF.out]
    clear h1 h2 h3 hS
    go_enter Tryz.func57, Tryz.ntmps57
    go_wp2_with fail
    refine H1.out.mono ?_
    rintro e _ ⟨rfl, rfl⟩
    go_wp2_with fail
    refine H2.out.mono ?_
    rintro e _ ⟨rfl, rfl⟩
    go_wp2_with fail
    refine H3.out.mono ?_
    rintro e _ ⟨rfl, rfl⟩
    go_wp2_with fail
    try go_ret
    exact ⟨rfl, HB.out⟩
  have HV := hide (vol9 (i := i) (g := g) (n := n) (l := l))
  rw [decide_eq_true h1] at H1
  rw [decide_eq_true h2] at H2
  rw [decide_eq_true h3] at H3
  by_cases h9 : m = 9
  case neg =>
    have HF := hide (volR_no (i := i) (g := g) (n := n) (l := l) fun q => h9 (by rw [← hl]; exact q.2.2.2.1))
    have hq : ((m : Int) != 9) = true := by simp; omega
    have hq2 : ((m : Int) == 9) = false := by simp; omega
    rw [← HF.out]
    clear h1 h2 h3 hS
    go_enter Tryz.func57, Tryz.ntmps57
    go_wp2_with fail
    refine H1.out.mono ?_
    rintro e _ ⟨rfl, rfl⟩
    go_wp2_with fail
    refine H2.out.mono ?_
    rintro e _ ⟨rfl, rfl⟩
    go_wp2_with fail
    refine H3.out.mono ?_
    rintro e _ ⟨rfl, rfl⟩
    go_wp2_with fail
    try go_ret
    exact ⟨rfl, HB.out⟩
  subst h9
  have HVL := hide (HV.out ⟨h1, h2, h3, hl⟩)
  have HL := hide hl
  have HS := hide hS
  clear h1 h2 h3 hS hl HV h63
  go_enter Tryz.func57, Tryz.ntmps57
  go_wp2_with fail
  refine H1.out.mono ?_
  rintro e _ ⟨rfl, rfl⟩
  go_wp2_with fail
  refine H2.out.mono ?_
  rintro e _ ⟨rfl, rfl⟩
  go_wp2_with fail
  refine H3.out.mono ?_
  rintro e _ ⟨rfl, rfl⟩
  go_wp2_with fail
  have HU0 : Hid (FnAt ((w.alloc (.cells #[.int .i64 i, .int .i64 g, .int .i64 n, .slice a 9 c] 36)).alloc (.cells #[.bool false, .bool false, .bool false, .bool false, .bool false, .bool false, .bool false, .bool false, .bool false, .bool false, .bool false, .bool false] 116)) (w.heap.size + 1) 116 12 (fun d => .bool (usedB l 0 d))) := by
    unfold Hid FnAt
    have := heap_alloc_new (w.alloc (.cells #[.int .i64 i, .int .i64 g, .int .i64 n, .slice a 9 c] 36)) (.cells #[.bool false, .bool false, .bool false, .bool false, .bool false, .bool false, .bool false, .bool false, .bool false, .bool false, .bool false, .bool false] 116)
    rw [World.size_alloc] at this
    rw [this]
    congr 2
  have HB0 : Hid (Below w.heap.size w ((w.alloc (.cells #[.int .i64 i, .int .i64 g, .int .i64 n, .slice a 9 c] 36)).alloc (.cells #[.bool false, .bool false, .bool false, .bool false, .bool false, .bool false, .bool false, .bool false, .bool false, .bool false, .bool false, .bool false] 116))) := HB.out.alloc HB.out.size _
  clear HB H1 H2 H3
  go_loopw [31] (fun y wr => ∃ j : Nat, j ≤ 9 ∧ y = .int .i64 j ∧ locsTo l j ∧ FnAt wr (w.heap.size + 1) 116 12 (fun d => .bool (usedB l j d)) ∧ Below w.heap.size w wr) (fun y _ => 9 - (intOf y).toNat)
  case atStart => exact ⟨0, by omega, rfl, locsTo_zero l, HU0.out, HB0.out⟩
  case round =>
    obtain ⟨j, hj, rfl, hto, hus, hbl⟩ := hrel
    have HB := hide hbl
    have HT := hide hto
    have HU := hide hus
    clear hbl hto hus HU0 HB0
    by_cases hlt : j < 9
    · have hd : decide ((j : Int) < 9) = true := by simp; omega
      have hdi : (j : Int) < 9 := by omega
      have hd0 : (0 : Int) ≤ (j : Int) := by omega
      obtain ⟨⟨x1, x2⟩, hx⟩ : ∃ x, l[j]? = some x := ⟨_, List.getElem?_eq_getElem (by have := HL.out; omega)⟩
      obtain ⟨b1, o1, rfl, hb1, p1, p2⟩ := HS.out.nth hx
      have e1 := (HB.out.cell (p := ⟨b1, o1 + j * 2, none⟩) hb1).trans p1
      have e2 := (HB.out.cell (p := ⟨b1, o1 + j * 2 + 1, none⟩) hb1).trans p2
      simp only at e1 e2
      have HX := hide hx
      have HB1 := hide (HB.out.alloc HB.out.size (.cells #[.int .i64 x1, .int .i64 x2] 84))
      have HU1 := hide (HU.out.alloc (.cells #[.int .i64 x1, .int .i64 x2] 84))
      have K1 := hide (upTo_any x1 11 (wr.alloc (.cells #[.int .i64 x1, .int .i64 x2] 84)))
      have K2 := hide (upTo_any x2 47 (wr.alloc (.cells #[.int .i64 x1, .int .i64 x2] 84)))
      clear hx p1 p2
      by_cases r1 : 0 ≤ x1 ∧ x1 ≤ 11
      case neg =>
        have HF : Hid (false = decide (volR i g n l)) := volR_no fun q => locs_bad HX.out (fun z => r1 z.1) (HVL.out.1 q)
        rw [decide_eq_false r1] at K1
        clear r1
        go_wp2_with fail
        refine K1.out.mono ?_
        rintro e _ ⟨rfl, rfl⟩
        go_wp2_with fail
        try go_ret
        exact ⟨ret_bool HF.out, HB1.out⟩
      rw [decide_eq_true r1] at K1
      by_cases r2 : 0 ≤ x2 ∧ x2 ≤ 47
      case neg =>
        have HF : Hid (false = decide (volR i g n l)) := volR_no fun q => locs_bad HX.out (fun z => r2 z.2) (HVL.out.1 q)
        rw [decide_eq_false r2] at K2
        clear r1 r2
        go_wp2_with fail
        refine K1.out.mono ?_
        rintro e _ ⟨rfl, rfl⟩
        go_wp2_with fail
        refine K2.out.mono ?_
        rintro e _ ⟨rfl, rfl⟩
        go_wp2_with fail
        try go_ret
        exact ⟨ret_bool HF.out, HB1.out⟩
      rw [decide_eq_true r2] at K2
      obtain ⟨d, rfl⟩ := Int.eq_ofNat_of_zero_le r1.1
      have hd12 : d < 12 := by omega
      have hdx : (d : Int) < 12 := by omega
      have hdy : (0 : Int) ≤ (d : Int) := by omega
      have u1 := HU1.out.cell hd12
      have f1 := HU1.out.free d
      have HR : Hid (locR ((d : Int), x2)) := ⟨r1, r2⟩
      have hgt : w.heap.size + 1 < wr.heap.size := HU.out.lt
      have hne : w.heap.size + 1 ≠ wr.heap.size := by omega
      clear r1 r2
      by_cases hu : usedB l j d = true
      · have HF : Hid (false = decide (volR i g n l)) := volR_no fun q => by
          obtain ⟨i', y, hi', hy, ey⟩ := usedB_yes hu
          exact locs_twice hy HX.out (by omega) ey (HVL.out.1 q)
        rw [hu] at u1
        go_wp2_with fail
        refine K1.out.mono ?_
        rintro e _ ⟨rfl, rfl⟩
        go_wp2_with fail
        refine K2.out.mono ?_
        rintro e _ ⟨rfl, rfl⟩
        go_wp2_with fail
        try go_ret
        exact ⟨ret_bool HF.out, HB1.out⟩
      · have hu' : usedB l j d = false := by simpa using hu
        rw [hu'] at u1
        have HN : Hid (locsTo l (j + 1)) := locsTo_step HT.out HX.out HR.out (fun i' y hi' hy => usedB_no hu' i' y hi' hy)
        have HU2 : Hid (FnAt ((wr.setCell ⟨w.heap.size + 1, d, none⟩ (.bool true)).alloc (.cells #[.int .i64 (d : Int), .int .i64 x2] 84)) (w.heap.size + 1) 116 12 (fun e => .bool (usedB l (j + 1) e))) := by
          refine FnAt.alloc ((HU.out.set d (.bool true)).congr fun p hp => ?_) _
          rw [usedB_step HX.out]
          by_cases q : p = d
          · subst q; simp
          · rw [if_neg q]
            have : (((d : Int)) == (p : Int)) = false := by simp; omega
            rw [this, Bool.or_false]
        have HB2 : Hid (Below w.heap.size w ((wr.setCell ⟨w.heap.size + 1, d, none⟩ (.bool true)).alloc (.cells #[.int .i64 (d : Int), .int .i64 x2] 84))) := (HB.out.setCell (by show w.heap.size ≤ w.heap.size + 1; omega) _).alloc (by simp [World.setCell]; have := HB.out.size; omega) _
        clear hu hu'
        go_wp2_with fail
        refine K1.out.mono ?_
        rintro e _ ⟨rfl, rfl⟩
        go_wp2_with fail
        refine K2.out.mono ?_
        rintro e _ ⟨rfl, rfl⟩
        go_wp2_with fail
        exact ⟨⟨j + 1, by omega, by go_num, HN.out, HU2.out, HB2.out⟩, by simp [intOf]; omega⟩
    · have hd : decide ((j : Int) < 9) = false := by simp; omega
      have hdi : ¬ (j : Int) < 9 := by omega
      have HF : Hid (true = decide (volR i g n l)) := volR_yes (HVL.out.2 (locsTo_all (by have h1 := HL.out; have h2 := HT.out; rw [h1]; obtain rfl : j = 9 := (by omega); exact h2)))
      go_wp2_with fail
      try go_ret
      exact ⟨ret_bool HF.out, HB.out⟩
end Go.Proofs.YtonhmihmnkicdaaGreat
