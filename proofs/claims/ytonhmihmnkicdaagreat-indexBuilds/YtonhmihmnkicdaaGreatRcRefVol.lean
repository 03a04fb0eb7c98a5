/- What the document's Volume answers. -/
import Derived.Test.YtonhmihmnkicdaaGreatRcVol
namespace Go.Proofs.YtonhmihmnkicdaaGreat
open Go.RowKit
set_option linter.unusedVariables false
set_option maxRecDepth 100000 in
set_option maxHeartbeats 8000000 in
theorem rfvol_any (i g n : Int) (a : Option Addr) (m c : Nat) (l : List (Int × Int)) (w : World) (hl : l.length = m) (h63 : m ≤ 1000000) (hS : LocsAt w a l) : Calls Tryz.prog 64 #[.agg (vlc i g n a m c)] w fun e w' => e = .returned (.bool (decide (volR i g n l))) ∧ Below w.heap.size w w' := by
  have HB : Hid (Below w.heap.size w (w.alloc (.cells (vlc i g n a m c) 36))) := (Below.refl _ _).alloc (Nat.le_refl _) _
  have H1 := hide (rnumber_any i (w.alloc (.cells (vlc i g n a m c) 36)))
  have H2 := hide (rnumber_any g (w.alloc (.cells (vlc i g n a m c) 36)))
  have HV0 : Hid ((w.alloc (.cells (vlc i g n a m c) 36)).heap[w.heap.size]? = some (.cells (vlc i g n a m c) 36 (0, 0))) := heap_alloc_new _ _
  simp only [vlc] at HB H1 H2 HV0 ⊢
  by_cases h1 : numR i
  case neg =>
    have HF := hide (volR_no (i := i) (g := g) (n := n) (l := l) fun q => h1 q.1)
    rw [decide_eq_false h1] at H1
    rw [← HF.out]
    clear h1 hS
    go_enter Tryz.func64, Tryz.ntmps64
    go_wp2_with fail
    refine H1.out.mono ?_
    rintro e _ ⟨rfl, rfl⟩
    go_wp2_with fail
    try go_ret
    exact ⟨rfl, HB.out⟩
  by_cases h2 : numR g
  case neg =>
    have HF := hide (volR_no (i := i) (g := g) (n := n) (l := l) fun q => h2 q.2.1)
    rw [decide_eq_true h1] at H1
    rw [decide_eq_false h2] at H2
    rw [← HF.out]
    clear h1 h2 hS
    go_enter Tryz.func64, Tryz.ntmps64
    go_wp2_with fail
    refine H1.out.mono ?_
    rintro e _ ⟨rfl, rfl⟩
    go_wp2_with fail
    refine H2.out.mono ?_
    rintro e _ ⟨rfl, rfl⟩
    go_wp2_with fail
    try go_ret
    exact ⟨rfl, HB.out⟩
  have HV := hide (vol9 (i := i) (g := g) (n := n) (l := l))
  rw [decide_eq_true h1] at H1
  rw [decide_eq_true h2] at H2
  by_cases h3 : 0 ≤ n
  case neg =>
    have HF := hide (volR_no (i := i) (g := g) (n := n) (l := l) fun q => h3 q.2.2.1.1)
    have hq : decide (n < 0) = true := by simp; omega
    rw [← HF.out]
    clear h1 h2 hS
    go_enter Tryz.func64, Tryz.ntmps64
    go_wp2_with fail
    refine H1.out.mono ?_
    rintro e _ ⟨rfl, rfl⟩
    go_wp2_with fail
    refine H2.out.mono ?_
    rintro e _ ⟨rfl, rfl⟩
    go_wp2_with fail
    try go_ret
    exact ⟨rfl, HB.out⟩
  have hq3 : decide (n < 0) = false := by simp; omega
  by_cases h4 : n ≤ 384
  case neg =>
    have HF := hide (volR_no (i := i) (g := g) (n := n) (l := l) fun q => h4 q.2.2.1.2)
    have hq : decide (384 < n) = true := by simp; omega
    rw [← HF.out]
    clear h1 h2 h3 hS
    go_enter Tryz.func64, Tryz.ntmps64
    go_wp2_with fail
    refine H1.out.mono ?_
    rintro e _ ⟨rfl, rfl⟩
    go_wp2_with fail
    refine H2.out.mono ?_
    rintro e _ ⟨rfl, rfl⟩
    go_wp2_with fail
    try go_ret
    exact ⟨rfl, HB.out⟩
  have hq4 : decide (384 < n) = false := by simp; omega
  by_cases h9 : m = 9
  case neg =>
    have HF := hide (volR_no (i := i) (g := g) (n := n) (l := l) fun q => h9 (by rw [← hl]; exact q.2.2.2.1))
    have hq : ((m : Int) != 9) = true := by simp; omega
    have hq2 : ((m : Int) == 9) = false := by simp; omega
    rw [← HF.out]
    clear h1 h2 h3 h4 hS
    go_enter Tryz.func64, Tryz.ntmps64
    go_wp2_with fail
    refine H1.out.mono ?_
    rintro e _ ⟨rfl, rfl⟩
    go_wp2_with fail
    refine H2.out.mono ?_
    rintro e _ ⟨rfl, rfl⟩
    go_wp2_with fail
    try go_ret
    exact ⟨rfl, HB.out⟩
  subst h9
  have HVL := hide (HV.out ⟨h1, h2, ⟨h3, h4⟩, hl⟩)
  have HL := hide hl
  have HS := hide hS
  clear h1 h2 h3 h4 hS hl HV h63
  go_enter Tryz.func64, Tryz.ntmps64
  go_wp2_with fail
  refine H1.out.mono ?_
  rintro e _ ⟨rfl, rfl⟩
  go_wp2_with fail
  refine H2.out.mono ?_
  rintro e _ ⟨rfl, rfl⟩
  go_wp2_with fail
  clear H1 H2
  go_loopw [3] (fun y wr => ∃ j : Nat, j ≤ 9 ∧ y = .int .i64 j ∧ locsTo l j ∧ wr.heap[w.heap.size]? = some (.cells #[.int .i64 i, .int .i64 g, .int .i64 n, .slice a 9 c] 36 (0, 0)) ∧ Below w.heap.size w wr) (fun y _ => 9 - (intOf y).toNat)
  case atStart => exact ⟨0, by omega, rfl, locsTo_zero l, HV0.out, HB.out⟩
  case round =>
    obtain ⟨j, hj, rfl, hto, hvb, hbl⟩ := hrel
    clear HB HV0
    have HB := hide hbl
    have HT := hide hto
    have HVB := hide hvb
    have v3 : wr.cell? ⟨w.heap.size, 3, none⟩ = some (.slice a 9 c) := cell_of_block hvb
    clear hbl hto hvb
    by_cases hlt : j < 9
    · have hd : decide ((j : Int) < 9) = true := by simp; omega
      have hdi : (j : Int) < 9 := by omega
      have hd0 : (0 : Int) ≤ (j : Int) := by omega
      obtain ⟨⟨x1, x2⟩, hx⟩ : ∃ x, l[j]? = some x := ⟨_, List.getElem?_eq_getElem (by have := HL.out; omega)⟩
      obtain ⟨b1, o1, rfl, hb1, p1, p2⟩ := HS.out.nth hx
      have e1 := (HB.out.cell (p := ⟨b1, o1 + j * 2, none⟩) hb1).trans p1
      have e2 := (HB.out.cell (p := ⟨b1, o1 + j * 2 + 1, none⟩) hb1).trans p2
      simp only at e1 e2
      have HX := hide hx
      have HP1 := hide p1
      have K1 := hide (lis_any x1 x2 wr)
      clear hx p1 p2
      by_cases r1 : locR (x1, x2)
      case neg =>
        have HF : Hid (false = decide (volR i g n l)) := volR_no fun q => locs_bad HX.out r1 (HVL.out.1 q)
        rw [decide_eq_false r1] at K1
        clear r1
        go_wp2_with fail
        refine K1.out.mono ?_
        rintro e w1 ⟨rfl, hb⟩
        have HB1 := hide (HB.out.trans (hb.mono HB.out.size))
        clear hb
        go_wp2_with fail
        try go_ret
        exact ⟨ret_bool HF.out, HB1.out⟩
      rw [decide_eq_true r1] at K1
      have HR := hide r1
      clear r1
      go_wp2_with fail
      refine K1.out.mono ?_
      rintro e w1 ⟨rfl, hb⟩
      have HB1 := hide (HB.out.trans (hb.mono HB.out.size))
      have HVB1 := hide ((hb.block _ (lt_of_block HVB.out)).trans HVB.out)
      clear hb HB HVB v3 e1 e2 K1
      go_wp2_with fail
      go_loopw [4] (fun y wq => ∃ k : Nat, k ≤ j ∧ y = .int .i64 k ∧ (∀ i' y, i' < k → l[i']? = some y → y.1 ≠ x1) ∧ wq.heap[w.heap.size]? = some (.cells #[.int .i64 i, .int .i64 g, .int .i64 n, .slice (some ⟨b1, o1, none⟩) 9 c] 36 (0, 0)) ∧ Below w.heap.size w wq) (fun y _ => j - (intOf y).toNat)
      case atStart => exact ⟨0, by omega, rfl, fun _ _ h => by omega, HVB1.out, HB1.out⟩
      case round =>
        obtain ⟨k, hk, rfl, hno, hvb, hbl⟩ := hrel
        clear HB1 HVB1
        have HB := hide hbl
        have HNO := hide hno
        have HVB := hide hvb
        have v3 : wr.cell? ⟨w.heap.size, 3, none⟩ = some (.slice (some ⟨b1, o1, none⟩) 9 c) := cell_of_block hvb
        clear hbl hno hvb
        have e1 := (HB.out.cell (p := ⟨b1, o1 + j * 2, none⟩) hb1).trans HP1.out
        try simp only at e1
        by_cases hlk : k < j
        · have hk2 : decide ((k : Int) < (j : Int)) = true := by simp; omega
          have hk3 : (k : Int) < (j : Int) := by omega
          have hk9 : (k : Int) < 9 := by omega
          have hk0 : (0 : Int) ≤ (k : Int) := by omega
          obtain ⟨⟨y1, y2⟩, hy⟩ : ∃ x, l[k]? = some x := ⟨_, List.getElem?_eq_getElem (by have := HL.out; omega)⟩
          obtain ⟨b2, o2, hbo, hb2, p1, p2⟩ := HS.out.nth hy
          simp at hbo
          obtain ⟨rfl, rfl⟩ := hbo
          have e3 := (HB.out.cell (p := ⟨b1, o1 + k * 2, none⟩) hb1).trans p1
          simp only at e3
          have HY := hide hy
          clear hy p1 p2 hb2
          by_cases r1 : y1 = x1
          · subst r1
            have HF : Hid (false = decide (volR i g n l)) := volR_no fun q => locs_twice HY.out HX.out (by omega) rfl (HVL.out.1 q)
            go_wp2_with fail
            go_quiet (fail)
            go_wp2_with fail
            try go_ret
            exact ⟨ret_bool HF.out, drawn_below HB.out _⟩
          · have hq : (y1 == x1) = false := by simpa using r1
            have HN : Hid (∀ i' y, i' < k + 1 → l[i']? = some y → y.1 ≠ x1) := fun i' y hi hy => by
              by_cases q : i' = k
              · subst q
                have := HY.out
                rw [hy] at this
                cases this
                exact r1
              · exact HNO.out i' y (by omega) hy
            go_wp2_with fail
            go_quiet (fail)
            go_wp2_with fail
            all_goals first | exact ⟨⟨k + 1, by omega, by go_num, HN.out, HVB.out, drawn_below HB.out _⟩, by simp [intOf]; omega⟩ | exact ⟨⟨k + 1, by omega, by go_num, HN.out, HVB.out, HB.out⟩, by simp [intOf]; omega⟩
        · have hk2 : decide ((k : Int) < (j : Int)) = false := by simp; omega
          have hk3 : ¬ (k : Int) < (j : Int) := by omega
          have HN : Hid (locsTo l (j + 1)) := locsTo_step HT.out HX.out HR.out (fun i' y hi' hy => HNO.out i' y (by omega) hy)
          go_wp2_with fail
          exact ⟨⟨j + 1, by omega, by go_num, HN.out, HVB.out, HB.out⟩, by simp [intOf]; omega⟩
    · have hd : decide ((j : Int) < 9) = false := by simp; omega
      have hdi : ¬ (j : Int) < 9 := by omega
      have HF : Hid (true = decide (volR i g n l)) := volR_yes (HVL.out.2 (locsTo_all (by have h1 := HL.out; have h2 := HT.out; rw [h1]; obtain rfl : j = 9 := (by omega); exact h2)))
      go_wp2_with fail
      try go_ret
      exact ⟨ret_bool HF.out, HB.out⟩
end Go.Proofs.YtonhmihmnkicdaaGreat
