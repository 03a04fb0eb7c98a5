/- What slices.Equal of places, sameVolume and Same answer; the document's Same, Volumes and Same. -/
import Derived.Test.YtonhmihmnkicdaaGreatRcMem
namespace Go.Proofs.YtonhmihmnkicdaaGreat
open Go.RowKit
set_option linter.unusedVariables false
theorem list_same {l m : List (Int × Int)} (hl : l.length = m.length) (h : ∀ i, i < l.length → l[i]? = m[i]?) : l = m := by
  apply List.ext_getElem?
  intro i
  by_cases hi : i < l.length
  · exact h i hi
  · rw [List.getElem?_eq_none (by omega), List.getElem?_eq_none (by omega)]
theorem not_same {l m : List (Int × Int)} {k : Nat} {x y : Int × Int} (hx : l[k]? = some x) (hy : m[k]? = some y) (h : x ≠ y) : l ≠ m := by
  rintro rfl
  rw [hx] at hy
  exact h (Option.some.inj hy)
set_option maxRecDepth 100000 in
set_option maxHeartbeats 4000000 in
theorem leq_any (a1 a2 : Option Addr) (c1 c2 n m : Nat) (l k : List (Int × Int)) (w : World) (hl : l.length = n) (hk : k.length = m) (h63 : n ≤ 1000000) (h64 : m ≤ 1000000) (h1 : LocsAt w a1 l) (h2 : LocsAt w a2 k) : Calls Tryz.prog 93 #[.slice a1 n c1, .slice a2 m c2] w fun e w' => e = .returned (.bool (decide (l = k))) ∧ Below w.heap.size w w' := by
  have HL := hide hl
  have HK := hide hk
  have H1 := hide h1
  have H2 := hide h2
  by_cases hnm : ¬ n = m
  · have hq : ((n : Int) == (m : Int)) = false := by simp; omega
    have hq2 : ((n : Int) != (m : Int)) = true := by simp; omega
    have HF : Hid (false = decide (l = k)) := by unfold Hid; symm; simp; rintro rfl; omega
    clear hl hk h1 h2
    go_enter Tryz.func93, Tryz.ntmps93
    go_wp2_with fail
    try go_ret
    exact ⟨ret_bool HF.out, Below.refl _ _⟩
  clear hl hk h1 h2
  obtain rfl : n = m := by omega
  clear hnm
  go_enter Tryz.func93, Tryz.ntmps93
  go_wp2_with fail
  go_loopw [13] (fun y wr => ∃ j : Nat, j ≤ n ∧ y = .int .i64 j ∧ (∀ i, i < j → l[i]? = k[i]?) ∧ Below w.heap.size w wr) (fun y _ => n - (intOf y).toNat)
  case atStart => exact ⟨0, by omega, rfl, fun i hi => by omega, Below.refl _ _⟩
  case round =>
    obtain ⟨j, hj, rfl, hsm, hbl⟩ := hrel
    have HB := hide hbl
    have HS := hide hsm
    clear hbl hsm
    by_cases hlt : j < n
    · have hd : decide ((j : Int) < (n : Int)) = true := by simp; omega
      have hdi : (j : Int) < (n : Int) := by omega
      have hd0 : (0 : Int) ≤ (j : Int) := by omega
      obtain ⟨⟨x1, x2⟩, hx⟩ : ∃ x, l[j]? = some x := ⟨_, List.getElem?_eq_getElem (by have := HL.out; omega)⟩
      obtain ⟨⟨y1, y2⟩, hy⟩ : ∃ x, k[j]? = some x := ⟨_, List.getElem?_eq_getElem (by have := HK.out; omega)⟩
      obtain ⟨b1, o1, rfl, hb1, p1, p2⟩ := H1.out.nth hx
      obtain ⟨b2, o2, rfl, hb2, p3, p4⟩ := H2.out.nth hy
      have e1 := (HB.out.cell (p := ⟨b1, o1 + j * 2, none⟩) hb1).trans p1
      have e2 := (HB.out.cell (p := ⟨b1, o1 + j * 2 + 1, none⟩) hb1).trans p2
      have e3 := (HB.out.cell (p := ⟨b2, o2 + j * 2, none⟩) hb2).trans p3
      have e4 := (HB.out.cell (p := ⟨b2, o2 + j * 2 + 1, none⟩) hb2).trans p4
      simp only at e1 e2 e3 e4
      have HX := hide hx
      have HY := hide hy
      clear hx hy p1 p2 p3 p4
      by_cases q1 : x1 = y1
      · subst q1
        by_cases q2 : x2 = y2
        · subst q2
          have HN : Hid (∀ i, i < j + 1 → l[i]? = k[i]?) := fun i hi => by
            by_cases e : i = j
            · subst e; rw [HX.out, HY.out]
            · exact HS.out i (by omega)
          go_wp2_with fail
          go_quiet (fail)
          go_wp2_with fail
          all_goals first | exact ⟨⟨j + 1, by omega, by go_num, HN.out, drawn_below HB.out _⟩, by simp [intOf]; omega⟩ | exact ⟨⟨j + 1, by omega, by go_num, HN.out, HB.out⟩, by simp [intOf]; omega⟩
        · have hq : (x2 == y2) = false := by simpa using q2
          have hq2 : (x2 != y2) = true := by simpa using q2
          have HF : Hid (false = decide (l = k)) := by unfold Hid; symm; simpa using not_same HX.out HY.out (by simpa using q2)
          go_wp2_with fail
          go_quiet (fail)
          go_wp2_with fail
          try go_ret
          exact ⟨ret_bool HF.out, drawn_below HB.out _⟩
      · have hq : (x1 == y1) = false := by simpa using q1
        have hq2 : (x1 != y1) = true := by simpa using q1
        have HF : Hid (false = decide (l = k)) := by unfold Hid; symm; simpa using not_same HX.out HY.out (by intro e; exact q1 (congrArg Prod.fst e))
        go_wp2_with fail
        go_quiet (fail)
        go_wp2_with fail
        try go_ret
        exact ⟨ret_bool HF.out, drawn_below HB.out _⟩
    · have hd : decide ((j : Int) < (n : Int)) = false := by simp; omega
      have HF : Hid (true = decide (l = k)) := by
        unfold Hid; symm; simp
        exact list_same (by rw [HL.out, HK.out]) fun i hi => HS.out i (by have := HL.out; omega)
      go_wp2_with fail
      try go_ret
      exact ⟨ret_bool HF.out, HB.out⟩
set_option maxRecDepth 100000 in
set_option maxHeartbeats 4000000 in
theorem lsame_any (a1 a2 : Option Addr) (c1 c2 n m : Nat) (l k : List (Int × Int)) (w : World) (hl : l.length = n) (hk : k.length = m) (h63 : n ≤ 1000000) (h64 : m ≤ 1000000) (h1 : LocsAt w a1 l) (h2 : LocsAt w a2 k) : Calls Tryz.prog 74 #[.slice a1 n c1, .slice a2 m c2] w fun e w' => e = .returned (.bool (decide (l = k))) ∧ Below w.heap.size w w' := by
  have HL := hide hl
  have HK := hide hk
  have H1 := hide h1
  have H2 := hide h2
  by_cases hnm : ¬ n = m
  · have hq : ((n : Int) == (m : Int)) = false := by simp; omega
    have hq2 : ((n : Int) != (m : Int)) = true := by simp; omega
    have HF : Hid (false = decide (l = k)) := by unfold Hid; symm; simp; rintro rfl; omega
    clear hl hk h1 h2
    go_enter Tryz.func74, Tryz.ntmps74
    go_wp2_with fail
    try go_ret
    exact ⟨ret_bool HF.out, Below.refl _ _⟩
  clear hl hk h1 h2
  obtain rfl : n = m := by omega
  clear hnm
  go_enter Tryz.func74, Tryz.ntmps74
  go_wp2_with fail
  go_loopw [5] (fun y wr => ∃ j : Nat, j ≤ n ∧ y = .int .i64 j ∧ (∀ i, i < j → l[i]? = k[i]?) ∧ Below w.heap.size w wr) (fun y _ => n - (intOf y).toNat)
  case atStart => exact ⟨0, by omega, rfl, fun i hi => by omega, Below.refl _ _⟩
  case round =>
    obtain ⟨j, hj, rfl, hsm, hbl⟩ := hrel
    have HB := hide hbl
    have HS := hide hsm
    clear hbl hsm
    by_cases hlt : j < n
    · have hd : decide ((j : Int) < (n : Int)) = true := by simp; omega
      have hdi : (j : Int) < (n : Int) := by omega
      have hd0 : (0 : Int) ≤ (j : Int) := by omega
      obtain ⟨⟨x1, x2⟩, hx⟩ : ∃ x, l[j]? = some x := ⟨_, List.getElem?_eq_getElem (by have := HL.out; omega)⟩
      obtain ⟨⟨y1, y2⟩, hy⟩ : ∃ x, k[j]? = some x := ⟨_, List.getElem?_eq_getElem (by have := HK.out; omega)⟩
      obtain ⟨b1, o1, rfl, hb1, p1, p2⟩ := H1.out.nth hx
      obtain ⟨b2, o2, rfl, hb2, p3, p4⟩ := H2.out.nth hy
      have e1 := (HB.out.cell (p := ⟨b1, o1 + j * 2, none⟩) hb1).trans p1
      have e2 := (HB.out.cell (p := ⟨b1, o1 + j * 2 + 1, none⟩) hb1).trans p2
      have e3 := (HB.out.cell (p := ⟨b2, o2 + j * 2, none⟩) hb2).trans p3
      have e4 := (HB.out.cell (p := ⟨b2, o2 + j * 2 + 1, none⟩) hb2).trans p4
      simp only at e1 e2 e3 e4
      have HX := hide hx
      have HY := hide hy
      clear hx hy p1 p2 p3 p4
      by_cases q1 : x1 = y1
      · subst q1
        by_cases q2 : x2 = y2
        · subst q2
          have HN : Hid (∀ i, i < j + 1 → l[i]? = k[i]?) := fun i hi => by
            by_cases e : i = j
            · subst e; rw [HX.out, HY.out]
            · exact HS.out i (by omega)
          go_wp2_with fail
          go_quiet (fail)
          go_wp2_with fail
          all_goals first | exact ⟨⟨j + 1, by omega, by go_num, HN.out, drawn_below HB.out _⟩, by simp [intOf]; omega⟩ | exact ⟨⟨j + 1, by omega, by go_num, HN.out, HB.out⟩, by simp [intOf]; omega⟩
        · have hq : (x2 == y2) = false := by simpa using q2
          have hq2 : (x2 != y2) = true := by simpa using q2
          have HF : Hid (false = decide (l = k)) := by unfold Hid; symm; simpa using not_same HX.out HY.out (by simpa using q2)
          go_wp2_with fail
          go_quiet (fail)
          go_wp2_with fail
          try go_ret
          exact ⟨ret_bool HF.out, drawn_below HB.out _⟩
      · have hq : (x1 == y1) = false := by simpa using q1
        have hq2 : (x1 != y1) = true := by simpa using q1
        have HF : Hid (false = decide (l = k)) := by unfold Hid; symm; simpa using not_same HX.out HY.out (by intro e; exact q1 (congrArg Prod.fst e))
        go_wp2_with fail
        go_quiet (fail)
        go_wp2_with fail
        try go_ret
        exact ⟨ret_bool HF.out, drawn_below HB.out _⟩
    · have hd : decide ((j : Int) < (n : Int)) = false := by simp; omega
      have HF : Hid (true = decide (l = k)) := by
        unfold Hid; symm; simp
        exact list_same (by rw [HL.out, HK.out]) fun i hi => HS.out i (by have := HL.out; omega)
      go_wp2_with fail
      try go_ret
      exact ⟨ret_bool HF.out, HB.out⟩
set_option maxRecDepth 100000 in
set_option maxHeartbeats 4000000 in
theorem svol_any (i1 g1 n1 i2 g2 n2 : Int) (a1 a2 : Option Addr) (m1 m2 c1 c2 : Nat) (l k : List (Int × Int)) (w : World) (hl : l.length = m1) (hk : k.length = m2) (h63 : m1 ≤ 1000000) (h64 : m2 ≤ 1000000) (h1 : LocsAt w a1 l) (h2 : LocsAt w a2 k) : Calls Tryz.prog 84 #[.agg (vlc i1 g1 n1 a1 m1 c1), .agg (vlc i2 g2 n2 a2 m2 c2)] w fun e w' => e = .returned (.bool (i1 == i2 && (g1 == g2 && (n1 == n2 && decide (l = k))))) ∧ Below w.heap.size w w' := by
  have HB : Hid (Below w.heap.size w ((w.alloc (.cells (vlc i1 g1 n1 a1 m1 c1) 36)).alloc (.cells (vlc i2 g2 n2 a2 m2 c2) 36))) := ((Below.refl _ _).alloc (Nat.le_refl _) _).alloc (by rw [World.size_alloc]; omega) _
  have b2 : Below w.heap.size w ((w.alloc (.cells (vlc i1 g1 n1 a1 m1 c1) 36)).alloc (.cells (vlc i2 g2 n2 a2 m2 c2) 36)) := HB.out
  have HQ := hide (leq_any a1 a2 c1 c2 m1 m2 l k ((w.alloc (.cells (vlc i1 g1 n1 a1 m1 c1) 36)).alloc (.cells (vlc i2 g2 n2 a2 m2 c2) 36)) hl hk h63 h64 (h1.below b2) (h2.below b2))
  clear b2 h1 h2 hl hk h63 h64
  generalize decide (l = k) = d4 at *
  have main : ∀ d1 d2 d3, (i1 == i2) = d1 → (g1 == g2) = d2 → (n1 == n2) = d3 → Calls Tryz.prog 84 #[.agg (vlc i1 g1 n1 a1 m1 c1), .agg (vlc i2 g2 n2 a2 m2 c2)] w fun e w' => e = .returned (.bool (d1 && (d2 && (d3 && d4)))) ∧ Below w.heap.size w w' := by
    intro d1 d2 d3 p1 p2 p3
    simp only [vlc] at HB HQ ⊢
    cases d1
    · go_enter Tryz.func84, Tryz.ntmps84
      go_wp2_with fail
      try go_ret
      exact ⟨rfl, HB.out⟩
    cases d2
    · go_enter Tryz.func84, Tryz.ntmps84
      go_wp2_with fail
      try go_ret
      exact ⟨rfl, HB.out⟩
    cases d3
    · go_enter Tryz.func84, Tryz.ntmps84
      go_wp2_with fail
      try go_ret
      exact ⟨rfl, HB.out⟩
    go_enter Tryz.func84, Tryz.ntmps84
    go_wp2_with fail
    refine HQ.out.mono ?_
    rintro e w1 ⟨rfl, hb⟩
    have HB1 := hide (HB.out.trans (hb.mono HB.out.size))
    clear hb
    go_wp2_with fail
    try go_ret
    exact ⟨rfl, HB1.out⟩
  exact main _ _ _ rfl rfl rfl
set_option maxRecDepth 100000 in
set_option maxHeartbeats 4000000 in
theorem rvol_any (i1 g1 n1 i2 g2 n2 : Int) (a1 a2 : Option Addr) (m1 m2 c1 c2 : Nat) (l k : List (Int × Int)) (w : World) (hl : l.length = m1) (hk : k.length = m2) (h63 : m1 ≤ 1000000) (h64 : m2 ≤ 1000000) (h1 : LocsAt w a1 l) (h2 : LocsAt w a2 k) : Calls Tryz.prog 43 #[.agg (vlc i1 g1 n1 a1 m1 c1), .agg (vlc i2 g2 n2 a2 m2 c2)] w fun e w' => e = .returned (.bool (i1 == i2 && (g1 == g2 && (n1 == n2 && decide (l = k))))) ∧ Below w.heap.size w w' := by
  have HB : Hid (Below w.heap.size w ((w.alloc (.cells (vlc i1 g1 n1 a1 m1 c1) 36)).alloc (.cells (vlc i2 g2 n2 a2 m2 c2) 36))) := ((Below.refl _ _).alloc (Nat.le_refl _) _).alloc (by rw [World.size_alloc]; omega) _
  have b2 : Below w.heap.size w ((w.alloc (.cells (vlc i1 g1 n1 a1 m1 c1) 36)).alloc (.cells (vlc i2 g2 n2 a2 m2 c2) 36)) := HB.out
  have HQ := hide (lsame_any a1 a2 c1 c2 m1 m2 l k ((w.alloc (.cells (vlc i1 g1 n1 a1 m1 c1) 36)).alloc (.cells (vlc i2 g2 n2 a2 m2 c2) 36)) hl hk h63 h64 (h1.below b2) (h2.below b2))
  clear b2 h1 h2 hl hk h63 h64
  generalize decide (l = k) = d4 at *
  have main : ∀ d1 d2 d3, (i1 == i2) = d1 → (g1 == g2) = d2 → (n1 == n2) = d3 → Calls Tryz.prog 43 #[.agg (vlc i1 g1 n1 a1 m1 c1), .agg (vlc i2 g2 n2 a2 m2 c2)] w fun e w' => e = .returned (.bool (d1 && (d2 && (d3 && d4)))) ∧ Below w.heap.size w w' := by
    intro d1 d2 d3 p1 p2 p3
    simp only [vlc] at HB HQ ⊢
    cases d1
    · go_enter Tryz.func43, Tryz.ntmps43
      go_wp2_with fail
      try go_ret
      exact ⟨rfl, HB.out⟩
    cases d2
    · go_enter Tryz.func43, Tryz.ntmps43
      go_wp2_with fail
      try go_ret
      exact ⟨rfl, HB.out⟩
    cases d3
    · go_enter Tryz.func43, Tryz.ntmps43
      go_wp2_with fail
      try go_ret
      exact ⟨rfl, HB.out⟩
    go_enter Tryz.func43, Tryz.ntmps43
    go_wp2_with fail
    refine HQ.out.mono ?_
    rintro e w1 ⟨rfl, hb⟩
    have HB1 := hide (HB.out.trans (hb.mono HB.out.size))
    clear hb
    go_wp2_with fail
    try go_ret
    exact ⟨rfl, HB1.out⟩
  exact main _ _ _ rfl rfl rfl
open Classical in
/-- two records are the same -/
noncomputable def samR (x y : Rc) : Bool := decide (x = y)
theorem samR_iff {x y : Rc} : samR x y = true ↔ x = y := by unfold samR; simp
theorem samR_no {x y : Rc} (h : x ≠ y) : samR x y = false := by unfold samR; simp [h]
theorem samR_self (x : Rc) : samR x x = true := samR_iff.2 rfl
theorem samR_eq (x y : Rc) : samR x y = (x.seq == y.seq && (x.kind == y.kind && ((x.vid == y.vid && (x.vgen == y.vgen && (x.vlen == y.vlen && decide (x.ls = y.ls)))) && ((x.ek.toList == y.ek.toList && (x.ev == y.ev && (x.eo == y.eo && (x.el == y.el && x.ed.toList == y.ed.toList)))) && (x.k.toList == y.k.toList && (x.f == y.f && x.t == y.t)))))) := by
  have hs : ∀ a b : ByteArray, (a.toList == b.toList) = true ↔ a = b := fun a b => by
    constructor
    · intro h
      by_cases e : a = b
      · exact e
      · rw [str_ne e] at h; cases h
    · intro h; exact str_eq h
  rw [Bool.eq_iff_iff, samR_iff]
  simp only [Bool.and_eq_true, hs, beq_iff_eq, decide_eq_true_eq]
  constructor
  · rintro rfl; simp
  · rintro ⟨h1, h2, ⟨h3, h4, h5, h6⟩, ⟨h7, h8, h9, h10, h11⟩, h12, h13, h14⟩
    exact Rc.ext' h1 h2 h3 h4 h5 h6 h7 h8 h9 h10 h11 h12 h13 h14
set_option maxRecDepth 100000 in
set_option maxHeartbeats 8000000 in
theorem same_any (x y : Rc) (a a2 : Option Addr) (c c2 : Nat) (w : World) (h63 : x.ls.length ≤ 1000000) (h64 : y.ls.length ≤ 1000000) (h1 : LocsAt w a x.ls) (h2 : LocsAt w a2 y.ls) : Calls Tryz.prog 61 #[.agg (rcs x a c), .agg (rcs y a2 c2)] w fun e w' => e = .returned (.bool (samR x y)) ∧ Below w.heap.size w w' := by
  rw [samR_eq]
  have HB : Hid (Below w.heap.size w ((w.alloc (.cells (rcs x a c) 43)).alloc (.cells (rcs y a2 c2) 43))) := ((Below.refl _ _).alloc (Nat.le_refl _) _).alloc (by rw [World.size_alloc]; omega) _
  have b2 : Below w.heap.size w ((w.alloc (.cells (rcs x a c) 43)).alloc (.cells (rcs y a2 c2) 43)) := HB.out
  have HQ := hide (svol_any x.vid x.vgen x.vlen y.vid y.vgen y.vlen a a2 x.ls.length y.ls.length c c2 x.ls y.ls ((w.alloc (.cells (rcs x a c) 43)).alloc (.cells (rcs y a2 c2) 43)) rfl rfl h63 h64 (h1.below b2) (h2.below b2))
  clear b2 h1 h2 h63 h64
  have main : ∀ d1 d2 d3 d4 d5 d6 d7 d8 d9 d10 d11, (x.seq == y.seq) = d1 → (x.kind == y.kind) = d2 → (x.vid == y.vid && (x.vgen == y.vgen && (x.vlen == y.vlen && decide (x.ls = y.ls)))) = d3 → (x.ek.toList == y.ek.toList) = d4 → (x.ev == y.ev) = d5 → (x.eo == y.eo) = d6 → (x.el == y.el) = d7 → (x.ed.toList == y.ed.toList) = d8 → (x.k.toList == y.k.toList) = d9 → (x.f == y.f) = d10 → (x.t == y.t) = d11 → Calls Tryz.prog 61 #[.agg (rcs x a c), .agg (rcs y a2 c2)] w fun e w' => e = .returned (.bool (d1 && (d2 && (d3 && ((d4 && (d5 && (d6 && (d7 && d8)))) && (d9 && (d10 && d11))))))) ∧ Below w.heap.size w w' := by
    intro d1 d2 d3 d4 d5 d6 d7 d8 d9 d10 d11 p1 p2 p3 p4 p5 p6 p7 p8 p9 p10 p11
    rw [p3] at HQ
    clear p3
    obtain ⟨x1, x2, x3, x4, x5, xl, x6, x7, x8, x9, x10, x11, x12, x13⟩ := x
    obtain ⟨y1, y2, y3, y4, y5, yl, y6, y7, y8, y9, y10, y11, y12, y13⟩ := y
    simp only [vlc, rcs] at HB HQ p1 p2 p4 p5 p6 p7 p8 p9 p10 p11 ⊢
    cases d1
    · go_enter Tryz.func61, Tryz.ntmps61
      go_wp2_with fail
      try go_ret
      exact ⟨rfl, HB.out⟩
    cases d2
    · go_enter Tryz.func61, Tryz.ntmps61
      go_wp2_with fail
      try go_ret
      exact ⟨rfl, HB.out⟩
    have RB1 := hide ((rbx_new 43 ⟨x1, x2, x3, x4, x5, xl, x6, x7, x8, x9, x10, x11, x12, x13⟩ a c w).below ((Below.refl _ _).alloc (Nat.le_refl _) (.cells (rcs ⟨y1, y2, y3, y4, y5, yl, y6, y7, y8, y9, y10, y11, y12, y13⟩ a2 c2) 43)) (by rw [World.size_alloc]; omega))
    have RB2 := hide (rbx_new 43 ⟨y1, y2, y3, y4, y5, yl, y6, y7, y8, y9, y10, y11, y12, y13⟩ a2 c2 (w.alloc (.cells (rcs ⟨x1, x2, x3, x4, x5, xl, x6, x7, x8, x9, x10, x11, x12, x13⟩ a c) 43)))
    rw [World.size_alloc] at RB2
    go_enter Tryz.func61, Tryz.ntmps61
    go_wp2_with fail
    refine HQ.out.mono ?_
    rintro e w1 ⟨rfl, hb⟩
    have HB1 := hide (HB.out.trans (hb.mono HB.out.size))
    have D1 := hide (RBx.below RB1.out hb (RBx.lt RB1.out))
    have D2 := hide (RBx.below RB2.out hb (RBx.lt RB2.out))
    clear hb HB HQ RB1 RB2
    obtain ⟨c0, c1, c2', c3, c4, c5, c6, c7, c8, c9, c10, c11, c12, c13⟩ := D1.out.cells
    obtain ⟨e0, e1, e2, e3, e4, e5, e6, e7, e8, e9, e10, e11, e12, e13⟩ := D2.out.cells
    clear c0 c1 c2' c3 c4 c5 e0 e1 e2 e3 e4 e5 D1 D2
    simp only at c6 c7 c8 c9 c10 c11 c12 c13 e6 e7 e8 e9 e10 e11 e12 e13
    cases d3
    · go_wp2_with fail
      try go_ret
      exact ⟨rfl, HB1.out⟩
    cases d4
    · go_wp2_with fail
      try go_ret
      exact ⟨rfl, HB1.out⟩
    cases d5
    · go_wp2_with fail
      try go_ret
      exact ⟨rfl, HB1.out⟩
    cases d6
    · go_wp2_with fail
      try go_ret
      exact ⟨rfl, HB1.out⟩
    cases d7
    · go_wp2_with fail
      try go_ret
      exact ⟨rfl, HB1.out⟩
    cases d8
    · go_wp2_with fail
      try go_ret
      exact ⟨rfl, HB1.out⟩
    cases d9
    · go_wp2_with fail
      try go_ret
      exact ⟨rfl, HB1.out⟩
    cases d10
    · go_wp2_with fail
      try go_ret
      exact ⟨rfl, HB1.out⟩
    go_wp2_with fail
    try go_ret
    exact ⟨rfl, HB1.out⟩
  exact main _ _ _ _ _ _ _ _ _ _ _ rfl rfl rfl rfl rfl rfl rfl rfl rfl rfl rfl
set_option maxRecDepth 100000 in
set_option maxHeartbeats 8000000 in
theorem rsame_any (x y : Rc) (a a2 : Option Addr) (c c2 : Nat) (w : World) (h63 : x.ls.length ≤ 1000000) (h64 : y.ls.length ≤ 1000000) (h1 : LocsAt w a x.ls) (h2 : LocsAt w a2 y.ls) : Calls Tryz.prog 67 #[.agg (rcs x a c), .agg (rcs y a2 c2)] w fun e w' => e = .returned (.bool (samR x y)) ∧ Below w.heap.size w w' := by
  rw [samR_eq]
  have HB : Hid (Below w.heap.size w ((w.alloc (.cells (rcs x a c) 40)).alloc (.cells (rcs y a2 c2) 40))) := ((Below.refl _ _).alloc (Nat.le_refl _) _).alloc (by rw [World.size_alloc]; omega) _
  have b2 : Below w.heap.size w ((w.alloc (.cells (rcs x a c) 40)).alloc (.cells (rcs y a2 c2) 40)) := HB.out
  have HQ := hide (rvol_any x.vid x.vgen x.vlen y.vid y.vgen y.vlen a a2 x.ls.length y.ls.length c c2 x.ls y.ls ((w.alloc (.cells (rcs x a c) 40)).alloc (.cells (rcs y a2 c2) 40)) rfl rfl h63 h64 (h1.below b2) (h2.below b2))
  clear b2 h1 h2 h63 h64
  have main : ∀ d1 d2 d3 d4 d5 d6 d7 d8 d9 d10 d11, (x.seq == y.seq) = d1 → (x.kind == y.kind) = d2 → (x.vid == y.vid && (x.vgen == y.vgen && (x.vlen == y.vlen && decide (x.ls = y.ls)))) = d3 → (x.ek.toList == y.ek.toList) = d4 → (x.ev == y.ev) = d5 → (x.eo == y.eo) = d6 → (x.el == y.el) = d7 → (x.ed.toList == y.ed.toList) = d8 → (x.k.toList == y.k.toList) = d9 → (x.f == y.f) = d10 → (x.t == y.t) = d11 → Calls Tryz.prog 67 #[.agg (rcs x a c), .agg (rcs y a2 c2)] w fun e w' => e = .returned (.bool (d1 && (d2 && (d3 && ((d4 && (d5 && (d6 && (d7 && d8)))) && (d9 && (d10 && d11))))))) ∧ Below w.heap.size w w' := by
    intro d1 d2 d3 d4 d5 d6 d7 d8 d9 d10 d11 p1 p2 p3 p4 p5 p6 p7 p8 p9 p10 p11
    rw [p3] at HQ
    clear p3
    obtain ⟨x1, x2, x3, x4, x5, xl, x6, x7, x8, x9, x10, x11, x12, x13⟩ := x
    obtain ⟨y1, y2, y3, y4, y5, yl, y6, y7, y8, y9, y10, y11, y12, y13⟩ := y
    simp only [vlc, rcs] at HB HQ p1 p2 p4 p5 p6 p7 p8 p9 p10 p11 ⊢
    cases d1
    · go_enter Tryz.func67, Tryz.ntmps67
      go_wp2_with fail
      try go_ret
      exact ⟨rfl, HB.out⟩
    cases d2
    · go_enter Tryz.func67, Tryz.ntmps67
      go_wp2_with fail
      try go_ret
      exact ⟨rfl, HB.out⟩
    have RB1 := hide ((rbx_new 40 ⟨x1, x2, x3, x4, x5, xl, x6, x7, x8, x9, x10, x11, x12, x13⟩ a c w).below ((Below.refl _ _).alloc (Nat.le_refl _) (.cells (rcs ⟨y1, y2, y3, y4, y5, yl, y6, y7, y8, y9, y10, y11, y12, y13⟩ a2 c2) 40)) (by rw [World.size_alloc]; omega))
    have RB2 := hide (rbx_new 40 ⟨y1, y2, y3, y4, y5, yl, y6, y7, y8, y9, y10, y11, y12, y13⟩ a2 c2 (w.alloc (.cells (rcs ⟨x1, x2, x3, x4, x5, xl, x6, x7, x8, x9, x10, x11, x12, x13⟩ a c) 40)))
    rw [World.size_alloc] at RB2
    go_enter Tryz.func67, Tryz.ntmps67
    go_wp2_with fail
    refine HQ.out.mono ?_
    rintro e w1 ⟨rfl, hb⟩
    have HB1 := hide (HB.out.trans (hb.mono HB.out.size))
    have D1 := hide (RBx.below RB1.out hb (RBx.lt RB1.out))
    have D2 := hide (RBx.below RB2.out hb (RBx.lt RB2.out))
    clear hb HB HQ RB1 RB2
    obtain ⟨c0, c1, c2', c3, c4, c5, c6, c7, c8, c9, c10, c11, c12, c13⟩ := D1.out.cells
    obtain ⟨e0, e1, e2, e3, e4, e5, e6, e7, e8, e9, e10, e11, e12, e13⟩ := D2.out.cells
    clear c0 c1 c2' c3 c4 c5 e0 e1 e2 e3 e4 e5 D1 D2
    simp only at c6 c7 c8 c9 c10 c11 c12 c13 e6 e7 e8 e9 e10 e11 e12 e13
    cases d3
    · go_wp2_with fail
      try go_ret
      exact ⟨rfl, HB1.out⟩
    cases d4
    · go_wp2_with fail
      try go_ret
      exact ⟨rfl, HB1.out⟩
    cases d5
    · go_wp2_with fail
      try go_ret
      exact ⟨rfl, HB1.out⟩
    cases d6
    · go_wp2_with fail
      try go_ret
      exact ⟨rfl, HB1.out⟩
    cases d7
    · go_wp2_with fail
      try go_ret
      exact ⟨rfl, HB1.out⟩
    cases d8
    · go_wp2_with fail
      try go_ret
      exact ⟨rfl, HB1.out⟩
    cases d9
    · go_wp2_with fail
      try go_ret
      exact ⟨rfl, HB1.out⟩
    cases d10
    · go_wp2_with fail
      try go_ret
      exact ⟨rfl, HB1.out⟩
    go_wp2_with fail
    try go_ret
    exact ⟨rfl, HB1.out⟩
  exact main _ _ _ _ _ _ _ _ _ _ _ rfl rfl rfl rfl rfl rfl rfl rfl rfl rfl rfl
end Go.Proofs.YtonhmihmnkicdaaGreat
