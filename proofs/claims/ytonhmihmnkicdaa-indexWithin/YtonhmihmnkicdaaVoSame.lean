/- Are two slices of places, two volumes, two lists of volumes the same? (sluicegateref10.Same, sluicegateref11.Volumes, sluicegateref13.Same) -/
import Derived.Test.YtonhmihmnkicdaaPnVol
import Derived.StillTailTactics
namespace Go.Proofs.Ytonhmihmnkicdaa
open Go.RowKit
set_option linter.unusedVariables false
set_option linter.unusedVariables false
theorem vlist_same {l m : List (Int × Int)} (hl : l.length = m.length) (h : ∀ i, i < l.length → l[i]? = m[i]?) : l = m := by
  apply List.ext_getElem?
  intro i
  by_cases hi : i < l.length
  · exact h i hi
  · rw [List.getElem?_eq_none (by omega), List.getElem?_eq_none (by omega)]
theorem vnot_same {l m : List (Int × Int)} {k : Nat} {x y : Int × Int} (hx : l[k]? = some x) (hy : m[k]? = some y) (h : x ≠ y) : l ≠ m := by
  rintro rfl
  rw [hx] at hy
  exact h (Option.some.inj hy)
theorem vnth {w : World} {a : Option Addr} {l : List (Int × Int)} (h : LocsAt w a l) {k : Nat} {x : Int × Int} (hx : l[k]? = some x) : ∃ b o, a = some ⟨b, o, none⟩ ∧ b < w.heap.size ∧ w.cell? ⟨b, o + k * 2, none⟩ = some (.int .i64 x.1) ∧ w.cell? ⟨b, o + k * 2 + 1, none⟩ = some (.int .i64 x.2) := by
  rcases h with q | ⟨b, o, ha, hlt, hc⟩
  · rw [q] at hx; simp at hx
  · exact ⟨b, o, ha, hlt, hc k x hx⟩
set_option maxRecDepth 100000 in
set_option maxHeartbeats 4000000 in
theorem vlsame_any (a1 a2 : Option Addr) (c1 c2 n m : Nat) (l k : List (Int × Int)) (w : World) (hl : l.length = n) (hk : k.length = m) (h63 : n ≤ 1000000) (h64 : m ≤ 1000000) (h1 : LocsAt w a1 l) (h2 : LocsAt w a2 k) : Calls Try.prog 64 #[.slice a1 n c1, .slice a2 m c2] w fun e w' => e = .returned (.bool (decide (l = k))) ∧ Below w.heap.size w w' := by
  have HL := hide hl
  have HK := hide hk
  have H1 := hide h1
  have H2 := hide h2
  by_cases hnm : ¬ n = m
  · have hq : ((n : Int) == (m : Int)) = false := by simp; omega
    have hq2 : ((n : Int) != (m : Int)) = true := by simp; omega
    have HF : Hid (false = decide (l = k)) := by unfold Hid; symm; simp; rintro rfl; omega
    clear hl hk h1 h2
    go_enter Try.func64, Try.ntmps64
    go_wp2_with fail
    try go_ret
    exact ⟨ret_bool HF.out, Below.refl _ _⟩
  clear hl hk h1 h2
  obtain rfl : n = m := by omega
  clear hnm
  go_enter Try.func64, Try.ntmps64
  go_wp2_with fail
  go_loopw [5] (fun y wr => ∃ j : Nat, j ≤ n ∧ y = .int .i64 j ∧ (∀ i, i < j → l[i]? = k[i]?) ∧ Below w.heap.size w wr) (fun y _ => n - (intOf y).toNat)
  case atStart => exact ⟨0, by omega, rfl, fun i hi => by omega, Below.refl _ _⟩
  case round =>
    obtain ⟨j, hj, rfl, hsm, hbl⟩ := hrel
    have HB := hide hbl
    have HS := hide hsm
    clear hbl hsm
    by_cases hlt : j < n
    · have hd : decide ((j : Int) < (n : Int)) = true := by simp; omega
      have hdi : (j : Int) < (n : Int) := by omega
      have hd0 : (0 : Int) ≤ (j : Int) := by omega
      obtain ⟨⟨x1, x2⟩, hx⟩ : ∃ x, l[j]? = some x := ⟨_, List.getElem?_eq_getElem (by have := HL.out; omega)⟩
      obtain ⟨⟨y1, y2⟩, hy⟩ : ∃ x, k[j]? = some x := ⟨_, List.getElem?_eq_getElem (by have := HK.out; omega)⟩
      obtain ⟨b1, o1, rfl, hb1, p1, p2⟩ := vnth H1.out hx
      obtain ⟨b2, o2, rfl, hb2, p3, p4⟩ := vnth H2.out hy
      have e1 := (HB.out.cell (p := ⟨b1, o1 + j * 2, none⟩) hb1).trans p1
      have e2 := (HB.out.cell (p := ⟨b1, o1 + j * 2 + 1, none⟩) hb1).trans p2
      have e3 := (HB.out.cell (p := ⟨b2, o2 + j * 2, none⟩) hb2).trans p3
      have e4 := (HB.out.cell (p := ⟨b2, o2 + j * 2 + 1, none⟩) hb2).trans p4
      simp only at e1 e2 e3 e4
      have HX := hide hx
      have HY := hide hy
      clear hx hy p1 p2 p3 p4
      by_cases q1 : x1 = y1
      · subst q1
        by_cases q2 : x2 = y2
        · subst q2
          have HN : Hid (∀ i, i < j + 1 → l[i]? = k[i]?) := fun i hi => by
            by_cases e : i = j
            · subst e; rw [HX.out, HY.out]
            · exact HS.out i (by omega)
          go_wp2_with fail
          go_quiet (fail)
          go_wp2_with fail
          all_goals first | exact ⟨⟨j + 1, by omega, by go_num, HN.out, drawn_below HB.out _⟩, by simp [intOf]; omega⟩ | exact ⟨⟨j + 1, by omega, by go_num, HN.out, HB.out⟩, by simp [intOf]; omega⟩
        · have hq : (x2 == y2) = false := by simpa using q2
          have hq2 : (x2 != y2) = true := by simpa using q2
          have HF : Hid (false = decide (l = k)) := by unfold Hid; symm; simpa using vnot_same HX.out HY.out (by simpa using q2)
          go_wp2_with fail
          go_quiet (fail)
          go_wp2_with fail
          try go_ret
          exact ⟨ret_bool HF.out, drawn_below HB.out _⟩
      · have hq : (x1 == y1) = false := by simpa using q1
        have hq2 : (x1 != y1) = true := by simpa using q1
        have HF : Hid (false = decide (l = k)) := by unfold Hid; symm; simpa using vnot_same HX.out HY.out (by intro e; exact q1 (congrArg Prod.fst e))
        go_wp2_with fail
        go_quiet (fail)
        go_wp2_with fail
        try go_ret
        exact ⟨ret_bool HF.out, drawn_below HB.out _⟩
    · have hd : decide ((j : Int) < (n : Int)) = false := by simp; omega
      have HF : Hid (true = decide (l = k)) := by
        unfold Hid; symm; simp
        exact vlist_same (by rw [HL.out, HK.out]) fun i hi => HS.out i (by have := HL.out; omega)
      go_wp2_with fail
      try go_ret
      exact ⟨ret_bool HF.out, HB.out⟩
set_option maxRecDepth 100000 in
set_option maxHeartbeats 4000000 in
theorem vol_same_any (i1 g1 n1 i2 g2 n2 : Int) (a1 a2 : Option Addr) (m1 m2 c1 c2 : Nat) (l k : List (Int × Int)) (w : World) (hl : l.length = m1) (hk : k.length = m2) (h63 : m1 ≤ 1000000) (h64 : m2 ≤ 1000000) (h1 : LocsAt w a1 l) (h2 : LocsAt w a2 k) : Calls Try.prog 42 #[.agg #[.int .i64 i1, .int .i64 g1, .int .i64 n1, .slice a1 m1 c1], .agg #[.int .i64 i2, .int .i64 g2, .int .i64 n2, .slice a2 m2 c2]] w fun e w' => e = .returned (.bool (i1 == i2 && (g1 == g2 && (n1 == n2 && decide (l = k))))) ∧ Below w.heap.size w w' := by
  have HB : Hid (Below w.heap.size w ((w.alloc (.cells #[.int .i64 i1, .int .i64 g1, .int .i64 n1, .slice a1 m1 c1] 29)).alloc (.cells #[.int .i64 i2, .int .i64 g2, .int .i64 n2, .slice a2 m2 c2] 29))) := ((Below.refl _ _).alloc (Nat.le_refl _) _).alloc (by rw [World.size_alloc]; omega) _
  have b2 : Below w.heap.size w ((w.alloc (.cells #[.int .i64 i1, .int .i64 g1, .int .i64 n1, .slice a1 m1 c1] 29)).alloc (.cells #[.int .i64 i2, .int .i64 g2, .int .i64 n2, .slice a2 m2 c2] 29)) := HB.out
  have HQ := hide (vlsame_any a1 a2 c1 c2 m1 m2 l k ((w.alloc (.cells #[.int .i64 i1, .int .i64 g1, .int .i64 n1, .slice a1 m1 c1] 29)).alloc (.cells #[.int .i64 i2, .int .i64 g2, .int .i64 n2, .slice a2 m2 c2] 29)) hl hk h63 h64 (h1.below b2) (h2.below b2))
  clear b2 h1 h2 hl hk h63 h64
  generalize decide (l = k) = d4 at *
  have main : ∀ d1 d2 d3, (i1 == i2) = d1 → (g1 == g2) = d2 → (n1 == n2) = d3 → Calls Try.prog 42 #[.agg #[.int .i64 i1, .int .i64 g1, .int .i64 n1, .slice a1 m1 c1], .agg #[.int .i64 i2, .int .i64 g2, .int .i64 n2, .slice a2 m2 c2]] w fun e w' => e = .returned (.bool (d1 && (d2 && (d3 && d4)))) ∧ Below w.heap.size w w' := by
    intro d1 d2 d3 p1 p2 p3
    cases d1
    · go_enter Try.func42, Try.ntmps42
      go_wp2_with fail
      try go_ret
      exact ⟨rfl, HB.out⟩
    cases d2
    · go_enter Try.func42, Try.ntmps42
      go_wp2_with fail
      try go_ret
      exact ⟨rfl, HB.out⟩
    cases d3
    · go_enter Try.func42, Try.ntmps42
      go_wp2_with fail
      try go_ret
      exact ⟨rfl, HB.out⟩
    go_enter Try.func42, Try.ntmps42
    go_wp2_with fail
    refine HQ.out.mono ?_
    rintro e w1 ⟨rfl, hb⟩
    have HB1 := hide (HB.out.trans (hb.mono HB.out.size))
    clear hb
    go_wp2_with fail
    try go_ret
    exact ⟨rfl, HB1.out⟩
  exact main _ _ _ rfl rfl rfl
theorem vd_eq (x y : VD) : (x.id == y.id && (x.gen == y.gen && (x.len == y.len && decide (x.ls = y.ls)))) = decide (x = y) := by
  rw [Bool.eq_iff_iff]
  obtain ⟨i, g, n, l⟩ := x
  obtain ⟨i2, g2, n2, l2⟩ := y
  simp
theorem vosame1 (x y : VD) (a1 a2 : Option Addr) (c1 c2 : Nat) (w : World) (h63 : x.ls.length ≤ 1000000) (h64 : y.ls.length ≤ 1000000) (h1 : LocsAt w a1 x.ls) (h2 : LocsAt w a2 y.ls) :
    Calls Try.prog 42 #[.agg #[.int .i64 x.id, .int .i64 x.gen, .int .i64 x.len, .slice a1 x.ls.length c1], .agg #[.int .i64 y.id, .int .i64 y.gen, .int .i64 y.len, .slice a2 y.ls.length c2]] w fun e w' => e = .returned (.bool (decide (x = y))) ∧ Below w.heap.size w w' :=
  (vol_same_any x.id x.gen x.len y.id y.gen y.len a1 a2 x.ls.length y.ls.length c1 c2 x.ls y.ls w rfl rfl h63 h64 h1 h2).mono fun e w' ⟨he, hb⟩ => ⟨by rw [he, vd_eq], hb⟩
theorem vds_ne {L M : List VD} {k : Nat} {x y : VD} (hx : L[k]? = some x) (hy : M[k]? = some y) (h : x ≠ y) : L ≠ M := fun e => h (by rw [e, hy] at hx; exact (Option.some.inj hx).symm)
theorem vds_eq {L M : List VD} (hl : L.length = M.length) (h : ∀ i, i < L.length → L[i]? = M[i]?) : L = M := by
  apply List.ext_getElem?
  intro i
  by_cases hi : i < L.length
  · exact h i hi
  · rw [List.getElem?_eq_none (by omega), List.getElem?_eq_none (by omega)]
set_option maxRecDepth 100000 in
set_option maxHeartbeats 8000000 in
theorem vosame_any (B : Nat) (a1 a2 : Option Addr) (c1 c2 n m : Nat) (L M : List VD) (w : World) (hl : L.length = n) (hk : M.length = m) (h63 : n ≤ 1000000) (h64 : m ≤ 1000000) (h1 : VosAt B w a1 L) (h2 : VosAt B w a2 M) (hs1 : ∀ x ∈ L, x.ls.length ≤ 1000000) (hs2 : ∀ x ∈ M, x.ls.length ≤ 1000000) :
    Calls Try.prog 22 #[.slice a1 n c1, .slice a2 m c2] w fun e w' => e = .returned (.bool (decide (L = M))) ∧ Below w.heap.size w w' := by
  have HL := hide hl
  have HK := hide hk
  have H1 := hide h1
  have H2 := hide h2
  have HS1 := hide hs1
  have HS2 := hide hs2
  by_cases hnm : ¬ n = m
  · have hq : ((n : Int) == (m : Int)) = false := by simp; omega
    have hq2 : ((n : Int) != (m : Int)) = true := by simp; omega
    have HF : Hid (false = decide (L = M)) := by unfold Hid; symm; simp; rintro rfl; omega
    clear hl hk h1 h2 hs1 hs2
    go_enter Try.func22, Try.ntmps22
    go_wp2_with fail
    try go_ret
    exact ⟨ret_bool HF.out, Below.refl _ _⟩
  clear hl hk h1 h2 hs1 hs2
  obtain rfl : n = m := by omega
  clear hnm
  go_enter Try.func22, Try.ntmps22
  go_wp2_with fail
  go_loopw [5] (fun y wr => ∃ j : Nat, j ≤ n ∧ y = .int .i64 j ∧ (∀ i, i < j → L[i]? = M[i]?) ∧ Below w.heap.size w wr) (fun y _ => n - (intOf y).toNat)
  case atStart => exact ⟨0, by omega, rfl, fun i hi => by omega, Below.refl _ _⟩
  case round =>
    obtain ⟨j, hj, rfl, hsm, hbl⟩ := hrel
    have HB := hide hbl
    have HS := hide hsm
    clear hbl hsm
    by_cases hlt : j < n
    · have hd : decide ((j : Int) < (n : Int)) = true := by simp; omega
      have hdi : (j : Int) < (n : Int) := by omega
      have hd0 : (0 : Int) ≤ (j : Int) := by omega
      obtain ⟨x, hx⟩ : ∃ x, L[j]? = some x := ⟨_, List.getElem?_eq_getElem (by have := HL.out; omega)⟩
      obtain ⟨y, hy⟩ : ∃ x, M[j]? = some x := ⟨_, List.getElem?_eq_getElem (by have := HK.out; omega)⟩
      have hx6 := HS1.out x (List.mem_of_getElem? hx)
      have hy6 := HS2.out y (List.mem_of_getElem? hy)
      obtain ⟨b1, o1, x1, k1, rfl, hb1, p1, q1⟩ := (H1.out.below HB.out).nth hx
      obtain ⟨b2, o2, x2, k2, rfl, hb2, p2, q2⟩ := (H2.out.below HB.out).nth hy
      have HC := hide (vosame1 x y x1 x2 k1 k2 wr.drew hx6 hy6 (q1.below ((Below.refl _ wr).drew)).at (q2.below ((Below.refl _ wr).drew)).at)
      have HBD := hide (HB.out.drew)
      obtain ⟨d0, d1, d2, d3⟩ := p1
      obtain ⟨f0, f1, f2, f3⟩ := p2
      simp only at d0 d1 d2 d3 f0 f1 f2 f3
      generalize x.ls.length = xn at *
      generalize y.ls.length = yn at *
      have HX := hide hx
      have HY := hide hy
      clear hx hy q1 q2 hx6 hy6
      by_cases q : x = y
      · have hqd : decide (x = y) = true := by simpa using q
        rw [hqd] at HC
        have HN : Hid (∀ i, i < j + 1 → L[i]? = M[i]?) := fun i hi => by
          by_cases e : i = j
          · subst e; rw [HX.out, HY.out, q]
          · exact HS.out i (by omega)
        clear q hqd
        go_wp2_with fail
        go_still_tail 8, (by kernel_rfl)
        change wpList _ _ _ _ _ wr.drew
        generalize wr.drew = w2 at *
        go_wp2_with fail
        refine HC.out.mono ?_
        rintro e w1 ⟨rfl, hb⟩
        have HB1 := hide (HBD.out.trans (hb.mono HBD.out.size))
        clear hb
        go_wp2_with fail
        exact ⟨⟨j + 1, by omega, by go_num, HN.out, HB1.out⟩, by simp [intOf]; omega⟩
      · have hqd : decide (x = y) = false := by simpa using q
        rw [hqd] at HC
        have HF : Hid (false = decide (L = M)) := by unfold Hid; symm; simpa using vds_ne HX.out HY.out q
        clear q hqd
        go_wp2_with fail
        go_still_tail 8, (by kernel_rfl)
        change wpList _ _ _ _ _ wr.drew
        generalize wr.drew = w2 at *
        go_wp2_with fail
        refine HC.out.mono ?_
        rintro e w1 ⟨rfl, hb⟩
        have HB1 := hide (HBD.out.trans (hb.mono HBD.out.size))
        clear hb
        go_wp2_with fail
        try go_ret
        exact ⟨ret_bool HF.out, HB1.out⟩
    · have hd : decide ((j : Int) < (n : Int)) = false := by simp; omega
      have HF : Hid (true = decide (L = M)) := by
        unfold Hid; symm; simp
        exact vds_eq (by rw [HL.out, HK.out]) fun i hi => HS.out i (by have := HL.out; omega)
      go_wp2_with fail
      try go_ret
      exact ⟨ret_bool HF.out, HB.out⟩
end Go.Proofs.Ytonhmihmnkicdaa
