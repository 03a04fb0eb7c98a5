/- Are two slices of places, two volumes, two lists of volumes the same? (sluicegateref10.Same, sluicegateref11.Volumes, sluicegateref13.Same) What the laws of layer 13 need besides: what stays behind Apply; lists that are the same. -/
import Derived.Test.YtonhmihmnkicdaaGreatPnVol
import Derived.StillTailTactics
import Derived.Test.YtonhmihmnkicdaaGreatIxLive
import Derived.Test.YtonhmihmnkicdaaGreatCameRecs
namespace Go.Proofs.YtonhmihmnkicdaaGreat
open Go.RowKit
set_option linter.unusedVariables false
set_option linter.unusedVariables false
theorem vlist_same {l m : List (Int × Int)} (hl : l.length = m.length) (h : ∀ i, i < l.length → l[i]? = m[i]?) : l = m := by
  apply List.ext_getElem?
  intro i
  by_cases hi : i < l.length
  · exact h i hi
  · rw [List.getElem?_eq_none (by omega), List.getElem?_eq_none (by omega)]
theorem vnot_same {l m : List (Int × Int)} {k : Nat} {x y : Int × Int} (hx : l[k]? = some x) (hy : m[k]? = some y) (h : x ≠ y) : l ≠ m := by
  rintro rfl
  rw [hx] at hy
  exact h (Option.some.inj hy)
theorem vnth {w : World} {a : Option Addr} {l : List (Int × Int)} (h : LocsAt w a l) {k : Nat} {x : Int × Int} (hx : l[k]? = some x) : ∃ b o, a = some ⟨b, o, none⟩ ∧ b < w.heap.size ∧ w.cell? ⟨b, o + k * 2, none⟩ = some (.int .i64 x.1) ∧ w.cell? ⟨b, o + k * 2 + 1, none⟩ = some (.int .i64 x.2) := by
  rcases h with q | ⟨b, o, ha, hlt, hc⟩
  · rw [q] at hx; simp at hx
  · exact ⟨b, o, ha, hlt, hc k x hx⟩
set_option maxRecDepth 100000 in
set_option maxHeartbeats 4000000 in
theorem vlsame_any (a1 a2 : Option Addr) (c1 c2 n m : Nat) (l k : List (Int × Int)) (w : World) (hl : l.length = n) (hk : k.length = m) (h63 : n ≤ 1000000) (h64 : m ≤ 1000000) (h1 : LocsAt w a1 l) (h2 : LocsAt w a2 k) : Calls Tryz.prog 74 #[.slice a1 n c1, .slice a2 m c2] w fun e w' => e = .returned (.bool (decide (l = k))) ∧ Below w.heap.size w w' := by
  have HL := hide hl
  have HK := hide hk
  have H1 := hide h1
  have H2 := hide h2
  by_cases hnm : ¬ n = m
  · have hq : ((n : Int) == (m : Int)) = false := by simp; omega
    have hq2 : ((n : Int) != (m : Int)) = true := by simp; omega
    have HF : Hid (false = decide (l = k)) := by unfold Hid; symm; simp; rintro rfl; omega
    clear hl hk h1 h2
    go_enter Tryz.func74, Tryz.ntmps74
    go_wp2_with fail
    try go_ret
    exact ⟨ret_bool HF.out, Below.refl _ _⟩
  clear hl hk h1 h2
  obtain rfl : n = m := by omega
  clear hnm
  go_enter Tryz.func74, Tryz.ntmps74
  go_wp2_with fail
  go_loopw [5] (fun y wr => ∃ j : Nat, j ≤ n ∧ y = .int .i64 j ∧ (∀ i, i < j → l[i]? = k[i]?) ∧ Below w.heap.size w wr) (fun y _ => n - (intOf y).toNat)
  case atStart => exact ⟨0, by omega, rfl, fun i hi => by omega, Below.refl _ _⟩
  case round =>
    obtain ⟨j, hj, rfl, hsm, hbl⟩ := hrel
    have HB := hide hbl
    have HS := hide hsm
    clear hbl hsm
    by_cases hlt : j < n
    · have hd : decide ((j : Int) < (n : Int)) = true := by simp; omega
      have hdi : (j : Int) < (n : Int) := by omega
      have hd0 : (0 : Int) ≤ (j : Int) := by omega
      obtain ⟨⟨x1, x2⟩, hx⟩ : ∃ x, l[j]? = some x := ⟨_, List.getElem?_eq_getElem (by have := HL.out; omega)⟩
      obtain ⟨⟨y1, y2⟩, hy⟩ : ∃ x, k[j]? = some x := ⟨_, List.getElem?_eq_getElem (by have := HK.out; omega)⟩
      obtain ⟨b1, o1, rfl, hb1, p1, p2⟩ := vnth H1.out hx
      obtain ⟨b2, o2, rfl, hb2, p3, p4⟩ := vnth H2.out hy
      have e1 := (HB.out.cell (p := ⟨b1, o1 + j * 2, none⟩) hb1).trans p1
      have e2 := (HB.out.cell (p := ⟨b1, o1 + j * 2 + 1, none⟩) hb1).trans p2
      have e3 := (HB.out.cell (p := ⟨b2, o2 + j * 2, none⟩) hb2).trans p3
      have e4 := (HB.out.cell (p := ⟨b2, o2 + j * 2 + 1, none⟩) hb2).trans p4
      simp only at e1 e2 e3 e4
      have HX := hide hx
      have HY := hide hy
      clear hx hy p1 p2 p3 p4
      by_cases q1 : x1 = y1
      · subst q1
        by_cases q2 : x2 = y2
        · subst q2
          have HN : Hid (∀ i, i < j + 1 → l[i]? = k[i]?) := fun i hi => by
            by_cases e : i = j
            · subst e; rw [HX.out, HY.out]
            · exact HS.out i (by omega)
          go_wp2_with fail
          go_quiet (fail)
          go_wp2_with fail
          all_goals first | exact ⟨⟨j + 1, by omega, by go_num, HN.out, drawn_below HB.out _⟩, by simp [intOf]; omega⟩ | exact ⟨⟨j + 1, by omega, by go_num, HN.out, HB.out⟩, by simp [intOf]; omega⟩
        · have hq : (x2 == y2) = false := by simpa using q2
          have hq2 : (x2 != y2) = true := by simpa using q2
          have HF : Hid (false = decide (l = k)) := by unfold Hid; symm; simpa using vnot_same HX.out HY.out (by simpa using q2)
          go_wp2_with fail
          go_quiet (fail)
          go_wp2_with fail
          try go_ret
          exact ⟨ret_bool HF.out, drawn_below HB.out _⟩
      · have hq : (x1 == y1) = false := by simpa using q1
        have hq2 : (x1 != y1) = true := by simpa using q1
        have HF : Hid (false = decide (l = k)) := by unfold Hid; symm; simpa using vnot_same HX.out HY.out (by intro e; exact q1 (congrArg Prod.fst e))
        go_wp2_with fail
        go_quiet (fail)
        go_wp2_with fail
        try go_ret
        exact ⟨ret_bool HF.out, drawn_below HB.out _⟩
    · have hd : decide ((j : Int) < (n : Int)) = false := by simp; omega
      have HF : Hid (true = decide (l = k)) := by
        unfold Hid; symm; simp
        exact vlist_same (by rw [HL.out, HK.out]) fun i hi => HS.out i (by have := HL.out; omega)
      go_wp2_with fail
      try go_ret
      exact ⟨ret_bool HF.out, HB.out⟩
set_option maxRecDepth 100000 in
set_option maxHeartbeats 4000000 in
theorem vol_same_any (i1 g1 n1 i2 g2 n2 : Int) (a1 a2 : Option Addr) (m1 m2 c1 c2 : Nat) (l k : List (Int × Int)) (w : World) (hl : l.length = m1) (hk : k.length = m2) (h63 : m1 ≤ 1000000) (h64 : m2 ≤ 1000000) (h1 : LocsAt w a1 l) (h2 : LocsAt w a2 k) : Calls Tryz.prog 43 #[.agg #[.int .i64 i1, .int .i64 g1, .int .i64 n1, .slice a1 m1 c1], .agg #[.int .i64 i2, .int .i64 g2, .int .i64 n2, .slice a2 m2 c2]] w fun e w' => e = .returned (.bool (i1 == i2 && (g1 == g2 && (n1 == n2 && decide (l = k))))) ∧ Below w.heap.size w w' := by
  have HB : Hid (Below w.heap.size w ((w.alloc (.cells #[.int .i64 i1, .int .i64 g1, .int .i64 n1, .slice a1 m1 c1] 36)).alloc (.cells #[.int .i64 i2, .int .i64 g2, .int .i64 n2, .slice a2 m2 c2] 36))) := ((Below.refl _ _).alloc (Nat.le_refl _) _).alloc (by rw [World.size_alloc]; omega) _
  have b2 : Below w.heap.size w ((w.alloc (.cells #[.int .i64 i1, .int .i64 g1, .int .i64 n1, .slice a1 m1 c1] 36)).alloc (.cells #[.int .i64 i2, .int .i64 g2, .int .i64 n2, .slice a2 m2 c2] 36)) := HB.out
  have HQ := hide (vlsame_any a1 a2 c1 c2 m1 m2 l k ((w.alloc (.cells #[.int .i64 i1, .int .i64 g1, .int .i64 n1, .slice a1 m1 c1] 36)).alloc (.cells #[.int .i64 i2, .int .i64 g2, .int .i64 n2, .slice a2 m2 c2] 36)) hl hk h63 h64 (h1.below b2) (h2.below b2))
  clear b2 h1 h2 hl hk h63 h64
  generalize decide (l = k) = d4 at *
  have main : ∀ d1 d2 d3, (i1 == i2) = d1 → (g1 == g2) = d2 → (n1 == n2) = d3 → Calls Tryz.prog 43 #[.agg #[.int .i64 i1, .int .i64 g1, .int .i64 n1, .slice a1 m1 c1], .agg #[.int .i64 i2, .int .i64 g2, .int .i64 n2, .slice a2 m2 c2]] w fun e w' => e = .returned (.bool (d1 && (d2 && (d3 && d4)))) ∧ Below w.heap.size w w' := by
    intro d1 d2 d3 p1 p2 p3
    cases d1
    · go_enter Tryz.func43, Tryz.ntmps43
      go_wp2_with fail
      try go_ret
      exact ⟨rfl, HB.out⟩
    cases d2
    · go_enter Tryz.func43, Tryz.ntmps43
      go_wp2_with fail
      try go_ret
      exact ⟨rfl, HB.out⟩
    cases d3
    · go_enter Tryz.func43, Tryz.ntmps43
      go_wp2_with fail
      try go_ret
      exact ⟨rfl, HB.out⟩
    go_enter Tryz.func43, Tryz.ntmps43
    go_wp2_with fail
    refine HQ.out.mono ?_
    rintro e w1 ⟨rfl, hb⟩
    have HB1 := hide (HB.out.trans (hb.mono HB.out.size))
    clear hb
    go_wp2_with fail
    try go_ret
    exact ⟨rfl, HB1.out⟩
  exact main _ _ _ rfl rfl rfl
theorem vd_eq (x y : VD) : (x.id == y.id && (x.gen == y.gen && (x.len == y.len && decide (x.ls = y.ls)))) = decide (x = y) := by
  rw [Bool.eq_iff_iff]
  obtain ⟨i, g, n, l⟩ := x
  obtain ⟨i2, g2, n2, l2⟩ := y
  simp
theorem vosame1 (x y : VD) (a1 a2 : Option Addr) (c1 c2 : Nat) (w : World) (h63 : x.ls.length ≤ 1000000) (h64 : y.ls.length ≤ 1000000) (h1 : LocsAt w a1 x.ls) (h2 : LocsAt w a2 y.ls) :
    Calls Tryz.prog 43 #[.agg #[.int .i64 x.id, .int .i64 x.gen, .int .i64 x.len, .slice a1 x.ls.length c1], .agg #[.int .i64 y.id, .int .i64 y.gen, .int .i64 y.len, .slice a2 y.ls.length c2]] w fun e w' => e = .returned (.bool (decide (x = y))) ∧ Below w.heap.size w w' :=
  (vol_same_any x.id x.gen x.len y.id y.gen y.len a1 a2 x.ls.length y.ls.length c1 c2 x.ls y.ls w rfl rfl h63 h64 h1 h2).mono fun e w' ⟨he, hb⟩ => ⟨by rw [he, vd_eq], hb⟩
theorem vds_ne {L M : List VD} {k : Nat} {x y : VD} (hx : L[k]? = some x) (hy : M[k]? = some y) (h : x ≠ y) : L ≠ M := fun e => h (by rw [e, hy] at hx; exact (Option.some.inj hx).symm)
theorem vds_eq {L M : List VD} (hl : L.length = M.length) (h : ∀ i, i < L.length → L[i]? = M[i]?) : L = M := by
  apply List.ext_getElem?
  intro i
  by_cases hi : i < L.length
  · exact h i hi
  · rw [List.getElem?_eq_none (by omega), List.getElem?_eq_none (by omega)]
set_option maxRecDepth 100000 in
set_option maxHeartbeats 8000000 in
theorem vosame_any (B : Nat) (a1 a2 : Option Addr) (c1 c2 n m : Nat) (L M : List VD) (w : World) (hl : L.length = n) (hk : M.length = m) (h63 : n ≤ 1000000) (h64 : m ≤ 1000000) (h1 : VosAt B w a1 L) (h2 : VosAt B w a2 M) (hs1 : ∀ x ∈ L, x.ls.length ≤ 1000000) (hs2 : ∀ x ∈ M, x.ls.length ≤ 1000000) :
    Calls Tryz.prog 13 #[.slice a1 n c1, .slice a2 m c2] w fun e w' => e = .returned (.bool (decide (L = M))) ∧ Below w.heap.size w w' := by
  have HL := hide hl
  have HK := hide hk
  have H1 := hide h1
  have H2 := hide h2
  have HS1 := hide hs1
  have HS2 := hide hs2
  by_cases hnm : ¬ n = m
  · have hq : ((n : Int) == (m : Int)) = false := by simp; omega
    have hq2 : ((n : Int) != (m : Int)) = true := by simp; omega
    have HF : Hid (false = decide (L = M)) := by unfold Hid; symm; simp; rintro rfl; omega
    clear hl hk h1 h2 hs1 hs2
    go_enter Tryz.func13, Tryz.ntmps13
    go_wp2_with fail
    try go_ret
    exact ⟨ret_bool HF.out, Below.refl _ _⟩
  clear hl hk h1 h2 hs1 hs2
  obtain rfl : n = m := by omega
  clear hnm
  go_enter Tryz.func13, Tryz.ntmps13
  go_wp2_with fail
  go_loopw [5] (fun y wr => ∃ j : Nat, j ≤ n ∧ y = .int .i64 j ∧ (∀ i, i < j → L[i]? = M[i]?) ∧ Below w.heap.size w wr) (fun y _ => n - (intOf y).toNat)
  case atStart => exact ⟨0, by omega, rfl, fun i hi => by omega, Below.refl _ _⟩
  case round =>
    obtain ⟨j, hj, rfl, hsm, hbl⟩ := hrel
    have HB := hide hbl
    have HS := hide hsm
    clear hbl hsm
    by_cases hlt : j < n
    · have hd : decide ((j : Int) < (n : Int)) = true := by simp; omega
      have hdi : (j : Int) < (n : Int) := by omega
      have hd0 : (0 : Int) ≤ (j : Int) := by omega
      obtain ⟨x, hx⟩ : ∃ x, L[j]? = some x := ⟨_, List.getElem?_eq_getElem (by have := HL.out; omega)⟩
      obtain ⟨y, hy⟩ : ∃ x, M[j]? = some x := ⟨_, List.getElem?_eq_getElem (by have := HK.out; omega)⟩
      have hx6 := HS1.out x (List.mem_of_getElem? hx)
      have hy6 := HS2.out y (List.mem_of_getElem? hy)
      obtain ⟨b1, o1, x1, k1, rfl, hb1, p1, q1⟩ := (H1.out.below HB.out).nth hx
      obtain ⟨b2, o2, x2, k2, rfl, hb2, p2, q2⟩ := (H2.out.below HB.out).nth hy
      have HC := hide (vosame1 x y x1 x2 k1 k2 wr.drew hx6 hy6 (q1.below ((Below.refl _ wr).drew)).at (q2.below ((Below.refl _ wr).drew)).at)
      have HBD := hide (HB.out.drew)
      obtain ⟨d0, d1, d2, d3⟩ := p1
      obtain ⟨f0, f1, f2, f3⟩ := p2
      simp only at d0 d1 d2 d3 f0 f1 f2 f3
      generalize x.ls.length = xn at *
      generalize y.ls.length = yn at *
      have HX := hide hx
      have HY := hide hy
      clear hx hy q1 q2 hx6 hy6
      by_cases q : x = y
      · have hqd : decide (x = y) = true := by simpa using q
        rw [hqd] at HC
        have HN : Hid (∀ i, i < j + 1 → L[i]? = M[i]?) := fun i hi => by
          by_cases e : i = j
          · subst e; rw [HX.out, HY.out, q]
          · exact HS.out i (by omega)
        clear q hqd
        go_wp2_with fail
        go_still_tail 8, (by kernel_rfl)
        change wpList _ _ _ _ _ wr.drew
        generalize wr.drew = w2 at *
        go_wp2_with fail
        refine HC.out.mono ?_
        rintro e w1 ⟨rfl, hb⟩
        have HB1 := hide (HBD.out.trans (hb.mono HBD.out.size))
        clear hb
        go_wp2_with fail
        exact ⟨⟨j + 1, by omega, by go_num, HN.out, HB1.out⟩, by simp [intOf]; omega⟩
      · have hqd : decide (x = y) = false := by simpa using q
        rw [hqd] at HC
        have HF : Hid (false = decide (L = M)) := by unfold Hid; symm; simpa using vds_ne HX.out HY.out q
        clear q hqd
        go_wp2_with fail
        go_still_tail 8, (by kernel_rfl)
        change wpList _ _ _ _ _ wr.drew
        generalize wr.drew = w2 at *
        go_wp2_with fail
        refine HC.out.mono ?_
        rintro e w1 ⟨rfl, hb⟩
        have HB1 := hide (HBD.out.trans (hb.mono HBD.out.size))
        clear hb
        go_wp2_with fail
        try go_ret
        exact ⟨ret_bool HF.out, HB1.out⟩
    · have hd : decide ((j : Int) < (n : Int)) = false := by simp; omega
      have HF : Hid (true = decide (L = M)) := by
        unfold Hid; symm; simp
        exact vds_eq (by rw [HL.out, HK.out]) fun i hi => HS.out i (by have := HL.out; omega)
      go_wp2_with fail
      try go_ret
      exact ⟨ret_bool HF.out, HB.out⟩
end Go.Proofs.YtonhmihmnkicdaaGreat
namespace Go.Proofs.YtonhmihmnkicdaaGreat
open Go.RowKit
set_option linter.unusedVariables false
set_option maxRecDepth 100000 in
set_option maxHeartbeats 8000000 in
theorem keys_same (a1 a2 : Option Addr) (c1 c2 n : Nat) (l : List ByteArray) (w : World) (hl : l.length = n) (h63 : n ≤ 1000000) (h1 : StrsAt w a1 l) (h2 : StrsAt w a2 l) : Calls Tryz.prog 45 #[.slice a1 n c1, .slice a2 n c2] w fun e w' => e = .returned (.bool true) ∧ Below w.heap.size w w' := by
  have HL := hide hl
  have H1 := hide h1
  have H2 := hide h2
  clear hl h1 h2
  go_enter Tryz.func45, Tryz.ntmps45
  go_wp2_with fail
  go_loopw [5] (fun y wr => ∃ k : Nat, k ≤ n ∧ y = .int .i64 k ∧ Below w.heap.size w wr) (fun y _ => n - (intOf y).toNat)
  case atStart => exact ⟨0, by omega, rfl, Below.refl _ _⟩
  case round =>
    obtain ⟨k, hk, rfl, hbl⟩ := hrel
    have HB := hide hbl
    clear hbl
    by_cases hlt : k < n
    · have hd : decide ((k : Int) < (n : Int)) = true := by simp; omega
      have hdi : (k : Int) < (n : Int) := by omega
      have hd0 : (0 : Int) ≤ (k : Int) := by omega
      obtain ⟨x, hx⟩ : ∃ x, l[k]? = some x := ⟨_, List.getElem?_eq_getElem (by have := HL.out; omega)⟩
      rcases H1.out with q | ⟨b1, o1, rfl, hb1, hc1⟩
      · have := HL.out; rw [q] at this; simp at this; omega
      rcases H2.out with q | ⟨b2, o2, rfl, hb2, hc2⟩
      · have := HL.out; rw [q] at this; simp at this; omega
      have HC1 := hide hc1
      have HC2 := hide hc2
      clear hc1 hc2
      have e1 := (HB.out.cell (p := ⟨b1, o1 + k, none⟩) hb1).trans (HC1.out k x hx)
      have e2 := (HB.out.cell (p := ⟨b2, o2 + k, none⟩) hb2).trans (HC2.out k x hx)
      clear hx
      go_wp2_with fail
      go_quiet (fail)
      go_wp2_with fail
      all_goals first | exact ⟨⟨k + 1, by omega, by go_num, drawn_below HB.out _⟩, by simp [intOf]; omega⟩ | exact ⟨⟨k + 1, by omega, by go_num, HB.out⟩, by simp [intOf]; omega⟩
    · have hd : decide ((k : Int) < (n : Int)) = false := by simp; omega
      go_wp2_with fail
      try go_ret
      exact ⟨rfl, HB.out⟩
/-! a block in which something lies that is no map is none of the index's -/
theorem IxAt.noown {B n : Nat} {w : World} {I : Ix} {X : FX} (h : IxAt B w I n X) {b o : Nat} {v : Value} (hc : w.cell? ⟨b, o, none⟩ = some v) (hv : ∀ m, v ≠ .map m) : ¬ I.own b := by
  intro q
  by_cases hx : b = I.xb
  · subst hx
    have hb := h.box
    rw [cell_of_block hb] at hc
    have : o < 4 := by have := (Array.getElem?_eq_some_iff.1 hc).1; simpa using this
    match o, this with
    | 0, _ => simp at hc; exact hv _ hc.symm
    | 1, _ => simp at hc; exact hv _ hc.symm
    | 2, _ => simp at hc; exact hv _ hc.symm
    | 3, _ => simp at hc; exact hv _ hc.symm
  · rcases q with q | q
    · exact hx q
    · obtain ⟨es, cl, hm⟩ := h.is_map q
      unfold World.cell? at hc
      rw [hm] at hc
      simp at hc
theorem IxAt.keepb {B n : Nat} {w w' : World} {I : Ix} {X : FX} (h : IxAt B w I n X) (m : Mds B I.own w I.own w') {b o : Nat} {v : Value} (hc : w.cell? ⟨b, o, none⟩ = some v) (hv : ∀ m, v ≠ .map m) (hlt : b < w.heap.size) : w'.heap[b]? = w.heap[b]? := m.blk b hlt (h.noown hc hv)
theorem StrsAt.mds {B n : Nat} {w w' : World} {I : Ix} {X : FX} {a : Option Addr} {L : List ByteArray} (h : StrsAt w a L) (hx : IxAt B w I n X) (m : Mds B I.own w I.own w') : StrsAt w' a L := by
  rcases h with q | ⟨b, o, ha, hlt, hc⟩
  · exact .inl q
  · cases L with
    | nil => exact .inl rfl
    | cons s L =>
      have hb := hx.keepb m (hc 0 s rfl) (fun m e => by cases e) hlt
      have hcc : ∀ p, w'.cell? ⟨b, p, none⟩ = w.cell? ⟨b, p, none⟩ := fun p => by unfold World.cell?; rw [hb]
      exact .inr ⟨b, o, ha, Nat.lt_of_lt_of_le hlt m.size, fun i s hs => (hcc _).trans (hc i s hs)⟩
theorem VosAt.mds {B n : Nat} {w w' : World} {I : Ix} {X : FX} {a : Option Addr} {L : List VD} (h : VosAt B w a L) (hx : IxAt B w I n X) (m : Mds B I.own w I.own w') : VosAt B w' a L := by
  rcases h with q | ⟨b, o, ha, hlt, vs, hm, hc⟩
  · exact .inl q
  · cases vs with
    | nil => exact .inl hm.symm
    | cons v vs =>
      have h0 := (hc 0 v rfl).1.c0
      have hb := hx.keepb m h0 (fun m e => by cases e) hlt
      exact .inr ⟨b, o, ha, Nat.lt_of_lt_of_le hlt m.size, v :: vs, hm, fun i x hi => ⟨(hc i x hi).1.keep hb, (hc i x hi).2.mod m⟩⟩
theorem LocsAt.mds {B n : Nat} {w w' : World} {I : Ix} {X : FX} {a : Option Addr} {l : List (Int × Int)} (h : LocsAt w a l) (hx : IxAt B w I n X) (m : Mds B I.own w I.own w') : LocsAt w' a l := by
  rcases h with q | ⟨b, o, ha, hlt, hc⟩
  · exact .inl q
  · cases l with
    | nil => exact .inl rfl
    | cons y l =>
      have hb := hx.keepb m (hc 0 y rfl).1 (fun m e => by cases e) hlt
      have hcc : ∀ p, w'.cell? ⟨b, p, none⟩ = w.cell? ⟨b, p, none⟩ := fun p => by unfold World.cell?; rw [hb]
      exact .inr ⟨b, o, ha, Nat.lt_of_lt_of_le hlt m.size, fun i x hi => ⟨(hcc _).trans (hc i x hi).1, (hcc _).trans (hc i x hi).2⟩⟩
/-! lists that rise strictly and have the same members are the same -/
theorem rise_same {α : Type} {lt : α → α → Prop} (hirr : ∀ a, ¬ lt a a) (hasy : ∀ a b, lt a b → ¬ lt b a) : ∀ {L M : List α}, L.Pairwise lt → M.Pairwise lt → (∀ x, x ∈ L ↔ x ∈ M) → L = M
  | [], [], _, _, _ => rfl
  | [], y :: M, _, _, h => by have := (h y).2 (by simp); simp at this
  | x :: L, [], _, _, h => by have := (h x).1 (by simp); simp at this
  | x :: L, y :: M, hl, hm, h => by
    obtain ⟨l1, l2⟩ := List.pairwise_cons.1 hl
    obtain ⟨m1, m2⟩ := List.pairwise_cons.1 hm
    have hxy : x = y := by
      have h1 := (h x).1 (by simp)
      have h2 := (h y).2 (by simp)
      rcases List.mem_cons.1 h1 with q | q
      · exact q
      · rcases List.mem_cons.1 h2 with r | r
        · exact r.symm
        · exact absurd (m1 x q) (hasy _ _ (l1 y r))
    subst hxy
    have : L = M := rise_same hirr hasy l2 m2 fun z => by
      have hz := h z
      rw [List.mem_cons, List.mem_cons] at hz
      constructor
      · intro q
        rcases hz.1 (.inr q) with r | r
        · subst r; exact absurd (l1 _ q) (hirr _)
        · exact r
      · intro q
        rcases hz.2 (.inr q) with r | r
        · subst r; exact absurd (m1 _ q) (hirr _)
        · exact r
    rw [this]
theorem sortedK_same {T : ByteArray → Option En} {fr : ByteArray} {A A' : List ByteArray} (h : SortedK T fr A) (h' : SortedK T fr A') : A = A' :=
  rise_same (lt := fun a b => a.data.toList < b.data.toList) (fun a => List.lt_irrefl _) (fun a b p q => absurd (List.lt_trans p q) (List.lt_irrefl _)) h.1 h'.1 (fun x => by rw [h.2, h'.2])
theorem listIs_same {T : ByteArray → Option En} {fr : ByteArray} {many : Int} {L L' : List ByteArray} (h : ListIs T fr many L) (h' : ListIs T fr many L') : L = L' := by
  obtain ⟨A, h1, rfl⟩ := h
  obtain ⟨A', h2, rfl⟩ := h'
  rw [sortedK_same h1 h2]
theorem sortedI_same {V : Int → Option VD} {A A' : List Int} (h : SortedI V A) (h' : SortedI V A') : A = A' :=
  rise_same (lt := fun a b : Int => a < b) (fun a => by omega) (fun a b p q => by omega) h.1 h'.1 (fun x => by rw [h.2, h'.2])
theorem volsIs_same {X : FX} {L L' : List VD} (h : VolsIs X L) (h' : VolsIs X L') : L = L' := by
  obtain ⟨A, h1, rfl⟩ := h
  obtain ⟨A', h2, rfl⟩ := h'
  rw [sortedI_same h1 h2]
theorem nextIs_same {H : Int → Bool} {N M : Int} (hh : ∀ id, H id = true → numR id) (h : NextIs H N) (h' : NextIs H M) : N = M := by
  obtain ⟨a1, a2, a3⟩ := h
  obtain ⟨b1, b2, b3⟩ := h'
  have ok : ∀ x, H x = true → OkI x := fun x hx => by have := hh x hx; unfold numR at this; exact ⟨by omega, by omega⟩
  rcases a3 with q | q <;> rcases b3 with r | r
  · omega
  · have := a1 _ (ok _ r) r; omega
  · have := b1 _ (ok _ q) q; omega
  · have := a1 _ (ok _ r) r; have := b1 _ (ok _ q) q; omega
theorem volsIs_ls {X : FX} (hi : X.Inv) {L : List VD} (h : VolsIs X L) : ∀ x ∈ L, x.ls.length ≤ 1000000 := by
  obtain ⟨ids, _, rfl⟩ := h
  intro x hx
  obtain ⟨id, _, rfl⟩ := List.mem_map.1 hx
  have := inv_ls hi id
  omega
theorem inv_ls1 {X : FX} (hi : X.Inv) : ∀ id v, X.V id = some v → v.ls.length ≤ 1000 := fun id v hv => by have := (hi.v id v hv).2.2.2.2.1; omega
/-- a record that came in, and is small -/
theorem sm_of {r : Rc} (hc : r.cm) (h : smlB r = true) : r.sm := by
  obtain ⟨h1, h2, h3, h4⟩ := smlB_iff.1 h
  exact ⟨small_fit hc h, ins_of (by show r.ek.size ≤ 9223372036854775807; omega) (by show r.k.size ≤ 9223372036854775807; omega)⟩
end Go.Proofs.YtonhmihmnkicdaaGreat
