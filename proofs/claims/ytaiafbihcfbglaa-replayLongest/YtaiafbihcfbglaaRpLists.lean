/- What the document's Lists and Begins answer; slices.EqualFunc over records, replay.Begins. -/
import Derived.Test.YtaiafbihcfbglaaRpMem
import Derived.Test.YtaiafbihcfbglaaRcSame
namespace Go.Proofs.Ytaiafbihcfbglaa
open Go.RowKit
set_option linter.unusedVariables false
theorem rec_cells {w : World} {b o c : Nat} {x : Rc} {a : Option Addr} (h : w.rangeAt b o (rtC (x, a, c)).toList) : w.cell? ⟨b, o, none⟩ = some (.int .i64 x.seq) ∧ w.cell? ⟨b, o + 1, none⟩ = some (.int .i64 x.kind) ∧ w.cell? ⟨b, o + 2, none⟩ = some (.int .i64 x.vid) ∧ w.cell? ⟨b, o + 3, none⟩ = some (.int .i64 x.vgen) ∧ w.cell? ⟨b, o + 4, none⟩ = some (.int .i64 x.vlen) ∧ w.cell? ⟨b, o + 5, none⟩ = some (.slice a x.ls.length c) ∧ w.cell? ⟨b, o + 6, none⟩ = some (.string x.ek) ∧ w.cell? ⟨b, o + 7, none⟩ = some (.int .i64 x.ev) ∧ w.cell? ⟨b, o + 8, none⟩ = some (.int .i64 x.eo) ∧ w.cell? ⟨b, o + 9, none⟩ = some (.int .i64 x.el) ∧ w.cell? ⟨b, o + 10, none⟩ = some (.string x.ed) ∧ w.cell? ⟨b, o + 11, none⟩ = some (.string x.k) ∧ w.cell? ⟨b, o + 12, none⟩ = some (.int .i64 x.f) ∧ w.cell? ⟨b, o + 13, none⟩ = some (.int .i64 x.t) :=
  ⟨h 0 _ rfl, h 1 _ rfl, h 2 _ rfl, h 3 _ rfl, h 4 _ rfl, h 5 _ rfl, h 6 _ rfl, h 7 _ rfl, h 8 _ rfl, h 9 _ rfl, h 10 _ rfl, h 11 _ rfl, h 12 _ rfl, h 13 _ rfl⟩
open Classical in
/-- two lists have the same records -/
noncomputable def samL (l k : List RT) : Bool := decide (l.map Prod.fst = k.map Prod.fst)
theorem samL_no {l k : List RT} {j : Nat} {x y : RT} (hx : l[j]? = some x) (hy : k[j]? = some y) (h : x.1 ≠ y.1) : false = samL l k := by
  unfold samL; symm; simp only [decide_eq_false_iff_not]
  intro e
  have := congrArg (fun z => z[j]?) e
  simp [hx, hy] at this
  exact h this
theorem samL_len {l k : List RT} (h : l.length ≠ k.length) : false = samL l k := by
  unfold samL; symm; simp only [decide_eq_false_iff_not]
  intro e
  have := congrArg List.length e
  simp at this
  exact h this
theorem samL_yes {l k : List RT} (hl : l.length = k.length) (h : ∀ i, i < l.length → (l[i]?).map Prod.fst = (k[i]?).map Prod.fst) : true = samL l k := by
  unfold samL; symm; simp only [decide_eq_true_eq]
  apply List.ext_getElem?
  intro i
  rw [List.getElem?_map, List.getElem?_map]
  by_cases hi : i < l.length
  · exact h i hi
  · rw [List.getElem?_eq_none (by omega), List.getElem?_eq_none (by omega)]
theorem rsame_qr (x y : Rc) (a a2 : Option Addr) (c c2 : Nat) (wr : World) (h63 : x.ls.length ≤ 1000000) (h64 : y.ls.length ≤ 1000000) (h1 : LocsAt wr a x.ls) (h2 : LocsAt wr a2 y.ls) : ∀ q os, Calls Try.prog 27 #[.agg (rcs x a c), .agg (rcs y a2 c2)] (Go.Sort.grow (redrawn wr q) os) fun e w'' => e = .returned (.bool (samR x y)) ∧ ∃ p : Regrown, w'' = Go.Sort.grow (redrawn wr p.d) p.os := fun q os => Calls.regrown_of (rsame_any x y a a2 c c2 _ h63 h64 (h1.below (below_regrown wr q os)) (h2.below (below_regrown wr q os)))
set_option maxRecDepth 100000 in
set_option maxHeartbeats 8000000 in
theorem lists_any (a1 a2 : Option Addr) (c1 c2 n m : Nat) (l k : List RT) (w : World) (hl : l.length = n) (hk : k.length = m) (h63 : n ≤ 1000000) (h64 : m ≤ 1000000) (h1 : RecsAt w a1 l) (h2 : RecsAt w a2 k) (hz : ∀ x : RT, x ∈ l ∨ x ∈ k → x.1.ls.length ≤ 1000000) : Calls Try.prog 14 #[.slice a1 n c1, .slice a2 m c2] w fun e w' => e = .returned (.bool (samL l k)) ∧ Below w.heap.size w w' := by
  have HL := hide hl
  have HK := hide hk
  have H1 := hide h1
  have H2 := hide h2
  have HZ := hide hz
  by_cases hnm : ¬ n = m
  · have hq : ((n : Int) == (m : Int)) = false := by simp; omega
    have hq2 : ((n : Int) != (m : Int)) = true := by simp; omega
    have HF : Hid (false = samL l k) := samL_len (by omega)
    clear hl hk h1 h2 hz
    go_enter Try.func14, Try.ntmps14
    go_wp2_with fail
    try go_ret
    exact ⟨ret_bool HF.out, Below.refl _ _⟩
  clear hl hk h1 h2 hz
  obtain rfl : n = m := by omega
  clear hnm
  go_enter Try.func14, Try.ntmps14
  go_wp2_with fail
  go_loopw [5] (fun y wr => ∃ j : Nat, j ≤ n ∧ y = .int .i64 j ∧ (∀ i, i < j → (l[i]?).map Prod.fst = (k[i]?).map Prod.fst) ∧ Below w.heap.size w wr) (fun y _ => n - (intOf y).toNat)
  case atStart => exact ⟨0, by omega, rfl, fun i hi => by omega, Below.refl _ _⟩
  case round =>
    obtain ⟨j, hj, rfl, hsm, hbl⟩ := hrel
    have HB := hide hbl
    have HS := hide hsm
    clear hbl hsm
    by_cases hlt : j < n
    · have hd : decide ((j : Int) < (n : Int)) = true := by simp; omega
      have hdi : (j : Int) < (n : Int) := by omega
      have hd0 : (0 : Int) ≤ (j : Int) := by omega
      obtain ⟨⟨x, xa, xc⟩, hx⟩ : ∃ x, l[j]? = some x := ⟨_, List.getElem?_eq_getElem (by have := HL.out; omega)⟩
      obtain ⟨⟨y, ya, yc⟩, hy⟩ : ∃ x, k[j]? = some x := ⟨_, List.getElem?_eq_getElem (by have := HK.out; omega)⟩
      obtain ⟨b1, o1, rfl, hb1, p1, q1⟩ := (H1.out.below HB.out).nth hx
      obtain ⟨b2, o2, rfl, hb2, p2, q2⟩ := (H2.out.below HB.out).nth hy
      simp only at q1 q2
      have HX := hide hx
      have HY := hide hy
      have hzx : x.ls.length ≤ 1000000 := HZ.out _ (.inl (List.mem_of_getElem? hx))
      have hzy : y.ls.length ≤ 1000000 := HZ.out _ (.inr (List.mem_of_getElem? hy))
      have HYES : Hid (x = y → ∀ i, i < j + 1 → (l[i]?).map Prod.fst = (k[i]?).map Prod.fst) := fun e i hi => by
        by_cases q : i = j
        · subst q; rw [HX.out, HY.out]; simp [e]
        · exact HS.out i (by omega)
      have HNO : Hid (x ≠ y → false = samL l k) := fun e => samL_no HX.out HY.out e
      clear hx hy
      have r0 := rsame_qr x y xa ya xc yc wr hzx hzy q1 q2
      simp only [rcs] at r0
      obtain ⟨u0, u1, u2, u3, u4, u5, u6, u7, u8, u9, u10, u11, u12, u13⟩ := rec_cells p1
      obtain ⟨v0, v1, v2, v3, v4, v5, v6, v7, v8, v9, v10, v11, v12, v13⟩ := rec_cells p2
      have eu0 := cell_regrown u0
      have ev0 := cell_regrown v0
      have eu1 := cell_regrown u1
      have ev1 := cell_regrown v1
      have eu2 := cell_regrown u2
      have ev2 := cell_regrown v2
      have eu3 := cell_regrown u3
      have ev3 := cell_regrown v3
      have eu4 := cell_regrown u4
      have ev4 := cell_regrown v4
      have eu5 := cell_regrown u5
      have ev5 := cell_regrown v5
      have eu6 := cell_regrown u6
      have ev6 := cell_regrown v6
      have eu7 := cell_regrown u7
      have ev7 := cell_regrown v7
      have eu8 := cell_regrown u8
      have ev8 := cell_regrown v8
      have eu9 := cell_regrown u9
      have ev9 := cell_regrown v9
      have eu10 := cell_regrown u10
      have ev10 := cell_regrown v10
      have eu11 := cell_regrown u11
      have ev11 := cell_regrown v11
      have eu12 := cell_regrown u12
      have ev12 := cell_regrown v12
      have eu13 := cell_regrown u13
      have ev13 := cell_regrown v13
      clear u0 v0 u1 v1 u2 v2 u3 v3 u4 v4 u5 v5 u6 v6 u7 v7 u8 v8 u9 v9 u10 v10 u11 v11 u12 v12 u13 v13 p1 p2
      go_wp2_with fail
      refine wp_region_quiet_below (by kernel_rfl) (by kernel_rfl) ?_
      repeat (quiet_step (first | (with_reducible exact r0 _ _)))
      refine wpQuiet_nil ?_
      intro _ hw'
      obtain ⟨pq, hw''⟩ := hw'
      subst hw''
      have HQ := hide (HB.out.trans ((below_regrown wr pq.d pq.os).mono HB.out.size))
      generalize Go.Sort.grow (redrawn wr pq.d) pq.os = WQ at *
      clear r0 eu0 ev0 eu1 ev1 eu2 ev2 eu3 ev3 eu4 ev4 eu5 ev5 eu6 ev6 eu7 ev7 eu8 ev8 eu9 ev9 eu10 ev10 eu11 ev11 eu12 ev12 eu13 ev13
      by_cases e : x = y
      · rw [samR_iff.2 e]
        have HN := hide (HYES.out e)
        clear e HYES HNO
        go_wp2_with fail
        exact ⟨⟨j + 1, by omega, by go_num, HN.out, HQ.out⟩, by simp [intOf]; omega⟩
      · rw [samR_no e]
        have HF := hide (HNO.out e)
        clear e HYES HNO
        go_wp2_with fail
        try go_ret
        exact ⟨ret_bool HF.out, HQ.out⟩
    · have hd : decide ((j : Int) < (n : Int)) = false := by simp; omega
      have HF : Hid (true = samL l k) := samL_yes (by rw [HL.out, HK.out]) fun i hi => HS.out i (by have := HL.out; omega)
      go_wp2_with fail
      try go_ret
      exact ⟨ret_bool HF.out, HB.out⟩
end Go.Proofs.Ytaiafbihcfbglaa
