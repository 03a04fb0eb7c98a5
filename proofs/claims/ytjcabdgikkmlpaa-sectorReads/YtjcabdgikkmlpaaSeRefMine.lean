/- What the function Mine of package sluicegateref07 answers. -/
import Derived.Test.YtjcabdgikkmlpaaSeMine
import Derived.Test.YtjcabdgikkmlpaaSeRefRead
namespace Go.Proofs.Ytjcabdgikkmlpaa
open Go.RowKit
set_option linter.unusedVariables false
theorem draws_below {B : Nat} {a w : World} (h : Below B a w) (n : Nat) : Below B a (w.drewN n) := ⟨h.os, h.tape, h.output, h.size, h.block⟩
set_option maxRecDepth 100000 in
set_option maxHeartbeats 8000000 in
theorem rmine_arg (s : ByteArray) (x : Vol) (k : Int) (w : World) (h : ¬ (x.n = 9 ∧ 0 ≤ k ∧ k < 9)) : Calls Try.prog 17 #[.string s, .agg (vcs x), .int .i64 k] w fun r w' => r = .returned (.tuple #[.string ByteArray.empty, .int .i64 1]) ∧ Below w.heap.size w w' := by
  have HB : Hid (Below w.heap.size w (w.alloc (.cells (vcs x) 36))) := (Below.refl _ _).alloc (Nat.le_refl _) _
  obtain ⟨id, gen, len, a, n, c, ls⟩ := x
  simp only [vcs] at HB h ⊢
  by_cases h9 : n = 9
  · have hk : ¬ (0 ≤ k ∧ k < 9) := fun q => h ⟨h9, q⟩
    clear h
    subst h9
    by_cases hk0 : k < 0
    · have q0 : decide (k < 0) = true := by simp; omega
      go_enter Try.func17, Try.ntmps17
      go_wp2_with fail
      try go_ret2
      exact ⟨rfl, HB.out⟩
    have q0 : decide (k < 0) = false := by simp; omega
    have q8 : decide (8 < k) = true := by simp; omega
    go_enter Try.func17, Try.ntmps17
    go_wp2_with fail
    all_goals (try go_ret2)
    all_goals exact ⟨rfl, HB.out⟩
  · have hn1 : ((n : Int) == 9) = false := by simp; omega
    have hn2 : ((n : Int) != 9) = true := by simp; omega
    clear h
    go_enter Try.func17, Try.ntmps17
    go_wp2_with fail
    try go_ret2
    exact ⟨rfl, HB.out⟩
set_option maxRecDepth 100000 in
set_option maxHeartbeats 8000000 in
theorem rmine_err (s : ByteArray) (x : Vol) (k : Int) (w : World) (hs : s.size ≤ 100000) (h : x.n = 9 ∧ 0 ≤ k ∧ k < 9) (hE : rdE s ≠ 0) : Calls Try.prog 17 #[.string s, .agg (vcs x), .int .i64 k] w fun r w' => r = .returned (.tuple #[.string ByteArray.empty, .int .i64 (rdE s)]) ∧ Below w.heap.size w w' := by
  have HB : Hid (Below w.heap.size w (w.alloc (.cells (vcs x) 36))) := (Below.refl _ _).alloc (Nat.le_refl _) _
  have HR := hide (rread_any s (w.alloc (.cells (vcs x) 36)) hs)
  have hE2 : (rdE s == 0) = false := by simpa using hE
  have hE3 : (rdE s != 0) = true := by simpa using hE
  clear hE
  generalize rdE s = E at *
  generalize rdH s = H at *
  obtain ⟨v, g, i, d, l, z⟩ := H
  obtain ⟨id, gen, len, a, n, c, ls⟩ := x
  simp only [vcs, hcs] at HB HR h ⊢
  obtain ⟨rfl, hk⟩ := h
  have q0 : decide (k < 0) = false := by simp; omega
  have q8 : decide (8 < k) = false := by simp; omega
  go_enter Try.func17, Try.ntmps17
  go_wp2_with fail
  refine HR.out.mono ?_
  rintro e w1 ⟨rfl, hb1⟩
  have HB1 : Hid (Below w.heap.size w (w1.alloc (.cells #[.int .i64 v, .int .i64 g, .int .i64 i, .int .i64 d, .int .i64 l, .string z] 25))) := (HB.out.trans (hb1.mono HB.out.size)).alloc (HB.out.trans (hb1.mono HB.out.size)).size _
  clear hb1 HR HB
  go_wp2_with fail
  try go_ret2
  exact ⟨rfl, HB1.out⟩
set_option maxRecDepth 100000 in
set_option maxHeartbeats 8000000 in
theorem rmine_two (s : ByteArray) (x : Vol) (k : Nat) (w : World) (hs : s.size ≤ 100000) (h9 : x.n = 9) (hk : k < 9) (hls : x.ls.length = x.n) (hL : LocsAt w x.a x.ls) (hE : rdE s = 0) : Calls Try.prog 17 #[.string s, .agg (vcs x), .int .i64 (k : Int)] w fun r w' => r = .returned (.tuple #[.string (if rdH s = mineH x k (rdH s) then (rdH s).x else ByteArray.empty), .int .i64 (if rdH s = mineH x k (rdH s) then 0 else 4)]) ∧ Below w.heap.size w w' := by
  have HB : Hid (Below w.heap.size w (w.alloc (.cells (vcs x) 36))) := (Below.refl _ _).alloc (Nat.le_refl _) _
  have HV := hide (vbx_new x w)
  have HR := hide (rread_any s (w.alloc (.cells (vcs x) 36)) hs)
  rw [hE] at HR
  clear hE
  generalize rdH s = H at *
  have hlk : k < x.ls.length := by omega
  have hy : x.ls[k]? = some (x.ls.getD k (0, 0)) := by rw [List.getD_eq_getElem?_getD, List.getElem?_eq_getElem hlk]; rfl
  obtain ⟨bl, o, ha, hbl, hcs'⟩ : ∃ b o, x.a = some ⟨b, o, none⟩ ∧ b < w.heap.size ∧ (w.cell? ⟨b, o + k * 2, none⟩ = some (.int .i64 (x.ls.getD k (0, 0)).1) ∧ w.cell? ⟨b, o + k * 2 + 1, none⟩ = some (.int .i64 (x.ls.getD k (0, 0)).2)) := by
    rcases hL with q | ⟨b, o, ha, hb, hc⟩
    · rw [q] at hlk; simp at hlk
    · exact ⟨b, o, ha, hb, hc k _ hy⟩
  clear hL hy hlk hls
  unfold mineH
  generalize x.ls.getD k (0, 0) = y at *
  obtain ⟨y1, y2⟩ := y
  obtain ⟨v, g, i, d, l, z⟩ := H
  obtain ⟨id, gen, len, a, n, c, ls⟩ := x
  simp only at ha h9
  subst ha h9
  simp only [vcs, hcs] at HB HR ⊢
  have hk0 : (0 : Int) ≤ (k : Int) := by omega
  have hk9 : (k : Int) < 9 := by omega
  have hki : ¬ ((k : Int) < 0) := by omega
  have q0 : decide ((k : Int) < 0) = false := by simp
  have q8 : decide (8 < (k : Int)) = false := by simp; omega
  have HC := hide hcs'
  clear hcs'
  go_enter Try.func17, Try.ntmps17
  go_wp2_with fail
  refine HR.out.mono ?_
  rintro e w1 ⟨rfl, hb1⟩
  have hb1' := HB.out.trans (hb1.mono HB.out.size)
  have HB1 := hide hb1'
  have HV1 := hide (HV.out.below hb1 HV.out.lt)
  have HC1 : Hid (w1.cell? ⟨bl, o + k * 2, none⟩ = some (.int .i64 y1) ∧ w1.cell? ⟨bl, o + k * 2 + 1, none⟩ = some (.int .i64 y2)) := ⟨(hb1'.cell (p := ⟨bl, o + k * 2, none⟩) hbl).trans HC.out.1, (hb1'.cell (p := ⟨bl, o + k * 2 + 1, none⟩) hbl).trans HC.out.2⟩
  have HLw := hide (Nat.lt_of_lt_of_le hbl hb1'.size)
  clear hb1 hb1' HC HR HV HB
  have hal : Below w1.heap.size w1 (w1.alloc (.cells #[.int .i64 v, .int .i64 g, .int .i64 i, .int .i64 d, .int .i64 l, .string z] 25)) := (Below.refl _ _).alloc (Nat.le_refl _) _
  have HB2 := hide (HB1.out.trans (hal.mono HB1.out.size))
  obtain ⟨v0, v1, v2, v3⟩ := (HV1.out.below hal HV1.out.lt).cells
  obtain ⟨⟨s0, s1, s2, s3, s4, s5⟩, -⟩ := (hbx_new 25 ⟨v, g, i, d, l, z⟩ w1).cells
  have l0 := (hal.cell (p := ⟨bl, o + k * 2, none⟩) HLw.out).trans HC1.out.1
  have l1 := (hal.cell (p := ⟨bl, o + k * 2 + 1, none⟩) HLw.out).trans HC1.out.2
  simp only [hcs] at v0 v1 v2 v3 s0 s1 s2 s3 s4 s5 l0 l1
  clear hal HB1 HV1 HC1 HLw
  go_upto_region 6 with fail
  generalize (w1.alloc (.cells #[.int .i64 v, .int .i64 g, .int .i64 i, .int .i64 d, .int .i64 l, .string z] 25)) = W2 at *
  generalize w1.heap.size = bh at *
  by_cases t0 : v = id
  case neg =>
    have b0 : (v == id) = false := by simpa using t0
    have a0 : (v != id) = true := by simpa using t0
    go_quiet (fail)
    go_wp2_with fail
    all_goals (try go_ret2)
    all_goals first | exact ⟨rfl, HB2.out⟩ | exact ⟨rfl, draws_below HB2.out _⟩ | exact ⟨by simp_all; try rfl, HB2.out⟩ | exact ⟨by simp_all; try rfl, draws_below HB2.out _⟩
  have b0 : (v == id) = true := by simpa using t0
  have a0 : (v != id) = false := by simpa using t0
  by_cases t1 : g = gen
  case neg =>
    have b1 : (g == gen) = false := by simpa using t1
    have a1 : (g != gen) = true := by simpa using t1
    go_quiet (fail)
    go_wp2_with fail
    all_goals (try go_ret2)
    all_goals first | exact ⟨rfl, HB2.out⟩ | exact ⟨rfl, draws_below HB2.out _⟩ | exact ⟨by simp_all; try rfl, HB2.out⟩ | exact ⟨by simp_all; try rfl, draws_below HB2.out _⟩
  have b1 : (g == gen) = true := by simpa using t1
  have a1 : (g != gen) = false := by simpa using t1
  by_cases t2 : i = (k : Int)
  case neg =>
    have b2 : (i == (k : Int)) = false := by simpa using t2
    have a2 : (i != (k : Int)) = true := by simpa using t2
    go_quiet (fail)
    go_wp2_with fail
    all_goals (try go_ret2)
    all_goals first | exact ⟨rfl, HB2.out⟩ | exact ⟨rfl, draws_below HB2.out _⟩ | exact ⟨by simp_all; try rfl, HB2.out⟩ | exact ⟨by simp_all; try rfl, draws_below HB2.out _⟩
  have b2 : (i == (k : Int)) = true := by simpa using t2
  have a2 : (i != (k : Int)) = false := by simpa using t2
  by_cases t3 : d = y1
  case neg =>
    have b3 : (d == y1) = false := by simpa using t3
    have a3 : (d != y1) = true := by simpa using t3
    go_quiet (fail)
    go_wp2_with fail
    all_goals (try go_ret2)
    all_goals first | exact ⟨rfl, HB2.out⟩ | exact ⟨rfl, draws_below HB2.out _⟩ | exact ⟨by simp_all; try rfl, HB2.out⟩ | exact ⟨by simp_all; try rfl, draws_below HB2.out _⟩
  have b3 : (d == y1) = true := by simpa using t3
  have a3 : (d != y1) = false := by simpa using t3
  by_cases t4 : l = y2
  case neg =>
    have b4 : (l == y2) = false := by simpa using t4
    have a4 : (l != y2) = true := by simpa using t4
    go_quiet (fail)
    go_wp2_with fail
    all_goals (try go_ret2)
    all_goals first | exact ⟨rfl, HB2.out⟩ | exact ⟨rfl, draws_below HB2.out _⟩ | exact ⟨by simp_all; try rfl, HB2.out⟩ | exact ⟨by simp_all; try rfl, draws_below HB2.out _⟩
  have b4 : (l == y2) = true := by simpa using t4
  have a4 : (l != y2) = false := by simpa using t4
  go_quiet (fail)
  go_wp2_with fail
  all_goals (try go_ret2)
  all_goals first | exact ⟨rfl, HB2.out⟩ | exact ⟨rfl, draws_below HB2.out _⟩ | exact ⟨by simp_all; try rfl, HB2.out⟩ | exact ⟨by simp_all; try rfl, draws_below HB2.out _⟩
theorem rmine_any (s : ByteArray) (x : Vol) (k : Int) (w : World) (hs : s.size ≤ 100000) (hls : x.ls.length = x.n) (hL : LocsAt w x.a x.ls) : Calls Try.prog 17 #[.string s, .agg (vcs x), .int .i64 k] w fun r w' => r = .returned (.tuple #[.string (mT s x k), .int .i64 (mE s x k)]) ∧ Below w.heap.size w w' := by
  unfold mT
  by_cases h : x.n = 9 ∧ 0 ≤ k ∧ k < 9
  · by_cases hE : rdE s = 0
    · obtain ⟨h9, hk0, hk9⟩ := h
      obtain ⟨n, rfl⟩ := Int.eq_ofNat_of_zero_le hk0
      have e : mE s x n = if rdH s = mineH x n (rdH s) then 0 else 4 := by unfold mE; rw [if_pos ⟨h9, hk0, hk9⟩, if_pos hE, Int.toNat_natCast]
      have e2 : (if mE s x n = 0 then (rdH s).x else ByteArray.empty) = if rdH s = mineH x n (rdH s) then (rdH s).x else ByteArray.empty := by
        rw [e]
        by_cases q : rdH s = mineH x n (rdH s)
        · rw [if_pos q, if_pos q, if_pos rfl]
        · rw [if_neg q, if_neg q, if_neg (by decide)]
      rw [e2, e]
      exact rmine_two s x n w hs h9 (by omega) hls hL hE
    · have e : mE s x k = rdE s := by unfold mE; rw [if_pos h, if_neg hE]
      rw [e, if_neg hE]
      exact rmine_err s x k w hs h hE
  · have e : mE s x k = 1 := by unfold mE; rw [if_neg h]
    rw [e, if_neg (by decide)]
    exact rmine_arg s x k w h
end Go.Proofs.Ytjcabdgikkmlpaa
