/- What the document's needle.Check answers. (For seats without the document's digests: in the place of NeCheck, behind RcKey.) What request.Check answers, and the document's. (Written by genrq.py.) -/
import Derived.Test.YtlpibpkbgmcclaaGreatDoorRcKey
import Derived.Test.YtlpibpkbgmcclaaGreatDoorPkRefsX
import Derived.Lib.QuietBelow
import Derived.Deep.Cut
import Derived.Test.YtlpibpkbgmcclaaGreatDoorRqMathX
namespace Go.Proofs.YtlpibpkbgmcclaaGreatDoor
open Go.RowKit
set_option linter.unusedVariables false
theorem text_q (s : ByteArray) (wr : World) (hs : s.size ≤ 1000000) : ∀ q os, Calls Tryz.prog 47 #[.string s] (Go.Sort.grow (redrawn wr q) os) fun e w'' => e = .returned (.string (textS s)) ∧ ∃ p : Regrown, w'' = Go.Sort.grow (redrawn wr p.d) p.os := fun q os => Calls.regrown_of (refText_any s _ hs)
set_option maxRecDepth 100000 in
set_option maxHeartbeats 8000000 in
theorem rcheck_any (n : Nd) (w : World) (hk : n.k.size ≤ 100000) (hv : n.v.size ≤ 100000) : Calls Tryz.prog 34 #[.agg (ncs n)] w fun r w' => r = .returned (.int .i64 (ckE n)) ∧ Below w.heap.size w w' := by
  have HB : Hid (Below w.heap.size w (w.alloc (.cells (ncs n) 74))) := (Below.refl _ _).alloc (Nat.le_refl _) _
  have H1 := hide (refKey_any n.k (w.alloc (.cells (ncs n) 74)) (by omega))
  have HN := hide (nbx_new 74 n w)
  have z1 := textS_le hk (by omega)
  have z2 := textS_le hv (by omega)
  have HS : Hid (IntKind.i64.wrap (IntKind.i64.wrap (((textS n.k).size : Int) + ((textS n.v).size : Int)) + 32) = ((nsz n : Nat) : Int)) := by show _ = _; unfold nsz; rw [IntKind.wrap_i64, IntKind.wrap_i64]; omega
  have e0 := cell_regrown HN.out.c0
  have e1 := cell_regrown HN.out.c1
  have r0 := text_q n.k (w.alloc (.cells (ncs n) 74)) (by omega)
  have r1 := text_q n.v (w.alloc (.cells (ncs n) 74)) (by omega)
  by_cases hkey : keyOk n.k
  case neg =>
    rw [ckE_key hkey]
    rw [kOk_f hkey] at H1
    clear hkey e0 e1 r0 r1 HS HN z1 z2
    obtain ⟨k, v⟩ := n
    simp only [ncs] at HB H1 ⊢
    go_enter Tryz.func34, Tryz.ntmps34
    go_wp2_with fail
    refine H1.out.mono ?_
    rintro e w1 ⟨rfl, rfl⟩
    go_wp2_with fail
    try go_ret
    exact ⟨rfl, HB.out⟩
  rw [kOk_t hkey] at H1
  by_cases hbig : 384 < nsz n
  · rw [ckE_big hkey hbig]
    have hd : decide ((384 : Int) < ((nsz n : Nat) : Int)) = true := by simp; omega
    clear hkey
    generalize nsz n = N at *
    obtain ⟨k, v⟩ := n
    simp only [ncs] at HB H1 HN HS e0 e1 r0 r1 z1 z2 ⊢
    go_enter Tryz.func34, Tryz.ntmps34
    go_wp2_with fail
    refine H1.out.mono ?_
    rintro e w1 ⟨rfl, rfl⟩
    go_upto_region 3 with fail
    generalize w.alloc (.cells #[.string k, .string v] 74) = W1 at *
    generalize textS k = A at *
    generalize textS v = B at *
    refine wp_region_quiet_below (by kernel_rfl) (by kernel_rfl) ?_
    repeat (quiet_step (first | (with_reducible exact r0 _ _) | (with_reducible exact r1 _ _)))
    refine wpQuiet_nil ?_
    intro _ hw'
    obtain ⟨pq, hw''⟩ := hw'
    subst hw''
    have HQ := hide (HB.out.trans ((below_regrown W1 pq.d pq.os).mono HB.out.size))
    generalize Go.Sort.grow (redrawn W1 pq.d) pq.os = WQ at *
    rw [HS.out]
    clear e0 e1 r0 r1 z1 z2 HB HN HS H1
    go_wp2_with fail
    try go_ret
    exact ⟨rfl, HQ.out⟩
  rw [ckE_zero.2 ⟨hkey, by omega⟩]
  have hd : decide ((384 : Int) < ((nsz n : Nat) : Int)) = false := by simp; omega
  clear hkey
  generalize nsz n = N at *
  obtain ⟨k, v⟩ := n
  simp only [ncs] at HB H1 HN HS e0 e1 r0 r1 z1 z2 ⊢
  go_enter Tryz.func34, Tryz.ntmps34
  go_wp2_with fail
  refine H1.out.mono ?_
  rintro e w1 ⟨rfl, rfl⟩
  go_upto_region 3 with fail
  generalize w.alloc (.cells #[.string k, .string v] 74) = W1 at *
  generalize textS k = A at *
  generalize textS v = B at *
  refine wp_region_quiet_below (by kernel_rfl) (by kernel_rfl) ?_
  repeat (quiet_step (first | (with_reducible exact r0 _ _) | (with_reducible exact r1 _ _)))
  refine wpQuiet_nil ?_
  intro _ hw'
  obtain ⟨pq, hw''⟩ := hw'
  subst hw''
  have HQ := hide (HB.out.trans ((below_regrown W1 pq.d pq.os).mono HB.out.size))
  generalize Go.Sort.grow (redrawn W1 pq.d) pq.os = WQ at *
  rw [HS.out]
  clear e0 e1 r0 r1 z1 z2 HB HN HS H1
  go_wp2_with fail
  try go_ret
  exact ⟨rfl, HQ.out⟩
end Go.Proofs.YtlpibpkbgmcclaaGreatDoor
namespace Go.Proofs.YtlpibpkbgmcclaaGreatDoor
open Go.RowKit
set_option linter.unusedVariables false
set_option maxRecDepth 100000 in
set_option maxHeartbeats 8000000 in
theorem qcheck_any (r : Rq) (w : World) (hk : r.k.size ≤ 100000) (hv : r.v.size ≤ 100000) : Calls Tryz.prog 14 #[.agg (rqs r)] w fun e w' => e = .returned (.int .i64 (rqE r)) ∧ Below w.heap.size w w' := by
  have HB : Hid (Below w.heap.size w (w.alloc (.cells (rqs r) 32))) := (Below.refl _ _).alloc (Nat.le_refl _) _
  obtain ⟨d, k, v⟩ := r
  have H2 : Hid (∀ W, Calls Tryz.prog 28 #[.agg #[.string k, .string v]] W fun e w' => e = .returned (.int .i64 (ckE ⟨k, v⟩)) ∧ Below W.heap.size W w') := fun W => ncheck_any ⟨k, v⟩ W (by have := hk; simp only at this ⊢; omega) (by have := hv; simp only at this ⊢; omega)
  simp only [rqs] at HB ⊢
  by_cases h1 : d < 0
  · have e1 : decide (d < 0) = true := by simpa using h1
    have HE : Hid (rqE ⟨d, k, v⟩ = 1) := by show _ = _; unfold rqE; rw [if_pos (.inl h1)]
    clear hk hv h1
    go_enter Tryz.func14, Tryz.ntmps14
    go_wp2_with fail
    try go_ret
    exact ⟨ret_int HE.out.symm, HB.out⟩
  have e1 : decide (d < 0) = false := by simpa using h1
  by_cases h2 : 4 < d
  · have e2 : decide (4 < d) = true := by simpa using h2
    have HE : Hid (rqE ⟨d, k, v⟩ = 1) := by show _ = _; unfold rqE; rw [if_pos (.inr (.inl h2))]
    clear hk hv h1 h2
    go_enter Tryz.func14, Tryz.ntmps14
    go_wp2_with fail
    try go_ret
    exact ⟨ret_int HE.out.symm, HB.out⟩
  have e2 : decide (4 < d) = false := by simpa using h2
  by_cases h3 : v.size ≠ 0 ∧ d ≠ 0
  · have e3 := not_empty h3.1
    have e4 : (d == 0) = false := by simpa using h3.2
    have HE : Hid (rqE ⟨d, k, v⟩ = 1) := by show _ = _; unfold rqE; rw [if_pos (.inr (.inr h3))]
    clear hk hv h1 h2 h3
    go_enter Tryz.func14, Tryz.ntmps14
    go_wp2_with fail
    try go_ret
    exact ⟨ret_int HE.out.symm, HB.out⟩
  have hn : ¬ (d < 0 ∨ 4 < d ∨ (v.size ≠ 0 ∧ d ≠ 0)) := by rintro (q | q | q); exact h1 q; exact h2 q; exact h3 q
  have HV : Hid (v.toList.isEmpty = true ∨ (v.toList.isEmpty = false ∧ (d == 0) = true)) := by
    by_cases q : v.size = 0
    · exact .inl (is_empty q)
    · exact .inr ⟨not_empty q, by simp; omega⟩
  by_cases h4 : d = 4 ∧ k.size = 0
  · have HE : Hid (rqE ⟨d, k, v⟩ = 0) := by show _ = _; unfold rqE; rw [if_neg hn, if_pos h4]
    obtain ⟨rfl, h4⟩ := h4
    have e5 := is_empty h4
    clear hk hv h1 h2 h3 h4 hn H2
    have e6 := HV.out.resolve_right (fun h => by have := h.2; simp at this)
    go_enter Tryz.func14, Tryz.ntmps14
    go_wp2_with fail
    try go_ret
    exact ⟨ret_int HE.out.symm, HB.out⟩
  have HE : Hid (rqE ⟨d, k, v⟩ = ckE ⟨k, v⟩) := by show _ = _; unfold rqE; rw [if_neg hn, if_neg h4]
  have HK : Hid ((d == 4) = false ∨ ((d == 4) = true ∧ k.toList.isEmpty = false)) := by
    by_cases q : d = 4
    · exact .inr ⟨by simpa using q, not_empty (fun z => h4 ⟨q, z⟩)⟩
    · exact .inl (by simpa using q)
  clear hk hv h1 h2 h3 h4 hn
  rcases HV.out with e6 | ⟨e6, e7⟩
  all_goals rcases HK.out with e8 | ⟨e8, e9⟩
  all_goals try (exfalso; have a1 := eq_of_beq e7; have a2 := eq_of_beq e8; omega)
  all_goals
    go_enter Tryz.func14, Tryz.ntmps14
    go_wp2_with fail
    refine (H2.out _).mono ?_
    rintro e w1 ⟨rfl, hb⟩
    have HB1 := hide (HB.out.trans (hb.mono HB.out.size))
    clear hb
    go_wp2_with fail
    try go_ret
    exact ⟨ret_int HE.out.symm, HB1.out⟩
set_option maxRecDepth 100000 in
set_option maxHeartbeats 8000000 in
theorem qrcheck_any (r : Rq) (w : World) (hk : r.k.size ≤ 100000) (hv : r.v.size ≤ 100000) : Calls Tryz.prog 16 #[.agg (rqs r)] w fun e w' => e = .returned (.int .i64 (rqE r)) ∧ Below w.heap.size w w' := by
  have HB : Hid (Below w.heap.size w (w.alloc (.cells (rqs r) 32))) := (Below.refl _ _).alloc (Nat.le_refl _) _
  obtain ⟨d, k, v⟩ := r
  have H2 : Hid (∀ W, Calls Tryz.prog 34 #[.agg #[.string k, .string v]] W fun e w' => e = .returned (.int .i64 (ckE ⟨k, v⟩)) ∧ Below W.heap.size W w') := fun W => rcheck_any ⟨k, v⟩ W (by have := hk; simp only at this ⊢; omega) (by have := hv; simp only at this ⊢; omega)
  simp only [rqs] at HB ⊢
  by_cases h1 : d < 0
  · have e1 : decide (d < 0) = true := by simpa using h1
    have HE : Hid (rqE ⟨d, k, v⟩ = 1) := by show _ = _; unfold rqE; rw [if_pos (.inl h1)]
    clear hk hv h1
    go_enter Tryz.func16, Tryz.ntmps16
    go_wp2_with fail
    try go_ret
    exact ⟨ret_int HE.out.symm, HB.out⟩
  have e1 : decide (d < 0) = false := by simpa using h1
  by_cases h2 : 4 < d
  · have e2 : decide (4 < d) = true := by simpa using h2
    have HE : Hid (rqE ⟨d, k, v⟩ = 1) := by show _ = _; unfold rqE; rw [if_pos (.inr (.inl h2))]
    clear hk hv h1 h2
    go_enter Tryz.func16, Tryz.ntmps16
    go_wp2_with fail
    try go_ret
    exact ⟨ret_int HE.out.symm, HB.out⟩
  have e2 : decide (4 < d) = false := by simpa using h2
  by_cases h3 : v.size ≠ 0 ∧ d ≠ 0
  · have e3 := not_empty h3.1
    have e4 : (d == 0) = false := by simpa using h3.2
    have HE : Hid (rqE ⟨d, k, v⟩ = 1) := by show _ = _; unfold rqE; rw [if_pos (.inr (.inr h3))]
    clear hk hv h1 h2 h3
    go_enter Tryz.func16, Tryz.ntmps16
    go_wp2_with fail
    try go_ret
    exact ⟨ret_int HE.out.symm, HB.out⟩
  have hn : ¬ (d < 0 ∨ 4 < d ∨ (v.size ≠ 0 ∧ d ≠ 0)) := by rintro (q | q | q); exact h1 q; exact h2 q; exact h3 q
  have HV : Hid (v.toList.isEmpty = true ∨ (v.toList.isEmpty = false ∧ (d == 0) = true)) := by
    by_cases q : v.size = 0
    · exact .inl (is_empty q)
    · exact .inr ⟨not_empty q, by simp; omega⟩
  by_cases h4 : d = 4 ∧ k.size = 0
  · have HE : Hid (rqE ⟨d, k, v⟩ = 0) := by show _ = _; unfold rqE; rw [if_neg hn, if_pos h4]
    obtain ⟨rfl, h4⟩ := h4
    have e5 := is_empty h4
    clear hk hv h1 h2 h3 h4 hn H2
    have e6 := HV.out.resolve_right (fun h => by have := h.2; simp at this)
    go_enter Tryz.func16, Tryz.ntmps16
    go_wp2_with fail
    try go_ret
    exact ⟨ret_int HE.out.symm, HB.out⟩
  have HE : Hid (rqE ⟨d, k, v⟩ = ckE ⟨k, v⟩) := by show _ = _; unfold rqE; rw [if_neg hn, if_neg h4]
  have HK : Hid ((d == 4) = false ∨ ((d == 4) = true ∧ k.toList.isEmpty = false)) := by
    by_cases q : d = 4
    · exact .inr ⟨by simpa using q, not_empty (fun z => h4 ⟨q, z⟩)⟩
    · exact .inl (by simpa using q)
  clear hk hv h1 h2 h3 h4 hn
  rcases HV.out with e6 | ⟨e6, e7⟩
  all_goals rcases HK.out with e8 | ⟨e8, e9⟩
  all_goals try (exfalso; have a1 := eq_of_beq e7; have a2 := eq_of_beq e8; omega)
  all_goals
    go_enter Tryz.func16, Tryz.ntmps16
    go_wp2_with fail
    refine (H2.out _).mono ?_
    rintro e w1 ⟨rfl, hb⟩
    have HB1 := hide (HB.out.trans (hb.mono HB.out.size))
    clear hb
    go_wp2_with fail
    try go_ret
    exact ⟨ret_int HE.out.symm, HB1.out⟩
end Go.Proofs.YtlpibpkbgmcclaaGreatDoor
