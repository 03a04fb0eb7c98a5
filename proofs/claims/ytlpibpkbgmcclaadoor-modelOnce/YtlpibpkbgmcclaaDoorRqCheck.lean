/- What request.Check answers, and the document's. (Written by genrq.py.) -/
import Derived.Test.YtlpibpkbgmcclaaDoorRqNeedle
import Derived.Test.YtlpibpkbgmcclaaDoorRqMath
namespace Go.Proofs.YtlpibpkbgmcclaaDoor
open Go.RowKit
set_option linter.unusedVariables false
set_option maxRecDepth 100000 in
set_option maxHeartbeats 8000000 in
theorem qcheck_any (r : Rq) (w : World) (hk : r.k.size ≤ 100000) (hv : r.v.size ≤ 100000) : Calls Tryd.prog 16 #[.agg (rqs r)] w fun e w' => e = .returned (.int .i64 (rqE r)) ∧ Below w.heap.size w w' := by
  have HB : Hid (Below w.heap.size w (w.alloc (.cells (rqs r) 24))) := (Below.refl _ _).alloc (Nat.le_refl _) _
  obtain ⟨d, k, v⟩ := r
  have H2 : Hid (∀ W, Calls Tryd.prog 25 #[.agg #[.string k, .string v]] W fun e w' => e = .returned (.int .i64 (ckE ⟨k, v⟩)) ∧ Below W.heap.size W w') := fun W => ncheck_any ⟨k, v⟩ W (by have := hk; simp only at this ⊢; omega) (by have := hv; simp only at this ⊢; omega)
  simp only [rqs] at HB ⊢
  by_cases h1 : d < 0
  · have e1 : decide (d < 0) = true := by simpa using h1
    have HE : Hid (rqE ⟨d, k, v⟩ = 1) := by show _ = _; unfold rqE; rw [if_pos (.inl h1)]
    clear hk hv h1
    go_enter Tryd.func16, Tryd.ntmps16
    go_wp2_with fail
    try go_ret
    exact ⟨ret_int HE.out.symm, HB.out⟩
  have e1 : decide (d < 0) = false := by simpa using h1
  by_cases h2 : 4 < d
  · have e2 : decide (4 < d) = true := by simpa using h2
    have HE : Hid (rqE ⟨d, k, v⟩ = 1) := by show _ = _; unfold rqE; rw [if_pos (.inr (.inl h2))]
    clear hk hv h1 h2
    go_enter Tryd.func16, Tryd.ntmps16
    go_wp2_with fail
    try go_ret
    exact ⟨ret_int HE.out.symm, HB.out⟩
  have e2 : decide (4 < d) = false := by simpa using h2
  by_cases h3 : v.size ≠ 0 ∧ d ≠ 0
  · have e3 := not_empty h3.1
    have e4 : (d == 0) = false := by simpa using h3.2
    have HE : Hid (rqE ⟨d, k, v⟩ = 1) := by show _ = _; unfold rqE; rw [if_pos (.inr (.inr h3))]
    clear hk hv h1 h2 h3
    go_enter Tryd.func16, Tryd.ntmps16
    go_wp2_with fail
    try go_ret
    exact ⟨ret_int HE.out.symm, HB.out⟩
  have hn : ¬ (d < 0 ∨ 4 < d ∨ (v.size ≠ 0 ∧ d ≠ 0)) := by rintro (q | q | q); exact h1 q; exact h2 q; exact h3 q
  have HV : Hid (v.toList.isEmpty = true ∨ (v.toList.isEmpty = false ∧ (d == 0) = true)) := by
    by_cases q : v.size = 0
    · exact .inl (is_empty q)
    · exact .inr ⟨not_empty q, by simp; omega⟩
  by_cases h4 : d = 4 ∧ k.size = 0
  · have HE : Hid (rqE ⟨d, k, v⟩ = 0) := by show _ = _; unfold rqE; rw [if_neg hn, if_pos h4]
    obtain ⟨rfl, h4⟩ := h4
    have e5 := is_empty h4
    clear hk hv h1 h2 h3 h4 hn H2
    have e6 := HV.out.resolve_right (fun h => by have := h.2; simp at this)
    go_enter Tryd.func16, Tryd.ntmps16
    go_wp2_with fail
    try go_ret
    exact ⟨ret_int HE.out.symm, HB.out⟩
  have HE : Hid (rqE ⟨d, k, v⟩ = ckE ⟨k, v⟩) := by show _ = _; unfold rqE; rw [if_neg hn, if_neg h4]
  have HK : Hid ((d == 4) = false ∨ ((d == 4) = true ∧ k.toList.isEmpty = false)) := by
    by_cases q : d = 4
    · exact .inr ⟨by simpa using q, not_empty (fun z => h4 ⟨q, z⟩)⟩
    · exact .inl (by simpa using q)
  clear hk hv h1 h2 h3 h4 hn
  rcases HV.out with e6 | ⟨e6, e7⟩
  all_goals rcases HK.out with e8 | ⟨e8, e9⟩
  all_goals try (exfalso; have a1 := eq_of_beq e7; have a2 := eq_of_beq e8; omega)
  all_goals
    go_enter Tryd.func16, Tryd.ntmps16
    go_wp2_with fail
    refine (H2.out _).mono ?_
    rintro e w1 ⟨rfl, hb⟩
    have HB1 := hide (HB.out.trans (hb.mono HB.out.size))
    clear hb
    go_wp2_with fail
    try go_ret
    exact ⟨ret_int HE.out.symm, HB1.out⟩
end Go.Proofs.YtlpibpkbgmcclaaDoor
