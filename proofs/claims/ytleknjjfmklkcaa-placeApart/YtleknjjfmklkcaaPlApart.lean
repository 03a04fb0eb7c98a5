/- Nine disks are all others, and all live; what is left. -/
import Derived.Test.YtleknjjfmklkcaaPlLive
namespace Go.Proofs.Ytleknjjfmklkcaa
open Go.RowKit
set_option linter.unusedVariables false
theorem hasB_iff {l : List Int} {d : Int} : hasB l d = true ↔ d ∈ l := by unfold hasB; exact List.contains_iff_mem
theorem rot_in {l : List Int} {f i : Nat} (h : 0 < l.length) : hasB l (rot l f i) = true := hasB_iff.2 (List.mem_of_getElem? (rot_mem h))
theorem mod_apart {n a b : Nat} (h0 : 0 < n) (h1 : a < b) (h2 : b < a + n) : a % n ≠ b % n := by
  intro e
  have h3 := Nat.div_add_mod a n
  have h4 := Nat.div_add_mod b n
  rw [e] at h3
  have h5 : n * (b / n) - n * (a / n) = b - a := by omega
  have h6 : n * (b / n - a / n) = b - a := by rw [Nat.mul_sub]; exact h5
  rcases Nat.eq_zero_or_pos (b / n - a / n) with h7 | h7
  · rw [h7, Nat.mul_zero] at h6; omega
  · have := Nat.le_mul_of_pos_right n h7
    omega
theorem getD_apart {l : List Int} (h : liveB l = true) {p q : Nat} (hp : p < l.length) (hq : q < l.length) (hne : p ≠ q) : l.getD p 0 ≠ l.getD q 0 := by
  rcases Nat.lt_or_gt_of_ne hne with h1 | h1
  · have := live_rises h h1 hq; omega
  · have := live_rises h h1 hp; omega
theorem rot_apart {l : List Int} (h : liveB l = true) {f i k : Nat} (hik : i < k) (hk : k < i + l.length) : rot l f i ≠ rot l f k := by
  have h0 : 0 < l.length := by omega
  exact getD_apart h (Nat.mod_lt _ h0) (Nat.mod_lt _ h0) (mod_apart h0 (by omega) (by omega))
/-- each place of a list is met when it is gone round -/
theorem rot_meets {l : List Int} {f p : Nat} (hp : p < l.length) : ∃ j, j < l.length ∧ (f + j) % l.length = p := by
  have h0 : 0 < l.length := by omega
  have hm := Nat.mod_lt f h0
  by_cases h : f % l.length ≤ p
  · refine ⟨p - f % l.length, by omega, ?_⟩
    have h1 := Nat.div_add_mod f l.length
    rw [show f + (p - f % l.length) = p + l.length * (f / l.length) by omega, Nat.add_mul_mod_self_left, Nat.mod_eq_of_lt hp]
  · refine ⟨p + l.length - f % l.length, by omega, ?_⟩
    have h1 := Nat.div_add_mod f l.length
    rw [show f + (p + l.length - f % l.length) = p + l.length * (f / l.length + 1) by rw [Nat.mul_add]; omega, Nat.add_mul_mod_self_left, Nat.mod_eq_of_lt hp]
theorem rotL_has {l : List Int} {f k i : Nat} (h : i < k) : hasB (rotL l f k) (rot l f i) = true := hasB_iff.2 (List.mem_map.2 ⟨i, List.mem_range.2 h, rfl⟩)
theorem ins_nine {l : List Int} {f g : Nat} (h9 : l.length = 9) : insO (rotL l f 9) l g = none := by
  refine ins_none fun i hi => ?_
  have hp : (g + i) % l.length < l.length := Nat.mod_lt _ (by omega)
  obtain ⟨j, hj, e⟩ := rot_meets (f := f) hp
  have : rot l g i = rot l f j := by unfold rot; rw [e]
  rw [this]
  exact rotL_has (by omega)
theorem rotL_not {l : List Int} (h : liveB l = true) {f : Nat} (h9 : 9 < l.length) : hasB (rotL l f 9) (rot l f 9) = false := by
  rw [← Bool.not_eq_true, hasB_iff]
  intro hm
  obtain ⟨i, hi, he⟩ := List.mem_map.1 hm
  exact rot_apart h (List.mem_range.1 hi) (by omega) he
theorem ins_more {l : List Int} (h : liveB l = true) {f g : Nat} (h9 : 9 < l.length) : ∃ d, insO (rotL l f 9) l g = some d ∧ hasB (rotL l f 9) d = false := by
  cases hi : insO (rotL l f 9) l g with
  | some d =>
    refine ⟨d, rfl, ?_⟩
    have := List.find?_some hi
    simpa using this
  | none =>
    exfalso
    unfold insO at hi
    rw [List.find?_eq_none] at hi
    have hp : (f + 9) % l.length < l.length := Nat.mod_lt _ (by omega)
    obtain ⟨j, hj, e⟩ := rot_meets (f := g) hp
    have he : rot l g j = rot l f 9 := by unfold rot; rw [e]
    have := hi (rot l g j) (List.mem_map.2 ⟨j, List.mem_range.2 hj, rfl⟩)
    rw [he, rotL_not h h9] at this
    simp at this
theorem chE_zero {id gen : Int} {l : List Int} (h : chE id gen l = 0) : chB id gen l = true ∧ ¬ l.length < 9 ∧ chL id gen l = rotL l (5 * id.toNat + 7 * gen.toNat) 9 := by
  unfold chE at h
  by_cases h1 : chB id gen l = true
  · rw [if_pos h1] at h
    by_cases h2 : l.length < 9
    · rw [if_pos h2] at h; simp at h
    · exact ⟨h1, h2, by unfold chL; rw [if_pos h1, if_neg h2]⟩
  · rw [if_neg h1] at h; simp at h
theorem chL_bad {id gen : Int} {l : List Int} (h : chE id gen l ≠ 0) : chL id gen l = [] := by
  unfold chE at h
  unfold chL
  by_cases h1 : chB id gen l = true
  · rw [if_pos h1] at h ⊢
    by_cases h2 : l.length < 9
    · rw [if_pos h2]
    · rw [if_neg h2] at h; exact absurd rfl h
  · rw [if_neg h1]
theorem has_take {l : List Int} {k : Nat} {v : Int} (h : l[k]? = some v) (x : Int) : hasB (l.take (k + 1)) x = (hasB (l.take k) x || (v == x)) := by
  rw [take_snoc h]
  unfold hasB
  rw [List.contains_eq_any_beq, List.contains_eq_any_beq, List.any_append]
  congr 1
  simp [Bool.beq_comm]
end Go.Proofs.Ytleknjjfmklkcaa
