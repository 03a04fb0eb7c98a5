/- Volumes that are retired one behind the other; who is held. -/
import Derived.Test.YtghcekhlohgkaaaPnMath
namespace Go.Proofs.Ytghcekhlohgkaaa
set_option linter.unusedVariables false
def reLs (l : List VD) : List VD := l.foldl reL []
theorem reLs_snoc {l : List VD} {k : Nat} {x : VD} (h : l[k]? = some x) : reLs (l.take (k + 1)) = reL (reLs (l.take k)) x := by
  unfold reLs
  rw [List.take_add_one, h]
  simp
theorem mem_reL {L : List VD} {v x : VD} (h : x ∈ reL L v) : x ∈ L ∨ x = v := by
  unfold reL at h
  split at h
  · exact .inl h
  · simpa using h
theorem mem_fold : ∀ (l L : List VD) (x : VD), x ∈ l.foldl reL L → x ∈ L ∨ x ∈ l
  | [], L, x, h => .inl h
  | y :: l, L, x, h => by
    rcases mem_fold l (reL L y) x h with q | q
    · rcases mem_reL q with r | r
      · exact .inl r
      · exact .inr (by simp [r])
    · exact .inr (by simp [q])
theorem mem_reLs {l : List VD} {x : VD} (h : x ∈ reLs l) : x ∈ l := by
  rcases mem_fold l [] x h with q | q
  · simp at q
  · exact q
theorem len_fold : ∀ (l L : List VD), (l.foldl reL L).length ≤ L.length + l.length
  | [], L => by simp
  | y :: l, L => by
    have h1 := len_fold l (reL L y)
    have h2 := reL_le L y
    simp only [List.foldl_cons, List.length_cons]
    omega
theorem len_reLs (l : List VD) (k : Nat) : (reLs (l.take k)).length ≤ k := by
  have := len_fold (l.take k) []
  unfold reLs
  rw [List.length_take] at this
  simp at this
  omega
/-- how many of them have a pin -/
def cntP (L : List VD) (q : Int × Int) : Nat := (L.filter fun x => decide (x.pin = q)).length
theorem cntP_zero {L : List VD} {q : Int × Int} : hasP L q = false ↔ cntP L q = 0 := by
  unfold hasP cntP
  rw [List.length_eq_zero_iff, List.filter_eq_nil_iff, List.any_eq_false]
theorem cntP_reL (L : List VD) (v : VD) (q : Int × Int) : cntP (reL L v) q = cntP L q + (if reE L v = 0 ∧ v.pin = q then 1 else 0) := by
  unfold reL reE
  cases h : hasP L v.pin with
  | true => simp
  | false =>
    unfold cntP
    by_cases e : v.pin = q <;> simp [e]
theorem cntP_one {L : List VD} (h : ∀ q, cntP L q ≤ 1) (v : VD) (q : Int × Int) : cntP (reL L v) q ≤ 1 := by
  rw [cntP_reL]
  by_cases e : reE L v = 0 ∧ v.pin = q
  · rw [if_pos e]
    have : hasP L v.pin = false := by
      have := e.1
      unfold reE at this
      split at this
      · exact absurd this (by decide)
      · simpa using ‹¬ hasP L v.pin = true›
    rw [e.2] at this
    have := cntP_zero.1 this
    omega
  · rw [if_neg e]; exact h q
theorem cntP_fold : ∀ (l L : List VD), (∀ q, cntP L q ≤ 1) → ∀ q, cntP (l.foldl reL L) q ≤ 1
  | [], L, h, q => h q
  | y :: l, L, h, q => cntP_fold l (reL L y) (cntP_one h y) q
theorem cntP_reLs (l : List VD) (q : Int × Int) : cntP (reLs l) q ≤ 1 := cntP_fold l [] (by simp [cntP]) q
def R1q (q : Int × Int) : Int × Int → Nat := inc (fun _ => 0) q
theorem R1q_zero {q x : Int × Int} : R1q q x = 0 ↔ x ≠ q := by
  unfold R1q inc
  by_cases h : x = q <;> simp [h]
theorem rpL_one (L : List VD) (q : Int × Int) : (rpL (R1q q) L).length = cntP L q := by
  unfold rpL cntP
  congr 1
  apply List.filter_congr
  intro x hx
  by_cases h : x.pin = q
  · have : R1q q x.pin ≠ 0 := fun e => R1q_zero.1 e h
    simp [h]
    rw [h] at this
    exact this
  · have : R1q q x.pin = 0 := R1q_zero.2 h
    simp [h, this]
theorem rpO_one (L : List VD) (q : Int × Int) : (rpO (R1q q) L).length = L.length - cntP L q := by
  have h1 := rp_len (R1q q) L
  rw [rpL_one] at h1
  omega
theorem rpO_pin {L : List VD} {q : Int × Int} {x : VD} (h : x ∈ rpO (R1q q) L) : x.pin ≠ q := by
  unfold rpO at h
  have := (List.mem_filter.1 h).2
  exact R1q_zero.1 (by simpa using this)
theorem mem_rpO {R : Int × Int → Nat} {L : List VD} {x : VD} (h : x ∈ rpO R L) : x ∈ L := (List.mem_filter.1 h).1
theorem mem_rpL {R : Int × Int → Nat} {L : List VD} {x : VD} (h : x ∈ rpL R L) : x ∈ L := (List.mem_filter.1 h).1
end Go.Proofs.Ytghcekhlohgkaaa
