/- Layer 10 as numbers: which slots are taken, as a function of 576 numbers. -/
namespace Go.Proofs.Ythcpcdinjellcaa
set_option linter.unusedVariables false
def okD (d : Int) : Bool := decide (0 ≤ d) && decide (d < 12)
theorem okD_iff {d : Int} : okD d = true ↔ 0 ≤ d ∧ d < 12 := by simp [okD]
def okL (x : Int × Int) : Bool := okD x.1 && (decide (0 ≤ x.2) && decide (x.2 < 48))
theorem okL_iff {x : Int × Int} : okL x = true ↔ (0 ≤ x.1 ∧ x.1 < 12) ∧ 0 ≤ x.2 ∧ x.2 < 48 := by unfold okL; rw [Bool.and_eq_true, okD_iff]; simp
def idx (x : Int × Int) : Nat := x.1.toNat * 48 + x.2.toNat
theorem idx_lt {x : Int × Int} (h : okL x = true) : idx x < 576 := by have := okL_iff.1 h; unfold idx; omega
theorem idx_inj {x y : Int × Int} (hx : okL x = true) (hy : okL y = true) (h : idx x = idx y) : x = y := by
  have h1 := okL_iff.1 hx
  have h2 := okL_iff.1 hy
  unfold idx at h
  have e1 : x.1 = y.1 := by omega
  have e2 : x.2 = y.2 := by omega
  exact Prod.ext e1 e2
def setB (B : Nat → Bool) (p : Nat) (v : Bool) : Nat → Bool := fun q => if q = p then v else B q
theorem setB_at (B : Nat → Bool) (p : Nat) (v : Bool) : setB B p v p = v := if_pos rfl
theorem setB_ne {B : Nat → Bool} {p q : Nat} {v : Bool} (h : q ≠ p) : setB B p v q = B q := if_neg h
/-- the least slot of a disk that is not taken -/
def frO (B : Nat → Bool) (d : Nat) : Option Nat := (List.range 48).find? fun n => !B (d * 48 + n)
theorem fr_some {B : Nat → Bool} {d n : Nat} (hn : n < 48) (hall : ∀ i, i < n → B (d * 48 + i) = true) (h : B (d * 48 + n) = false) : frO B d = some n := by
  unfold frO
  have e : List.range 48 = List.range n ++ n :: (List.range (48 - n - 1)).map fun i => n + 1 + i := by
    apply List.ext_getElem?
    intro i
    rw [List.getElem?_append]
    simp only [List.length_range]
    by_cases h1 : i < n
    · rw [if_pos h1]; simp [h1, Nat.lt_trans h1 hn]
    · rw [if_neg h1]
      by_cases h2 : i = n
      · subst h2; simp [hn]
      · obtain ⟨j, rfl⟩ : ∃ j, i = n + 1 + j := ⟨i - n - 1, by omega⟩
        rw [show n + 1 + j - n = j + 1 by omega, List.getElem?_cons_succ]
        by_cases h3 : n + 1 + j < 48
        · simp [h3, show j < 48 - n - 1 by omega]
        · simp [h3, show ¬ j < 48 - n - 1 by omega]
  rw [e, List.find?_append, List.find?_eq_none.2, Option.none_or, List.find?_cons_of_pos]
  · rw [h]; rfl
  · intro x hx
    rw [hall x (List.mem_range.1 hx)]; simp
theorem fr_none {B : Nat → Bool} {d : Nat} (hall : ∀ i, i < 48 → B (d * 48 + i) = true) : frO B d = none := by
  unfold frO
  rw [List.find?_eq_none]
  intro x hx
  rw [hall x (List.mem_range.1 hx)]; simp
theorem fr_is {B : Nat → Bool} {d n : Nat} (h : frO B d = some n) : n < 48 ∧ B (d * 48 + n) = false ∧ ∀ i, i < n → B (d * 48 + i) = true := by
  have h1 := List.find?_some h
  have h2 := List.mem_of_find?_eq_some h
  have hn := List.mem_range.1 h2
  refine ⟨hn, by simpa using h1, fun i hi => ?_⟩
  by_cases hb : B (d * 48 + i) = true
  · exact hb
  · exfalso
    have hb' : B (d * 48 + i) = false := by simpa using hb
    -- the least one below n that is free
    have key : ∀ k, k ≤ n → (∀ j, j < k → B (d * 48 + j) = true) ∨ ∃ j, j < k ∧ frO B d = some j := by
      intro k
      induction k with
      | zero => intro _; exact .inl fun j hj => by omega
      | succ k ih =>
        intro hk
        rcases ih (by omega) with q | ⟨j, hj, e⟩
        · by_cases hc : B (d * 48 + k) = true
          · exact .inl fun j hj => by
              by_cases e : j = k
              · subst e; exact hc
              · exact q j (by omega)
          · exact .inr ⟨k, by omega, fr_some (by omega) q (by simpa using hc)⟩
        · exact .inr ⟨j, by omega, e⟩
    rcases key n (Nat.le_refl _) with q | ⟨j, hj, e⟩
    · rw [q i hi] at hb'; cases hb'
    · rw [h] at e; cases e; omega
theorem fr_full {B : Nat → Bool} {d : Nat} (h : frO B d = none) : ∀ i, i < 48 → B (d * 48 + i) = true := by
  intro i hi
  unfold frO at h
  rw [List.find?_eq_none] at h
  simpa using h i (List.mem_range.2 hi)
/-- Take: the error, the slot, what is taken then -/
def tkE (B : Nat → Bool) (d : Int) : Int := if okD d then (if (frO B d.toNat).isSome then 0 else 7) else 1
def tkN (B : Nat → Bool) (d : Int) : Int := if okD d then (((frO B d.toNat).getD 0 : Nat) : Int) else 0
def tkB (B : Nat → Bool) (d : Int) : Nat → Bool := if okD d then (match frO B d.toNat with | some n => setB B (d.toNat * 48 + n) true | none => B) else B
/-- how many slots of a disk are free -/
def frN (B : Nat → Bool) (d : Nat) (k : Nat) : Nat := (List.range k).countP fun n => !B (d * 48 + n)
theorem frN_succ (B : Nat → Bool) (d k : Nat) : frN B d (k + 1) = frN B d k + (if B (d * 48 + k) then 0 else 1) := by
  unfold frN
  rw [List.range_succ, List.countP_append]
  cases h : B (d * 48 + k) <;> simp [h]
theorem frN_le (B : Nat → Bool) (d k : Nat) : frN B d k ≤ k := by unfold frN; have := List.countP_le_length (p := fun n => !B (d * 48 + n)) (l := List.range k); simpa using this
def frC (B : Nat → Bool) (d : Int) : Int := if okD d then ((frN B d.toNat 48 : Nat) : Int) else 0
/-- Mark, Give -/
def mkE (B : Nat → Bool) (x : Int × Int) : Int := if okL x then (if B (idx x) then 13 else 0) else 1
def mkB (B : Nat → Bool) (x : Int × Int) : Nat → Bool := if okL x then setB B (idx x) true else B
def gvE (B : Nat → Bool) (x : Int × Int) : Int := if okL x && B (idx x) then 0 else 1
def gvB (B : Nat → Bool) (x : Int × Int) : Nat → Bool := if okL x then setB B (idx x) false else B
def tnB (B : Nat → Bool) (x : Int × Int) : Bool := okL x && B (idx x)
end Go.Proofs.Ythcpcdinjellcaa
