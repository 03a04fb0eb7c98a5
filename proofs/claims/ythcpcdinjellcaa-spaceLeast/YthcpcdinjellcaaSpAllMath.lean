/- Layer 10's All as numbers: what is taken one behind the other, and given back. -/
import Derived.Test.YthcpcdinjellcaaSpMath
namespace Go.Proofs.Ythcpcdinjellcaa
set_option linter.unusedVariables false
theorem tk_ok {B : Nat → Bool} {d : Int} (h : tkE B d = 0) : okL (d, tkN B d) = true ∧ B (idx (d, tkN B d)) = false ∧ tkB B d = setB B (idx (d, tkN B d)) true := by
  unfold tkE at h
  by_cases hd : okD d = true
  · rw [if_pos hd] at h
    cases hf : frO B d.toNat with
    | none => rw [hf] at h; simp at h
    | some n =>
      obtain ⟨hn, hb, -⟩ := fr_is hf
      have e1 : tkN B d = (n : Int) := by unfold tkN; rw [if_pos hd, hf]; rfl
      have e2 : tkB B d = setB B (d.toNat * 48 + n) true := by unfold tkB; rw [if_pos hd, hf]
      have e3 : idx (d, tkN B d) = d.toNat * 48 + n := by rw [e1]; rfl
      refine ⟨?_, ?_, ?_⟩
      · rw [e1]; exact okL_iff.2 ⟨okD_iff.1 hd, by simp only; omega⟩
      · rw [e3]; exact hb
      · rw [e3]; exact e2
  · rw [if_neg hd] at h; simp at h
theorem tk_bad {B : Nat → Bool} {d : Int} (h : tkE B d ≠ 0) : tkB B d = B := by
  unfold tkE at h
  unfold tkB
  by_cases hd : okD d = true
  · rw [if_pos hd] at h ⊢
    cases hf : frO B d.toNat with
    | none => rfl
    | some n => rw [hf] at h; simp at h
  · rw [if_neg hd]
/-- what is taken behind the first k -/
def allB (B : Nat → Bool) (D : List Int) : Nat → Nat → Bool
  | 0 => B
  | k + 1 => tkB (allB B D k) (D.getD k 0)
def allX (B : Nat → Bool) (D : List Int) (k : Nat) : Int × Int := (D.getD k 0, tkN (allB B D k) (D.getD k 0))
def allLs (B : Nat → Bool) (D : List Int) (k : Nat) : List (Int × Int) := (List.range k).map (allX B D)
def allE (B : Nat → Bool) (D : List Int) (k : Nat) : Int := tkE (allB B D k) (D.getD k 0)
theorem allLs_succ (B : Nat → Bool) (D : List Int) (k : Nat) : allLs B D (k + 1) = allLs B D k ++ [allX B D k] := by unfold allLs; rw [List.range_succ, List.map_append]; rfl
theorem allLs_len (B : Nat → Bool) (D : List Int) (k : Nat) : (allLs B D k).length = k := by simp [allLs]
def hit (q : Nat) (x : Int × Int) : Bool := okL x && idx x == q
theorem allB_is {B : Nat → Bool} {D : List Int} : ∀ {k : Nat}, (∀ i, i < k → allE B D i = 0) → ∀ q, allB B D k q = (B q || (allLs B D k).any (hit q)) := by
  intro k
  induction k with
  | zero => intro _ q; simp [allB, allLs]
  | succ k ih =>
    intro h q
    have h1 := ih (fun i hi => h i (by omega)) q
    obtain ⟨t1, t2, t3⟩ := tk_ok (h k (by omega))
    rw [allLs_succ, List.any_append]
    show tkB (allB B D k) (D.getD k 0) q = _
    rw [t3]
    have hx : allX B D k = (D.getD k 0, tkN (allB B D k) (D.getD k 0)) := rfl
    by_cases e : q = idx (allX B D k)
    · have hh : hit q (allX B D k) = true := by unfold hit; rw [e, hx, t1]; simp
      rw [e, hx, setB_at]
      rw [← hx, ← e]
      simp only [List.any_cons, hh, Bool.true_or, Bool.or_true]
    · rw [setB_ne (by rw [← hx]; exact e), h1]
      have : hit q (allX B D k) = false := by unfold hit; rw [hx] at e ⊢; simp; intro _ q'; exact e q'.symm
      simp [this]
theorem all_free {B : Nat → Bool} {D : List Int} : ∀ {k : Nat}, (∀ i, i < k → allE B D i = 0) → ∀ q, (allLs B D k).any (hit q) = true → B q = false := by
  intro k
  induction k with
  | zero => intro _ q h; simp [allLs] at h
  | succ k ih =>
    intro h q hq
    rw [allLs_succ, List.any_append, Bool.or_eq_true] at hq
    rcases hq with hq | hq
    · exact ih (fun i hi => h i (by omega)) q hq
    · obtain ⟨t1, t2, t3⟩ := tk_ok (h k (by omega))
      have h1 := allB_is (fun i hi => h i (Nat.lt_succ_of_lt hi)) q
      have hx : allX B D k = (D.getD k 0, tkN (allB B D k) (D.getD k 0)) := rfl
      have e : idx (allX B D k) = q := by
        simp only [List.any_cons, List.any_nil, Bool.or_false] at hq
        unfold hit at hq
        rw [Bool.and_eq_true] at hq
        simpa using hq.2
      rw [← hx, e] at t2
      rw [t2] at h1
      cases hb : B q with
      | false => rfl
      | true => rw [hb] at h1; simp at h1
theorem gvB_is (B : Nat → Bool) (x : Int × Int) (q : Nat) : gvB B x q = (B q && !hit q x) := by
  unfold gvB hit
  by_cases h : okL x = true
  · rw [if_pos h, h]
    by_cases e : q = idx x
    · subst e; rw [setB_at]; simp
    · rw [setB_ne e]
      have : (idx x == q) = false := by simpa using fun h => e h.symm
      rw [this]; simp
  · have h' : okL x = false := by simpa using h
    rw [if_neg h, h']; simp
/-- what is taken behind the first k of some are given -/
def gvs (B : Nat → Bool) (l : List (Int × Int)) (k : Nat) : Nat → Bool := (l.take k).foldl gvB B
theorem gvs_succ {B : Nat → Bool} {l : List (Int × Int)} {k : Nat} {x : Int × Int} (h : l[k]? = some x) : gvs B l (k + 1) = gvB (gvs B l k) x := by
  unfold gvs; rw [List.take_add_one, h, List.foldl_append]; rfl
theorem foldl_gv (l : List (Int × Int)) : ∀ (B : Nat → Bool) (q : Nat), (l.foldl gvB B) q = (B q && !l.any (hit q)) := by
  induction l with
  | nil => intro B q; simp
  | cons x l ih =>
    intro B q
    rw [List.foldl_cons, ih, gvB_is, List.any_cons]
    cases B q <;> cases hit q x <;> simp
theorem all_back {B : Nat → Bool} {D : List Int} {k : Nat} (h : ∀ i, i < k → allE B D i = 0) (q : Nat) : gvs (allB B D k) (allLs B D k) k q = B q := by
  unfold gvs
  rw [List.take_of_length_le (by rw [allLs_len]; exact Nat.le_refl _), foldl_gv, allB_is h q]
  cases ha : (allLs B D k).any (hit q) with
  | false => simp
  | true => rw [all_free h q ha]; simp
end Go.Proofs.Ythcpcdinjellcaa
