/- Pins as they are told: who reads (how many of each), what waits. -/
import Derived.Test.YtghcekhlohgkaaaBase
namespace Go.Proofs.Ytghcekhlohgkaaa
set_option linter.unusedVariables false
structure VD where
  id : Int
  gen : Int
  len : Int
  ls : List (Int × Int)
deriving DecidableEq
def VD.pin (x : VD) : Int × Int := (x.id, x.gen)
def inc (R : Int × Int → Nat) (k : Int × Int) : Int × Int → Nat := fun x => if x = k then R k + 1 else R x
def dec (R : Int × Int → Nat) (k : Int × Int) : Int × Int → Nat := fun x => if x = k then R k - 1 else R x
def unE (R : Int × Int → Nat) (k : Int × Int) : Int := if R k = 0 then 9 else 0
def hasP (L : List VD) (k : Int × Int) : Bool := L.any fun x => decide (x.pin = k)
def reE (L : List VD) (v : VD) : Int := if hasP L v.pin = true then 13 else 0
def reL (L : List VD) (v : VD) : List VD := if hasP L v.pin = true then L else L ++ [v]
def rpO (R : Int × Int → Nat) (L : List VD) : List VD := L.filter fun x => decide (R x.pin = 0)
def rpL (R : Int × Int → Nat) (L : List VD) : List VD := L.filter fun x => decide (R x.pin ≠ 0)
theorem inc_same (R : Int × Int → Nat) (k : Int × Int) : inc R k k = R k + 1 := by simp [inc]
theorem inc_other {R : Int × Int → Nat} {k x : Int × Int} (h : x ≠ k) : inc R k x = R x := by simp [inc, h]
theorem dec_same (R : Int × Int → Nat) (k : Int × Int) : dec R k k = R k - 1 := by simp [dec]
theorem dec_other {R : Int × Int → Nat} {k x : Int × Int} (h : x ≠ k) : dec R k x = R x := by simp [dec, h]
theorem dec_zero {R : Int × Int → Nat} {k : Int × Int} (h : R k = 0) : dec R k = R := by
  funext x
  unfold dec
  by_cases e : x = k
  · subst e; simp [h]
  · simp [e]
theorem reL_len (L : List VD) (v : VD) : (reL L v).length = L.length + (if reE L v = 0 then 1 else 0) := by
  unfold reL reE
  cases hasP L v.pin <;> simp
theorem reL_le (L : List VD) (v : VD) : (reL L v).length ≤ L.length + 1 := by
  rw [reL_len]; split <;> omega
theorem rp_len (R : Int × Int → Nat) (L : List VD) : (rpO R L).length + (rpL R L).length = L.length := by
  unfold rpO rpL
  induction L with
  | nil => rfl
  | cons x L ih =>
    by_cases h : R x.pin = 0
    · simp [h] at ih ⊢; omega
    · simp [h] at ih ⊢; omega
theorem rpO_snoc {R : Int × Int → Nat} {L : List VD} {k : Nat} {x : VD} (h : L[k]? = some x) : rpO R (L.take (k + 1)) = if R x.pin = 0 then rpO R (L.take k) ++ [x] else rpO R (L.take k) := by
  unfold rpO
  rw [List.take_add_one, h, List.filter_append]
  by_cases e : R x.pin = 0 <;> simp [e]
theorem rpL_snoc {R : Int × Int → Nat} {L : List VD} {k : Nat} {x : VD} (h : L[k]? = some x) : rpL R (L.take (k + 1)) = if R x.pin = 0 then rpL R (L.take k) else rpL R (L.take k) ++ [x] := by
  unfold rpL
  rw [List.take_add_one, h, List.filter_append]
  by_cases e : R x.pin = 0 <;> simp [e]
theorem hasP_snoc {L : List VD} {k : Nat} {x : VD} {p : Int × Int} (h : L[k]? = some x) : hasP (L.take (k + 1)) p = (hasP (L.take k) p || decide (x.pin = p)) := by
  unfold hasP
  rw [List.take_add_one, h, List.any_append]
  simp
theorem rpO_all {R : Int × Int → Nat} {L : List VD} (h : ∀ x ∈ L, R x.pin = 0) : rpO R L = L ∧ rpL R L = [] := by
  unfold rpO rpL
  exact ⟨List.filter_eq_self.2 fun x hx => by simp [h x hx], by rw [List.filter_eq_nil_iff]; intro x hx; simp [h x hx]⟩
/-! the document's list of those that read -/
def cnt (K : List (Int × Int)) : Int × Int → Nat := fun k => K.count k
theorem cnt_nil : cnt [] = fun _ => 0 := by funext k; simp [cnt]
theorem cnt_snoc (K : List (Int × Int)) (k : Int × Int) : cnt (K ++ [k]) = inc (cnt K) k := by
  funext x
  unfold cnt inc
  rw [List.count_append]
  by_cases e : x = k
  · subst e; simp
  · have : ¬ k = x := fun q => e q.symm
    simp [e, this]
theorem cnt_erase (K : List (Int × Int)) (k : Int × Int) : cnt (K.erase k) = dec (cnt K) k := by
  funext x
  unfold cnt dec
  by_cases e : x = k
  · subst e; simp
  · rw [if_neg e, List.count_erase_of_ne e]
theorem cnt_pos {K : List (Int × Int)} {k : Int × Int} : cnt K k = 0 ↔ k ∉ K := by unfold cnt; exact List.count_eq_zero
theorem erase_at {K : List (Int × Int)} {i : Nat} {k : Int × Int} (h : K[i]? = some k) (hn : ∀ j, j < i → K[j]? ≠ some k) : K.erase k = K.take i ++ K.drop (i + 1) := by
  induction K generalizing i with
  | nil => simp at h
  | cons x K ih =>
    cases i with
    | zero =>
      simp at h
      subst h
      simp
    | succ i =>
      have hx : x ≠ k := fun e => hn 0 (by omega) (by simp [e])
      rw [List.erase_cons_tail (by simpa using hx), ih (i := i) (by simpa using h) (fun j hj => by have := hn (j + 1) (by omega); simpa using this)]
      simp
theorem cnt_len (K : List (Int × Int)) (k : Int × Int) : cnt K k ≤ K.length := List.count_le_length
end Go.Proofs.Ytghcekhlohgkaaa
