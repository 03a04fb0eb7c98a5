/- Plain mathematics of the code: factors, sums of products, matrices. No program is named here. -/
import Derived.Test.YteiddjjakemklabGfMath
namespace Go.Proofs.Yteiddjjakemklab.Cd
open Gf
def fac (i j : Nat) : Nat := if i < 6 then (if i = j then 1 else 0) else over 1 (i ^^^ j)
theorem fac_lt (i j : Nat) : fac i j < 256 := by
  unfold fac; split
  · split <;> omega
  · exact over_lt _ _
theorem xor_b : allN 9 (fun i => allN 6 (fun j => (decide (i ^^^ j < 256)) && (decide (i < 6) || decide (0 < i ^^^ j)))) = true := by decide +kernel
theorem xor_small {i j : Nat} (hi : i < 9) (hj : j < 6) : i ^^^ j < 256 := by have := allN_spec (allN_spec xor_b i hi) j hj; simp at this; exact this.1
theorem xor_pos {i j : Nat} (hi : i < 9) (hj : j < 6) (h : 6 ≤ i) : 0 < i ^^^ j := by have := allN_spec (allN_spec xor_b i hi) j hj; simp at this; omega
/-- the sum (xor) of f 0 .. f (n-1) -/
def xs : Nat → (Nat → Nat) → Nat
  | 0, _ => 0
  | n + 1, f => xs n f ^^^ f n
theorem xs_lt {n : Nat} {f : Nat → Nat} (h : ∀ j, j < n → f j < 256) : xs n f < 256 := by
  induction n with
  | zero => show 0 < 256; decide
  | succ n ih => exact xor_lt (ih fun j hj => h j (by omega)) (h n (by omega))
theorem xs_congr {n : Nat} {f g : Nat → Nat} (h : ∀ j, j < n → f j = g j) : xs n f = xs n g := by
  induction n with
  | zero => rfl
  | succ n ih => rw [xs, xs, ih fun j hj => h j (by omega), h n (by omega)]
theorem xs_xor (n : Nat) (f g : Nat → Nat) : xs n (fun j => f j ^^^ g j) = xs n f ^^^ xs n g := by
  induction n with
  | zero => simp [xs]
  | succ n ih => rw [xs, xs, xs, ih, xor4]
theorem xs_zero (n : Nat) : xs n (fun _ => 0) = 0 := by
  induction n with
  | zero => rfl
  | succ n ih => rw [xs, ih]; rfl
theorem xs_swap (n m : Nat) (f : Nat → Nat → Nat) : xs n (fun i => xs m (f i)) = xs m (fun j => xs n (fun i => f i j)) := by
  induction n with
  | zero => simp only [xs]; exact (xs_zero m).symm
  | succ n ih => simp only [xs]; rw [ih, ← xs_xor]
theorem mul_xs {a n : Nat} {f : Nat → Nat} (ha : a < 256) (h : ∀ j, j < n → f j < 256) : mul a (xs n f) = xs n (fun j => mul a (f j)) := by
  induction n with
  | zero => exact mul_zero a
  | succ n ih =>
    rw [xs, xs, mul_xor ha (xs_lt fun j hj => h j (by omega)) (h n (by omega)), ih fun j hj => h j (by omega)]
theorem xs_mul {a n : Nat} {f : Nat → Nat} (ha : a < 256) (h : ∀ j, j < n → f j < 256) : mul (xs n f) a = xs n (fun j => mul (f j) a) := by
  rw [mul_comm, mul_xs ha h]; exact xs_congr fun j _ => mul_comm _ _
/-- one of the sum's members alone -/
theorem xs_one {n k : Nat} (hk : k < n) (f : Nat → Nat) (h : ∀ j, j < n → j ≠ k → f j = 0) : xs n f = f k := by
  induction n with
  | zero => omega
  | succ n ih =>
    rw [xs]
    by_cases e : k = n
    · subst e
      rw [xs_congr (g := fun _ => 0) (fun j hj => h j (by omega) (by omega)), xs_zero]; simp
    · rw [ih (by omega) (fun j hj hne => h j (by omega) hne), h n (by omega) (by omega)]; simp
abbrev Mat := Nat → Nat → Nat
def dot (r v : Nat → Nat) : Nat := xs 6 (fun j => mul (r j) (v j))
theorem dot_lt (r v : Nat → Nat) : dot r v < 256 := xs_lt fun _ _ => mul_lt _ _
theorem dot_congr {r r' v v' : Nat → Nat} (h : ∀ j, j < 6 → r j = r' j) (h' : ∀ j, j < 6 → v j = v' j) : dot r v = dot r' v' :=
  xs_congr fun j hj => by rw [h j hj, h' j hj]
def unitM : Mat := fun i j => if i = j then 1 else 0
def mm (A B : Mat) : Mat := fun i k => xs 6 (fun j => mul (A i j) (B j k))
/-- A (B v) is (A B) v -/
theorem dot_dot {A B : Mat} {v : Nat → Nat} {i : Nat} (hA : ∀ j, A i j < 256) (hv : ∀ k, v k < 256) :
    dot (A i) (fun j => dot (B j) v) = dot (mm A B i) v := by
  unfold dot mm
  rw [xs_congr (g := fun j => xs 6 (fun k => mul (mul (A i j) (B j k)) (v k))) (fun j _ => by
    rw [mul_xs (hA j) fun k _ => mul_lt _ _]; exact xs_congr fun k _ => (mul_assoc _ _ _).symm)]
  rw [xs_swap]
  exact xs_congr fun k _ => (xs_mul (hv k) fun j _ => mul_lt _ _).symm
theorem dot_unit {v : Nat → Nat} {i : Nat} (hi : i < 6) (hv : v i < 256) : dot (unitM i) v = v i := by
  unfold dot unitM
  rw [xs_one hi]
  · simp [one_mul hv]
  · intro j _ hne; rw [if_neg (fun e => hne e.symm)]; exact zero_mul _
-- what invert does, column by column
def swapR (A : Mat) (c r : Nat) : Mat := fun i => if i = c then A r else if i = r then A c else A i
def scaleR (A : Mat) (c x : Nat) : Mat := fun i => if i = c then (fun j => mul (A c j) x) else A i
/-- rows below k other than c cleared, by the factors that stand in column c of M -/
def clearTo (M A : Mat) (c k : Nat) : Mat := fun i => if i < k ∧ i ≠ c then (fun j => A i j ^^^ mul (A c j) (M i c)) else A i
end Go.Proofs.Yteiddjjakemklab.Cd
