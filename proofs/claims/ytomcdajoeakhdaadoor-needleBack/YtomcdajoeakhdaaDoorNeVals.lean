/- The answers of reading, case by case. No walk stands here. -/
import Derived.Test.YtomcdajoeakhdaaDoorNeMath
namespace Go.Proofs.YtomcdajoeakhdaaDoor
theorem nr_bad {s : ByteArray} {E : Int} (e : nrE s = E) (h : E ≠ 0) : nrE s = E ∧ nrN s = Nd.zero ∧ nrR s = ByteArray.empty := by
  have h0 : ¬ nrE s = 0 := by rw [e]; exact h
  exact ⟨e, by unfold nrN; rw [if_neg h0], by unfold nrR; rw [if_neg h0]⟩
theorem nr_A {s : ByteArray} (h : tE s ≠ 0) : nrE s = ((tE s : Nat) : Int) ∧ nrN s = Nd.zero ∧ nrR s = ByteArray.empty := by
  have hz : twoE s = tE s := by unfold twoE; rw [if_pos h]
  exact nr_bad (by unfold nrE; rw [hz, if_pos h]) (by omega)
theorem nr_B {s S : ByteArray} (hS : tR s = S) (h : tE s = 0) (h2 : tE S ≠ 0) : nrE s = ((tE S : Nat) : Int) ∧ nrN s = Nd.zero ∧ nrR s = ByteArray.empty := by
  have hz : twoE s = tE S := by unfold twoE; rw [h, hS]; rfl
  exact nr_bad (by unfold nrE; rw [hz, if_pos h2]) (by omega)
theorem two_C {s S : ByteArray} (hS : tR s = S) (h : tE s = 0) (h2 : tE S = 0) : twoE s = 0 := by unfold twoE; rw [h, hS, h2]; rfl
theorem nr_C1 {s : ByteArray} (h : twoE s = 0) (h3 : (rdB s).size < 32) : nrE s = 3 ∧ nrN s = Nd.zero ∧ nrR s = ByteArray.empty :=
  nr_bad (by unfold nrE; rw [h, if_neg (by decide), if_pos h3]) (by decide)
theorem nr_C2 {s : ByteArray} (h : twoE s = 0) (h3 : 32 ≤ (rdB s).size) (h4 : (rdB s).extract 0 32 ≠ dg (rdN s).v) : nrE s = 5 ∧ nrN s = Nd.zero ∧ nrR s = ByteArray.empty :=
  nr_bad (by unfold nrE; rw [h, if_neg (by decide), if_neg (by omega), if_neg h4]) (by decide)
theorem nr_C3 {s : ByteArray} (h : twoE s = 0) (h3 : 32 ≤ (rdB s).size) (h4 : (rdB s).extract 0 32 = dg (rdN s).v) (h5 : ckE (rdN s) ≠ 0) : nrE s = ckE (rdN s) ∧ nrN s = Nd.zero ∧ nrR s = ByteArray.empty :=
  nr_bad (nrE_of h h3 h4) h5
theorem nr_C4 {s : ByteArray} (h : twoE s = 0) (h3 : 32 ≤ (rdB s).size) (h4 : (rdB s).extract 0 32 = dg (rdN s).v) (h5 : ckE (rdN s) = 0) : nrE s = 0 ∧ nrN s = rdN s ∧ nrR s = (rdB s).extract 32 (rdB s).size := by
  have e : nrE s = 0 := by rw [nrE_of h h3 h4, h5]
  exact ⟨e, by unfold nrN; rw [if_pos e], by unfold nrR; rw [if_pos e]⟩
end Go.Proofs.YtomcdajoeakhdaaDoor
