/- What check.shifter, its closure, newTable and Of answer. -/
import Derived.Test.YtaiafbihcfbglaaBlk
import Derived.Test.YtaiafbihcfbglaaCrText
namespace Go.Proofs.Ytaiafbihcfbglaa
open Go.RowKit
/-- the bit of round m -/
def bitN (m : Nat) : Nat := if m = 0 then 128 else if m = 1 then 64 else if m = 2 then 32 else if m = 3 then 16 else if m = 4 then 8 else if m = 5 then 4 else if m = 6 then 2 else if m = 7 then 1 else 0
theorem lt8 {m : Nat} (h : m < 8) : m = 0 ∨ m = 1 ∨ m = 2 ∨ m = 3 ∨ m = 4 ∨ m = 5 ∨ m = 6 ∨ m = 7 := by omega
theorem bitN_pos {m : Nat} (h : m < 8) : 0 < bitN m := by rcases lt8 h with rfl | rfl | rfl | rfl | rfl | rfl | rfl | rfl <;> decide
theorem bitN_le (m : Nat) : bitN m ≤ 128 := by unfold bitN; (repeat' split) <;> omega
theorem bitN_half {m : Nat} (h : m < 8) : bitN m / 2 = bitN (m + 1) := by rcases lt8 h with rfl | rfl | rfl | rfl | rfl | rfl | rfl | rfl <;> decide
theorem bitN_step {m I : Nat} (hm : m < 8) (hI : I % (2 * bitN m) = 0) (h : I < 256) : I + 2 * bitN m ≤ 256 ∧ (I + 2 * bitN m) % (2 * bitN m) = 0 := by
  rcases lt8 hm with rfl | rfl | rfl | rfl | rfl | rfl | rfl | rfl <;> simp only [bitN] at * <;> simp at * <;> omega
/-- what is left of the bit of round m -/
theorem left_bit {m : Nat} (h : m < 8) : Cr.stN (m + 1) 1 = Cr.stN 8 (bitN m) := by rcases lt8 h with rfl | rfl | rfl | rfl | rfl | rfl | rfl | rfl <;> decide +kernel
theorem xor_add {m I : Nat} (hm : m < 8) (hI : I % (2 * bitN m) = 0) : I ^^^ bitN m = I + bitN m := by
  have e : ∀ n, 2 * bitN m = 2 ^ n → I ^^^ bitN m = I + bitN m := by
    intro n hn
    rw [hn] at hI
    have hp := bitN_pos hm
    have h := Cr.low_high (n := n) (v := I + bitN m)
    have h1 : (I + bitN m) % 2 ^ n = bitN m := by rw [Nat.add_mod, hI, Nat.zero_add, Nat.mod_mod, Nat.mod_eq_of_lt (by omega)]
    have h2 : 2 ^ n * ((I + bitN m) / 2 ^ n) = I := by have := Nat.div_add_mod (I + bitN m) (2 ^ n); omega
    rw [h1, h2] at h
    rw [h, Nat.xor_comm]
  rcases lt8 hm with rfl | rfl | rfl | rfl | rfl | rfl | rfl | rfl
  · exact e 8 rfl
  · exact e 7 rfl
  · exact e 6 rfl
  · exact e 5 rfl
  · exact e 4 rfl
  · exact e 3 rfl
  · exact e 2 rfl
  · exact e 1 rfl
theorem entry {m I : Nat} (hm : m < 8) (hI : I % (2 * bitN m) = 0) : Cr.stN 8 I ^^^ Cr.stN (m + 1) 1 = Cr.stN 8 (I + bitN m) := by
  rw [left_bit hm, ← Cr.stN_xor, xor_add hm hI]
/-- the table in round m, where the inner loop stands at I -/
def tbN (m I q : Nat) : Nat := if q % (2 * bitN m) = 0 then Cr.stN 8 q else if q % bitN m = 0 ∧ q < I then Cr.stN 8 q else 0
theorem tbN_at {m I : Nat} (hI : I % (2 * bitN m) = 0) (J : Nat) : tbN m J I = Cr.stN 8 I := by unfold tbN; rw [if_pos hI]
theorem tbN_step {m I q : Nat} (hm : m < 8) (hI : I % (2 * bitN m) = 0) : (if q = I + bitN m then Cr.stN 8 (I + bitN m) else tbN m I q) = tbN m (I + 2 * bitN m) q := by
  unfold tbN
  by_cases e : q = I + bitN m
  · subst e
    rw [if_pos rfl]
    split
    · rfl
    · rw [if_pos]
      have := bitN_pos hm
      refine ⟨?_, by omega⟩
      rcases lt8 hm with rfl | rfl | rfl | rfl | rfl | rfl | rfl | rfl <;> simp only [bitN] at * <;> simp at * <;> omega
  · rw [if_neg e]
    by_cases c : q % (2 * bitN m) = 0
    · rw [if_pos c, if_pos c]
    · rw [if_neg c, if_neg c]
      have : (q % bitN m = 0 ∧ q < I) ↔ (q % bitN m = 0 ∧ q < I + 2 * bitN m) := by
        rcases lt8 hm with rfl | rfl | rfl | rfl | rfl | rfl | rfl | rfl <;> simp only [bitN] at * <;> simp at * <;> omega
      by_cases d : q % bitN m = 0 ∧ q < I
      · rw [if_pos d, if_pos (this.1 d)]
      · rw [if_neg d, if_neg fun h => d (this.2 h)]
/-- the table ahead of round m -/
def tbO (m q : Nat) : Nat := if m = 8 then Cr.stN 8 q else tbN m 0 q
theorem tbO_in {m : Nat} (hm : m < 8) (q : Nat) : tbO m q = tbN m 0 q := by unfold tbO; rw [if_neg (by omega)]
theorem tbN_next {m q : Nat} (hm : m < 8) (hq : q < 256) : tbN m 256 q = tbO (m + 1) q := by
  unfold tbO tbN
  rcases lt8 hm with rfl | rfl | rfl | rfl | rfl | rfl | rfl | rfl <;> simp only [bitN] at * <;> simp at * <;> first | (intro h1 h2; have := h2 (by omega); omega) | (split <;> first | rfl | omega | (split <;> first | rfl | omega | (split <;> first | rfl | omega)))
theorem tbN_first {q : Nat} (hq : q < 256) : tbN 0 0 q = 0 := by
  unfold tbN
  split
  · rename_i h
    have : q = 0 := by simp [bitN] at h; omega
    subst this; exact Cr.stN_zero 8
  · rw [if_neg (by omega)]
theorem tbN_lt (m I : Nat) {q : Nat} (hq : q < 256) : tbN m I q < 2 ^ 32 := by
  have := Cr.stN_lt 8 (x := q) (by omega)
  unfold tbN; split
  · exact this
  · split
    · exact this
    · decide
end Go.Proofs.Ytaiafbihcfbglaa
