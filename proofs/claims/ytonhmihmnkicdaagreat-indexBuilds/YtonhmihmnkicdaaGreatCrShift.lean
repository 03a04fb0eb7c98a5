/- Sealed texts, as strings: which text is a sealed one, and that turned bits are seen. No walk stands here. What check.shifter, its closure, newTable and Of answer. What check.shifter, its closure and newTable answer. -/
import Derived.Test.YtonhmihmnkicdaaGreatCrRef
import Derived.Test.YtonhmihmnkicdaaGreatBase
namespace Go.Proofs.YtonhmihmnkicdaaGreat
theorem sealS_size (s : ByteArray) : (sealS s).size = s.size + 4 := by unfold sealS; rw [ByteArray.size_append, mkS_size]
theorem sealS_low {s : ByteArray} {p : Nat} (h : p < s.size) : bt (sealS s) p = bt s p := by unfold sealS; rw [bt_append, if_pos h]
theorem sealS_high {s : ByteArray} {k : Nat} (h : k < 4) : bt (sealS s) (s.size + k) = Cr.by4 (Cr.sum (bt s) s.size) k := by
  unfold sealS
  rw [bt_append, if_neg (by omega), Nat.add_sub_cancel_left, mkS_bt h (Cr.by4_lt _ _)]
theorem head_seal (s : ByteArray) : headS (sealS s) = s := by
  have hz : (headS (sealS s)).size = s.size := by rw [headS_size, sealS_size]; omega
  apply ext_bt hz
  intro p hp
  rw [hz] at hp
  unfold headS
  rw [bt_extract _ _ _ _ (by rw [sealS_size]; omega) (by omega), Nat.zero_add, sealS_low hp]
theorem sum_congr {f g : Nat → Nat} {n : Nat} (h : ∀ p, p < n → f p = g p) : Cr.sum f n = Cr.sum g n := by unfold Cr.sum; rw [Cr.cr_congr h]
/-- behind a sealed text the state is one and the same -/
theorem cr_seal (s : ByteArray) : Cr.cr (bt (sealS s)) (s.size + 4) = Cr.stN 32 Cr.F :=
  Cr.cr_sealed (bt_lt _) fun k hk => by rw [sealS_high hk, sum_congr (f := bt (sealS s)) (g := bt s) fun p hp => sealS_low hp]
theorem sum_seal (s : ByteArray) : Cr.sum (bt (sealS s)) (sealS s).size = Cr.stN 32 Cr.F ^^^ Cr.F := by rw [sealS_size]; unfold Cr.sum; rw [cr_seal]
/-- a text is sealed just if its state is that one -/
theorem sealed_iff {t : ByteArray} (h4 : 4 ≤ t.size) : sealS (headS t) = t ↔ Cr.cr (bt t) t.size = Cr.stN 32 Cr.F := by
  constructor
  · intro h
    have := cr_seal (headS t)
    rw [h, headS_size, show t.size - 4 + 4 = t.size by omega] at this
    exact this
  · intro h
    have hlow : ∀ p, p < t.size - 4 → bt (headS t) p = bt t p := fun p hp => by
      unfold headS
      rw [bt_extract _ _ _ _ (by omega) (by omega), Nat.zero_add]
    obtain ⟨v, hv, hb⟩ : ∃ v, v < 2 ^ 32 ∧ ∀ k, k < 4 → bt t (t.size - 4 + k) = Cr.by4 v k := by
      have l0 := bt_lt t (t.size - 4)
      have l1 := bt_lt t (t.size - 4 + 1)
      have l2 := bt_lt t (t.size - 4 + 2)
      have l3 := bt_lt t (t.size - 4 + 3)
      refine ⟨bt t (t.size - 4) + 256 * bt t (t.size - 4 + 1) + 65536 * bt t (t.size - 4 + 2) + 16777216 * bt t (t.size - 4 + 3), by omega, fun k hk => ?_⟩
      rcases (show k = 0 ∨ k = 1 ∨ k = 2 ∨ k = 3 by omega) with rfl | rfl | rfl | rfl <;> simp only [Cr.by4, Nat.pow_zero, Nat.div_one, Nat.add_zero] <;> omega
    have he : Cr.cr (bt t) (t.size - 4 + 4) = Cr.stN 32 Cr.F := by rw [show t.size - 4 + 4 = t.size by omega]; exact h
    have hsum := Cr.sealed_of (bt_lt t) hv hb he
    have hz : (sealS (headS t)).size = t.size := by rw [sealS_size, headS_size]; omega
    apply ext_bt hz
    intro p hp
    rw [hz] at hp
    by_cases hlt : p < t.size - 4
    · rw [sealS_low (by rw [headS_size]; exact hlt), hlow p hlt]
    · obtain ⟨k, hk, rfl⟩ : ∃ k, k < 4 ∧ p = t.size - 4 + k := ⟨p - (t.size - 4), by omega, by omega⟩
      have := sealS_high (s := headS t) hk
      rw [headS_size] at this
      rw [this, hb k hk, hsum, sum_congr hlow]
/-- a sealed text of which bits are turned, within four bytes, is none -/
theorem turned_not {s t : ByteArray} {i v : Nat} (hz : t.size = s.size + 4) (hv : v < 2 ^ 32) (h0 : v ≠ 0) (hi : i + 4 ≤ t.size) (hin : ∀ k, k < 4 → bt t (i + k) = bt (sealS s) (i + k) ^^^ Cr.by4 v k) (hout : ∀ p, p < i ∨ i + 4 ≤ p → bt t p = bt (sealS s) p) : sealS (headS t) ≠ t := by
  intro e
  rw [sealed_iff (by omega)] at e
  have := Cr.cr_turned (n := t.size) hv h0 hi hin hout
  rw [e, hz] at this
  exact this (cr_seal s).symm
/-- unlike ends have unlike sums -/
theorem ends_sum {s : ByteArray} {a b : Nat} (ha : a < 2 ^ 32) (hb : b < 2 ^ 32) : Cr.sum (bt (s ++ mkS 4 (Cr.by4 a))) (s.size + 4) = Cr.sum (bt (s ++ mkS 4 (Cr.by4 b))) (s.size + 4) ↔ a = b := by
  constructor
  · intro h
    refine Cr.sum_ends (n := s.size) (bt_lt _) (fun p hp => ?_) ha hb (fun k hk => ?_) (fun k hk => ?_) h
    · rw [bt_append, bt_append, if_pos hp, if_pos hp]
    · rw [bt_append, if_neg (by omega), Nat.add_sub_cancel_left, mkS_bt hk (Cr.by4_lt _ _)]
    · rw [bt_append, if_neg (by omega), Nat.add_sub_cancel_left, mkS_bt hk (Cr.by4_lt _ _)]
  · intro h; rw [h]
end Go.Proofs.YtonhmihmnkicdaaGreat
namespace Go.Proofs.YtonhmihmnkicdaaGreat
open Go.RowKit
/-- the bit of round m -/
def bitN (m : Nat) : Nat := if m = 0 then 128 else if m = 1 then 64 else if m = 2 then 32 else if m = 3 then 16 else if m = 4 then 8 else if m = 5 then 4 else if m = 6 then 2 else if m = 7 then 1 else 0
theorem lt8 {m : Nat} (h : m < 8) : m = 0 ∨ m = 1 ∨ m = 2 ∨ m = 3 ∨ m = 4 ∨ m = 5 ∨ m = 6 ∨ m = 7 := by omega
theorem bitN_pos {m : Nat} (h : m < 8) : 0 < bitN m := by rcases lt8 h with rfl | rfl | rfl | rfl | rfl | rfl | rfl | rfl <;> decide
theorem bitN_le (m : Nat) : bitN m ≤ 128 := by unfold bitN; (repeat' split) <;> omega
theorem bitN_half {m : Nat} (h : m < 8) : bitN m / 2 = bitN (m + 1) := by rcases lt8 h with rfl | rfl | rfl | rfl | rfl | rfl | rfl | rfl <;> decide
theorem bitN_step {m I : Nat} (hm : m < 8) (hI : I % (2 * bitN m) = 0) (h : I < 256) : I + 2 * bitN m ≤ 256 ∧ (I + 2 * bitN m) % (2 * bitN m) = 0 := by
  rcases lt8 hm with rfl | rfl | rfl | rfl | rfl | rfl | rfl | rfl <;> simp only [bitN] at * <;> simp at * <;> omega
/-- what is left of the bit of round m -/
theorem left_bit {m : Nat} (h : m < 8) : Cr.stN (m + 1) 1 = Cr.stN 8 (bitN m) := by rcases lt8 h with rfl | rfl | rfl | rfl | rfl | rfl | rfl | rfl <;> decide +kernel
theorem xor_add {m I : Nat} (hm : m < 8) (hI : I % (2 * bitN m) = 0) : I ^^^ bitN m = I + bitN m := by
  have e : ∀ n, 2 * bitN m = 2 ^ n → I ^^^ bitN m = I + bitN m := by
    intro n hn
    rw [hn] at hI
    have hp := bitN_pos hm
    have h := Cr.low_high (n := n) (v := I + bitN m)
    have h1 : (I + bitN m) % 2 ^ n = bitN m := by rw [Nat.add_mod, hI, Nat.zero_add, Nat.mod_mod, Nat.mod_eq_of_lt (by omega)]
    have h2 : 2 ^ n * ((I + bitN m) / 2 ^ n) = I := by have := Nat.div_add_mod (I + bitN m) (2 ^ n); omega
    rw [h1, h2] at h
    rw [h, Nat.xor_comm]
  rcases lt8 hm with rfl | rfl | rfl | rfl | rfl | rfl | rfl | rfl
  · exact e 8 rfl
  · exact e 7 rfl
  · exact e 6 rfl
  · exact e 5 rfl
  · exact e 4 rfl
  · exact e 3 rfl
  · exact e 2 rfl
  · exact e 1 rfl
theorem entry {m I : Nat} (hm : m < 8) (hI : I % (2 * bitN m) = 0) : Cr.stN 8 I ^^^ Cr.stN (m + 1) 1 = Cr.stN 8 (I + bitN m) := by
  rw [left_bit hm, ← Cr.stN_xor, xor_add hm hI]
/-- the table in round m, where the inner loop stands at I -/
def tbN (m I q : Nat) : Nat := if q % (2 * bitN m) = 0 then Cr.stN 8 q else if q % bitN m = 0 ∧ q < I then Cr.stN 8 q else 0
theorem tbN_at {m I : Nat} (hI : I % (2 * bitN m) = 0) (J : Nat) : tbN m J I = Cr.stN 8 I := by unfold tbN; rw [if_pos hI]
theorem tbN_step {m I q : Nat} (hm : m < 8) (hI : I % (2 * bitN m) = 0) : (if q = I + bitN m then Cr.stN 8 (I + bitN m) else tbN m I q) = tbN m (I + 2 * bitN m) q := by
  unfold tbN
  by_cases e : q = I + bitN m
  · subst e
    rw [if_pos rfl]
    split
    · rfl
    · rw [if_pos]
      have := bitN_pos hm
      refine ⟨?_, by omega⟩
      rcases lt8 hm with rfl | rfl | rfl | rfl | rfl | rfl | rfl | rfl <;> simp only [bitN] at * <;> simp at * <;> omega
  · rw [if_neg e]
    by_cases c : q % (2 * bitN m) = 0
    · rw [if_pos c, if_pos c]
    · rw [if_neg c, if_neg c]
      have : (q % bitN m = 0 ∧ q < I) ↔ (q % bitN m = 0 ∧ q < I + 2 * bitN m) := by
        rcases lt8 hm with rfl | rfl | rfl | rfl | rfl | rfl | rfl | rfl <;> simp only [bitN] at * <;> simp at * <;> omega
      by_cases d : q % bitN m = 0 ∧ q < I
      · rw [if_pos d, if_pos (this.1 d)]
      · rw [if_neg d, if_neg fun h => d (this.2 h)]
/-- the table ahead of round m -/
def tbO (m q : Nat) : Nat := if m = 8 then Cr.stN 8 q else tbN m 0 q
theorem tbO_in {m : Nat} (hm : m < 8) (q : Nat) : tbO m q = tbN m 0 q := by unfold tbO; rw [if_neg (by omega)]
theorem tbN_next {m q : Nat} (hm : m < 8) (hq : q < 256) : tbN m 256 q = tbO (m + 1) q := by
  unfold tbO tbN
  rcases lt8 hm with rfl | rfl | rfl | rfl | rfl | rfl | rfl | rfl <;> simp only [bitN] at * <;> simp at * <;> first | (intro h1 h2; have := h2 (by omega); omega) | (split <;> first | rfl | omega | (split <;> first | rfl | omega | (split <;> first | rfl | omega)))
theorem tbN_first {q : Nat} (hq : q < 256) : tbN 0 0 q = 0 := by
  unfold tbN
  split
  · rename_i h
    have : q = 0 := by simp [bitN] at h; omega
    subst this; exact Cr.stN_zero 8
  · rw [if_neg (by omega)]
theorem tbN_lt (m I : Nat) {q : Nat} (hq : q < 256) : tbN m I q < 2 ^ 32 := by
  have := Cr.stN_lt 8 (x := q) (by omega)
  unfold tbN; split
  · exact this
  · split
    · exact this
    · decide
end Go.Proofs.YtonhmihmnkicdaaGreat
namespace Go.Proofs.YtonhmihmnkicdaaGreat
open Go.RowKit
def BoxAt (w : World) (b x : Nat) : Prop := FnAt w b 137 1 (fun _ => .int .u32 (x : Nat))
theorem st_one {x : Nat} (h : x < 2 ^ 32) (h1 : x % 2 = 1) : bits .xor .u32 ((x : Int) / 2) 2197175160 = ((Cr.st x : Nat) : Int) := by
  unfold Cr.st
  rw [if_pos h1, show (x : Int) / 2 = ((x / 2 : Nat) : Int) by omega, show (2197175160 : Int) = ((2197175160 : Nat) : Int) from rfl, u32_xor_nat _ _ (by omega) (by omega)]
  rfl
theorem st_nil {x : Nat} (h1 : x % 2 = 0) : (x : Int) / 2 = ((Cr.st x : Nat) : Int) := by
  unfold Cr.st
  rw [if_neg (by omega), Nat.xor_zero]
  omega
theorem bit_out {x : Nat} (h : x < 2 ^ 32) : bits .and .u32 (x : Int) 1 = ((x % 2 : Nat) : Int) := by
  rw [show (1 : Int) = ((1 : Nat) : Int) from rfl, u32_and_nat _ _ (by omega) (by omega), nat_mask1]
/-- a table of 256 words -/
def t256 (f : Nat → Nat) : Array Value := fnC 256 fun q => .int .u32 (f q : Nat)
def tbZero : Array Value := Array.replicate 256 (.int .u32 0)
theorem tbZero_eq : tbZero = t256 (fun _ => 0) := fnC_rep _ _
theorem t256_one (f : Nat → Nat) : (t256 f).all (·.oneCell') = true := fnC_one fun _ _ => rfl
theorem stN_last (m x : Nat) : Cr.stN (m + 1) x = Cr.st (Cr.stN m x) := Cr.stN_add m 1 x
end Go.Proofs.YtonhmihmnkicdaaGreat
