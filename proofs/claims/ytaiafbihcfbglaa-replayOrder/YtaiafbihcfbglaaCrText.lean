/- Sealed texts, as strings: which text is a sealed one, and that turned bits are seen. No walk stands here. -/
import Derived.Test.YtaiafbihcfbglaaCrRef
namespace Go.Proofs.Ytaiafbihcfbglaa
theorem sealS_size (s : ByteArray) : (sealS s).size = s.size + 4 := by unfold sealS; rw [ByteArray.size_append, mkS_size]
theorem sealS_low {s : ByteArray} {p : Nat} (h : p < s.size) : bt (sealS s) p = bt s p := by unfold sealS; rw [bt_append, if_pos h]
theorem sealS_high {s : ByteArray} {k : Nat} (h : k < 4) : bt (sealS s) (s.size + k) = Cr.by4 (Cr.sum (bt s) s.size) k := by
  unfold sealS
  rw [bt_append, if_neg (by omega), Nat.add_sub_cancel_left, mkS_bt h (Cr.by4_lt _ _)]
theorem head_seal (s : ByteArray) : headS (sealS s) = s := by
  have hz : (headS (sealS s)).size = s.size := by rw [headS_size, sealS_size]; omega
  apply ext_bt hz
  intro p hp
  rw [hz] at hp
  unfold headS
  rw [bt_extract _ _ _ _ (by rw [sealS_size]; omega) (by omega), Nat.zero_add, sealS_low hp]
theorem sum_congr {f g : Nat → Nat} {n : Nat} (h : ∀ p, p < n → f p = g p) : Cr.sum f n = Cr.sum g n := by unfold Cr.sum; rw [Cr.cr_congr h]
/-- behind a sealed text the state is one and the same -/
theorem cr_seal (s : ByteArray) : Cr.cr (bt (sealS s)) (s.size + 4) = Cr.stN 32 Cr.F :=
  Cr.cr_sealed (bt_lt _) fun k hk => by rw [sealS_high hk, sum_congr (f := bt (sealS s)) (g := bt s) fun p hp => sealS_low hp]
theorem sum_seal (s : ByteArray) : Cr.sum (bt (sealS s)) (sealS s).size = Cr.stN 32 Cr.F ^^^ Cr.F := by rw [sealS_size]; unfold Cr.sum; rw [cr_seal]
/-- a text is sealed just if its state is that one -/
theorem sealed_iff {t : ByteArray} (h4 : 4 ≤ t.size) : sealS (headS t) = t ↔ Cr.cr (bt t) t.size = Cr.stN 32 Cr.F := by
  constructor
  · intro h
    have := cr_seal (headS t)
    rw [h, headS_size, show t.size - 4 + 4 = t.size by omega] at this
    exact this
  · intro h
    have hlow : ∀ p, p < t.size - 4 → bt (headS t) p = bt t p := fun p hp => by
      unfold headS
      rw [bt_extract _ _ _ _ (by omega) (by omega), Nat.zero_add]
    obtain ⟨v, hv, hb⟩ : ∃ v, v < 2 ^ 32 ∧ ∀ k, k < 4 → bt t (t.size - 4 + k) = Cr.by4 v k := by
      have l0 := bt_lt t (t.size - 4)
      have l1 := bt_lt t (t.size - 4 + 1)
      have l2 := bt_lt t (t.size - 4 + 2)
      have l3 := bt_lt t (t.size - 4 + 3)
      refine ⟨bt t (t.size - 4) + 256 * bt t (t.size - 4 + 1) + 65536 * bt t (t.size - 4 + 2) + 16777216 * bt t (t.size - 4 + 3), by omega, fun k hk => ?_⟩
      rcases (show k = 0 ∨ k = 1 ∨ k = 2 ∨ k = 3 by omega) with rfl | rfl | rfl | rfl <;> simp only [Cr.by4, Nat.pow_zero, Nat.div_one, Nat.add_zero] <;> omega
    have he : Cr.cr (bt t) (t.size - 4 + 4) = Cr.stN 32 Cr.F := by rw [show t.size - 4 + 4 = t.size by omega]; exact h
    have hsum := Cr.sealed_of (bt_lt t) hv hb he
    have hz : (sealS (headS t)).size = t.size := by rw [sealS_size, headS_size]; omega
    apply ext_bt hz
    intro p hp
    rw [hz] at hp
    by_cases hlt : p < t.size - 4
    · rw [sealS_low (by rw [headS_size]; exact hlt), hlow p hlt]
    · obtain ⟨k, hk, rfl⟩ : ∃ k, k < 4 ∧ p = t.size - 4 + k := ⟨p - (t.size - 4), by omega, by omega⟩
      have := sealS_high (s := headS t) hk
      rw [headS_size] at this
      rw [this, hb k hk, hsum, sum_congr hlow]
/-- a sealed text of which bits are turned, within four bytes, is none -/
theorem turned_not {s t : ByteArray} {i v : Nat} (hz : t.size = s.size + 4) (hv : v < 2 ^ 32) (h0 : v ≠ 0) (hi : i + 4 ≤ t.size) (hin : ∀ k, k < 4 → bt t (i + k) = bt (sealS s) (i + k) ^^^ Cr.by4 v k) (hout : ∀ p, p < i ∨ i + 4 ≤ p → bt t p = bt (sealS s) p) : sealS (headS t) ≠ t := by
  intro e
  rw [sealed_iff (by omega)] at e
  have := Cr.cr_turned (n := t.size) hv h0 hi hin hout
  rw [e, hz] at this
  exact this (cr_seal s).symm
/-- unlike ends have unlike sums -/
theorem ends_sum {s : ByteArray} {a b : Nat} (ha : a < 2 ^ 32) (hb : b < 2 ^ 32) : Cr.sum (bt (s ++ mkS 4 (Cr.by4 a))) (s.size + 4) = Cr.sum (bt (s ++ mkS 4 (Cr.by4 b))) (s.size + 4) ↔ a = b := by
  constructor
  · intro h
    refine Cr.sum_ends (n := s.size) (bt_lt _) (fun p hp => ?_) ha hb (fun k hk => ?_) (fun k hk => ?_) h
    · rw [bt_append, bt_append, if_pos hp, if_pos hp]
    · rw [bt_append, if_neg (by omega), Nat.add_sub_cancel_left, mkS_bt hk (Cr.by4_lt _ _)]
    · rw [bt_append, if_neg (by omega), Nat.add_sub_cancel_left, mkS_bt hk (Cr.by4_lt _ _)]
  · intro h; rw [h]
end Go.Proofs.Ytaiafbihcfbglaa
