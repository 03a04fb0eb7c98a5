/- Bytes of strings that are joined or cut. No walk stands here. -/
import Derived.Test.YtlpibpkbgmcclaaDoorBase
namespace Go.Proofs.YtlpibpkbgmcclaaDoor
open Go.RowKit in
theorem drew_below (w : World) : Below w.heap.size w w.drew := ⟨rfl, rfl, rfl, Nat.le_refl _, fun _ _ => rfl⟩
theorem bt_out {s : ByteArray} {p : Nat} (h : s.size ≤ p) : bt s p = 0 := by unfold bt; rw [dif_neg (by omega)]
theorem bt_append (s t : ByteArray) (p : Nat) : bt (s ++ t) p = if p < s.size then bt s p else bt t (p - s.size) := by
  by_cases h : p < s.size
  · have h' : p < (s ++ t).size := by rw [ByteArray.size_append]; omega
    rw [if_pos h, ← bt_eq h, ← bt_eq h', ByteArray.getElem_append_left h]
  · rw [if_neg h]
    by_cases h2 : p < s.size + t.size
    · have h' : p < (s ++ t).size := by rw [ByteArray.size_append]; exact h2
      have h3 : p - s.size < t.size := by omega
      rw [← bt_eq h', ← bt_eq h3, ByteArray.getElem_append_right (by omega)]
    · rw [bt_out (by rw [ByteArray.size_append]; omega), bt_out (by omega)]
theorem bt_extract (s : ByteArray) (a b p : Nat) (h : a + p < b) (hb : b ≤ s.size) : bt (s.extract a b) p = bt s (a + p) := by
  have h1 : p < (s.extract a b).size := by rw [ByteArray.size_extract]; omega
  have h2 : a + p < s.size := by omega
  rw [← bt_eq h1, ← bt_eq h2, ByteArray.getElem_extract]
theorem str_ne {s t : ByteArray} (h : s ≠ t) : (s.toList == t.toList) = false := by
  rw [beq_eq_false_iff_ne]
  intro e
  rw [ByteArray.toList_eq, ByteArray.toList_eq] at e
  exact h (ByteArray.ext (Array.toList_inj.1 e))
end Go.Proofs.YtlpibpkbgmcclaaDoor
