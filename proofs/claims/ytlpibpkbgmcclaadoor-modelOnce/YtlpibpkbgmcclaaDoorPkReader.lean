/- What a reader's calls answer. -/
import Derived.Test.YtlpibpkbgmcclaaDoorPkRead
namespace Go.Proofs.YtlpibpkbgmcclaaDoor
open Go.RowKit
theorem val_ext {s : ByteArray} {k : Nat} (h : k ≤ s.size) : val (bt (s.extract 0 k)) (s.extract 0 k).size = val (bt s) k := by
  have hz : (s.extract 0 k).size = k := by rw [ByteArray.size_extract]; omega
  rw [hz]
  exact val_congr fun p hp => by rw [bt_extract _ _ _ _ (by omega) h, Nat.zero_add]
theorem not_empty {s : ByteArray} (h : s.size ≠ 0) : s.toList.isEmpty = false := by
  rw [ByteArray.toList_eq]
  have : s.data.toList.length ≠ 0 := by rw [Array.length_toList]; exact h
  cases hl : s.data.toList with
  | nil => rw [hl] at this; exact absurd rfl this
  | cons _ _ => rfl
theorem ext_all (s : ByteArray) : s.extract 0 s.size = s := by
  have h := ext_head s ByteArray.empty
  rw [app_nil] at h
  exact h
theorem ext_none (s : ByteArray) : s.extract s.size s.size = ByteArray.empty := size_zero (by rw [ByteArray.size_extract]; omega)
end Go.Proofs.YtlpibpkbgmcclaaDoor
