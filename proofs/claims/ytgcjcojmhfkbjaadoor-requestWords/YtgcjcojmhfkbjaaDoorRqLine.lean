/- How many bytes a request's line has. -/
import Derived.Test.YtgcjcojmhfkbjaaDoorRqPrint
namespace Go.Proofs.YtgcjcojmhfkbjaaDoor
open Go.RowKit
set_option linter.unusedVariables false
theorem lineS_le (d : Int) (k v : ByteArray) : (lineS ⟨d, k, v⟩).size ≤ k.size + 2 * v.size + 10 := by
  have z1 := wordS_size d
  have z2 := dgS_size v
  have z3 : putS.size = 3 := rfl
  have z4 := blank_size
  by_cases h : d = 0
  · subst h
    rw [lineS_put]
    simp only [ByteArray.size_append]
    omega
  · by_cases hz : k.size = 0
    · rw [lineS_one h hz]; omega
    · rw [lineS_twov h hz]
      simp only [ByteArray.size_append]
      omega
theorem lineS_ge (d : Int) (k v : ByteArray) : k.size ≤ (lineS ⟨d, k, v⟩).size ∧ (d = 0 → v.size ≤ (lineS ⟨d, k, v⟩).size) := by
  have z4 := blank_size
  by_cases h : d = 0
  · subst h
    rw [lineS_put]
    simp only [ByteArray.size_append]
    have : v.size ≤ (dgS v).size ∨ v.size = 0 := by
      unfold dgS
      by_cases q1 : v.size = 0
      · exact .inr q1
      · left; rw [if_neg q1, hexS_size]; omega
    exact ⟨by omega, fun _ => by omega⟩
  · refine ⟨?_, fun q => absurd q h⟩
    by_cases hz : k.size = 0
    · omega
    · rw [lineS_twov h hz]
      simp only [ByteArray.size_append]
      omega
theorem empty_list : (⟨#[]⟩ : ByteArray).toList.isEmpty = true := by rw [ByteArray.toList_eq]; rfl
theorem str_refl (s : ByteArray) : (s.toList == s.toList) = true := str_eq rfl
end Go.Proofs.YtgcjcojmhfkbjaaDoor
