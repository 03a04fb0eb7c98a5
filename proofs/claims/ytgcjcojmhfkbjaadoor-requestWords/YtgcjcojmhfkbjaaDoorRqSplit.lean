/- The library's SplitN at one blank: its pieces ask what the line's words ask. -/
import Derived.Test.YtgcjcojmhfkbjaaDoorRqMath
import Derived.Lib.Split
import Derived.Lib.SplitLaws
import Derived.Lib.CutLaws
namespace Go.Proofs.YtgcjcojmhfkbjaaDoor
open Go.RowKit
set_option linter.unusedVariables false
theorem btl (s : ByteArray) (p : Nat) : bt s p = ((s.data.toList[p]?).map UInt8.toNat).getD 0 := by
  by_cases h : p < s.size
  · rw [← bt_eq h]
    have h' : p < s.data.toList.length := by simpa using h
    rw [List.getElem?_eq_getElem h']
    rfl
  · rw [bt_out (by omega), List.getElem?_eq_none (by simpa using h)]
    rfl
theorem occ_head (l : List UInt8) (i : Nat) : Lib.occAt l [32] i = (l[i]? == some 32) := by
  unfold Lib.occAt
  by_cases h : i < l.length
  · rw [List.drop_eq_getElem_cons h, List.getElem?_eq_getElem h]
    by_cases e : l[i] = 32
    · rw [e]; rfl
    · have h1 : ((32 : UInt8) == l[i]) = false := by simpa using fun q => e q.symm
      have h2 : ((some l[i] : Option UInt8) == some 32) = false := by simpa using e
      rw [h2]
      show ((32 : UInt8) == l[i] && _) = false
      rw [h1]; rfl
  · rw [List.drop_eq_nil_of_le (by omega), List.getElem?_eq_none (by omega)]
    rfl
theorem occ_bt (s : ByteArray) (i : Nat) : Lib.occAt s.data.toList [32] i = true ↔ bt s i = 32 := by
  rw [occ_head, btl]
  cases h : s.data.toList[i]? with
  | none => simp
  | some c =>
    simp only [beq_iff_eq, Option.some.injEq, Option.map_some, Option.getD_some]
    constructor
    · rintro rfl; rfl
    · intro e
      exact UInt8.toNat_inj.1 e
theorem occ_no {s : ByteArray} {i : Nat} (h : Lib.occAt s.data.toList [32] i = false) : bt s i ≠ 32 := fun e => by
  rw [(occ_bt s i).2 e] at h; cases h
theorem index_blank (s : ByteArray) : (Lib.indexB s blank = -1 ∧ noB s) ∨ ∃ i : Nat, Lib.indexB s blank = i ∧ i < s.size ∧ bt s i = 32 ∧ ∀ p, p < i → bt s p ≠ 32 := by
  rcases Lib.index_spec s.data.toList [32] with ⟨h1, h2⟩ | ⟨i, h1, _, h3, h4⟩
  · refine .inl ⟨h1, fun p hp => occ_no (h2 p ?_)⟩
    rw [← Lib.size_eq]; omega
  · have hb := (occ_bt s i).1 h3
    refine .inr ⟨i, h1, ?_, hb, fun p hp => occ_no (h4 p hp)⟩
    rcases Nat.lt_or_ge i s.size with q | q
    · exact q
    · rw [bt_out q] at hb; cases hb
theorem wds_at {s : ByteArray} {i : Nat} (hi : i < s.size) (hb : bt s i = 32) (hn : ∀ p, p < i → bt s p ≠ 32) : wds s = s.extract 0 i :: wds (s.extract (i + 1) s.size) := by
  have e := ext_blank s (Nat.zero_le i) hi hb
  rw [ext_all] at e
  have hno : noB (s.extract 0 i) := fun p hp => by
    rw [ByteArray.size_extract] at hp
    rw [bt_extract s 0 i p (by omega) (by omega), Nat.zero_add]
    exact hn p (by omega)
  have := wds_cons (s.extract (i + 1) s.size) hno
  rw [e] at this
  exact this
theorem wdF_len (s : ByteArray) : ∀ n a i, (wdF s n a i).length ≤ n + 1
  | 0, a, i => by simp [wdF]
  | n + 1, a, i => by
    unfold wdF
    split
    · have := wdF_len s n (i + 1) (i + 1)
      simp only [List.length_cons]; omega
    · have := wdF_len s n a (i + 1)
      omega
theorem wds_len (s : ByteArray) : (wds s).length ≤ s.size + 1 := wdF_len _ _ _ _
theorem split_wds : ∀ (k : Nat) (s : ByteArray), Lib.splitB blank 0 k s = wds s ∨ ((Lib.splitB blank 0 k s).length = k + 1 ∧ k + 1 < (wds s).length)
  | 0, s => by
    rcases index_blank s with ⟨_, h⟩ | ⟨i, _, hi, hb, hn⟩
    · exact .inl (wds_one h).symm
    · refine .inr ⟨rfl, ?_⟩
      rw [wds_at hi hb hn]
      have := wds_ne (s.extract (i + 1) s.size)
      have h1 : 0 < (wds (s.extract (i + 1) s.size)).length := List.length_pos_iff.2 this
      simp only [List.length_cons]; omega
  | k + 1, s => by
    rcases index_blank s with ⟨h1, h⟩ | ⟨i, h1, hi, hb, hn⟩
    · left
      rw [Lib.splitB_miss _ _ _ _ h1, wds_one h]
    · rw [Lib.splitB_hit _ _ _ _ _ h1, wds_at hi hb hn, Nat.add_zero]
      show s.extract 0 i :: Lib.splitB blank 0 k (s.extract (i + 1) s.size) = _ ∨ _
      rcases split_wds k (s.extract (i + 1) s.size) with q | ⟨q1, q2⟩
      · left; rw [q]
      · right
        simp only [List.length_cons]
        have e : (Lib.splitB blank 0 k (s.extract (i + blank.size) s.size)).length = k + 1 := q1
        omega
theorem askW_long {l : List ByteArray} (h : 4 ≤ l.length) : askW l = none := by
  match l, h with
  | a :: b :: c :: d :: r, _ => rfl
/-- the pieces that the library hands back -/
def pcs (s : ByteArray) : List ByteArray := Lib.splitB blank 0 (min 4 (s.size + 1) - 1) s
theorem pcs_ask (s : ByteArray) : askW (pcs s) = askW (wds s) ∧ 1 ≤ (pcs s).length ∧ (pcs s).length ≤ min 4 (s.size + 1) := by
  unfold pcs
  have hle := Lib.splitB_length_le blank 0 (min 4 (s.size + 1) - 1) s
  have hw := wds_len s
  rcases split_wds (min 4 (s.size + 1) - 1) s with q | ⟨q1, q2⟩
  · have h1 : 0 < (wds s).length := List.length_pos_iff.2 (wds_ne s)
    rw [q] at hle ⊢
    exact ⟨rfl, h1, by omega⟩
  · refine ⟨?_, by omega, by omega⟩
    rw [askW_long (by omega), askW_long (by omega)]
theorem piece_size {s x : ByteArray} : ∀ {k : Nat} {t : ByteArray}, t.size ≤ s.size → x ∈ Lib.splitB blank 0 k t → x.size ≤ s.size
  | 0, t, ht, h => by
    rw [Lib.splitB_zero] at h
    obtain rfl := List.mem_singleton.1 h
    exact ht
  | k + 1, t, ht, h => by
    rcases index_blank t with ⟨h1, _⟩ | ⟨i, h1, hi, _, _⟩
    · rw [Lib.splitB_miss _ _ _ _ h1] at h
      obtain rfl := List.mem_singleton.1 h
      exact ht
    · rw [Lib.splitB_hit _ _ _ _ _ h1] at h
      rcases List.mem_cons.1 h with rfl | h
      · rw [ByteArray.size_extract]; omega
      · exact piece_size (by rw [ByteArray.size_extract]; omega) h
theorem pcs_size {s x : ByteArray} (h : x ∈ pcs s) : x.size ≤ s.size := piece_size (Nat.le_refl _) h
end Go.Proofs.YtgcjcojmhfkbjaaDoor
