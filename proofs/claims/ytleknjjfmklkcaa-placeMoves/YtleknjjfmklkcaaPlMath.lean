/- Layer 9 as numbers: live disks, a list gone round, loads, the disk that has most and the one that has least. -/
namespace Go.Proofs.Ytleknjjfmklkcaa
set_option linter.unusedVariables false
def numB (n : Int) : Bool := decide (0 ≤ n) && decide (n ≤ 1099511627776)
theorem numB_iff {n : Int} : numB n = true ↔ 0 ≤ n ∧ n ≤ 1099511627776 := by simp [numB]
def dskB (n : Int) : Bool := decide (0 ≤ n) && decide (n < 12)
theorem dskB_iff {n : Int} : dskB n = true ↔ 0 ≤ n ∧ n < 12 := by simp [dskB]
/-- is the place i of a list as it must be? -/
def okAt (l : List Int) (i : Nat) : Bool := dskB (l.getD i 0) && (i == 0 || decide (l.getD (i - 1) 0 < l.getD i 0))
def liveB (l : List Int) : Bool := (List.range l.length).all (okAt l)
theorem live_no {l : List Int} {k : Nat} (hk : k < l.length) (h : okAt l k = false) : liveB l = false := by
  unfold liveB
  rw [List.all_eq_false]
  exact ⟨k, List.mem_range.2 hk, by rw [h]; simp⟩
theorem live_yes {l : List Int} (h : ∀ i, i < l.length → okAt l i = true) : liveB l = true := by
  unfold liveB
  rw [List.all_eq_true]
  exact fun i hi => h i (List.mem_range.1 hi)
theorem live_at {l : List Int} (h : liveB l = true) {i : Nat} (hi : i < l.length) : 0 ≤ l.getD i 0 ∧ l.getD i 0 < 12 := by
  unfold liveB at h
  rw [List.all_eq_true] at h
  have := h i (List.mem_range.2 hi)
  unfold okAt at this
  rw [Bool.and_eq_true] at this
  exact dskB_iff.1 this.1
theorem live_rises {l : List Int} (h : liveB l = true) : ∀ {i j : Nat}, i < j → j < l.length → l.getD i 0 < l.getD j 0 := by
  have one : ∀ i, i + 1 < l.length → l.getD i 0 < l.getD (i + 1) 0 := by
    intro i hi
    unfold liveB at h
    rw [List.all_eq_true] at h
    have := h (i + 1) (List.mem_range.2 hi)
    unfold okAt at this
    rw [Bool.and_eq_true] at this
    simpa using this.2
  intro i j hij hj
  induction j with
  | zero => omega
  | succ j ih =>
    by_cases e : i = j
    · subst e; exact one i hj
    · have h1 := ih (by omega) (by omega)
      have h2 := one j hj
      omega
theorem live_len {l : List Int} (h : liveB l = true) : l.length ≤ 12 := by
  have step : ∀ i, i < l.length → (i : Int) ≤ l.getD i 0 := by
    intro i
    induction i with
    | zero => intro hi; exact (live_at h hi).1
    | succ i ih =>
      intro hi
      have h1 := ih (by omega)
      have h2 := live_rises h (i := i) (j := i + 1) (by omega) hi
      omega
  by_cases h0 : l.length = 0
  · omega
  · have h1 := step (l.length - 1) (by omega)
    have h2 := (live_at h (i := l.length - 1) (by omega)).2
    omega
/-- the i-th one of a list that is gone round from f on -/
def rot (l : List Int) (f i : Nat) : Int := l.getD ((f + i) % l.length) 0
def rotL (l : List Int) (f k : Nat) : List Int := (List.range k).map (rot l f)
theorem rotL_len (l : List Int) (f k : Nat) : (rotL l f k).length = k := by simp [rotL]
theorem rotL_succ (l : List Int) (f k : Nat) : rotL l f (k + 1) = rotL l f k ++ [rot l f k] := by unfold rotL; rw [List.range_succ, List.map_append]; rfl
theorem rotL_at {l : List Int} {f k i : Nat} (h : i < k) : (rotL l f k)[i]? = some (rot l f i) := by simp [rotL, h]
theorem rot_mem {l : List Int} {f i : Nat} (h : 0 < l.length) : l[(f + i) % l.length]? = some (rot l f i) := by
  unfold rot
  have := Nat.mod_lt (f + i) h
  rw [List.getD_eq_getElem?_getD, List.getElem?_eq_getElem this]; rfl
/-- is a number one of some? -/
def hasB (l : List Int) (d : Int) : Bool := l.contains d
/-- the first one of a list that is not used -/
def insO (used l : List Int) (f : Nat) : Option Int := (rotL l f l.length).find? fun d => !hasB used d
theorem ins_some {used l : List Int} {f k : Nat} (hk : k < l.length) (hall : ∀ i, i < k → hasB used (rot l f i) = true) (h : hasB used (rot l f k) = false) : insO used l f = some (rot l f k) := by
  unfold insO
  have e : rotL l f l.length = rotL l f k ++ rot l f k :: ((List.range (l.length - k - 1)).map fun i => rot l f (k + 1 + i)) := by
    unfold rotL
    apply List.ext_getElem?
    intro i
    rw [List.getElem?_append]
    simp only [List.length_map, List.length_range]
    by_cases h1 : i < k
    · rw [if_pos h1]; simp [h1, Nat.lt_trans h1 hk]
    · rw [if_neg h1]
      by_cases h2 : i = k
      · subst h2; simp [hk]
      · obtain ⟨j, rfl⟩ : ∃ j, i = k + 1 + j := ⟨i - k - 1, by omega⟩
        rw [show k + 1 + j - k = j + 1 by omega, List.getElem?_cons_succ]
        by_cases h3 : k + 1 + j < l.length
        · simp [h3, show j < l.length - k - 1 by omega]
        · simp [h3, show ¬ j < l.length - k - 1 by omega]
  rw [e, List.find?_append, List.find?_eq_none.2, Option.none_or, List.find?_cons_of_pos]
  · rw [h]; rfl
  · intro x hx
    unfold rotL at hx
    obtain ⟨i, hi, rfl⟩ := List.mem_map.1 hx
    rw [hall i (List.mem_range.1 hi)]; simp
theorem ins_none {used l : List Int} {f : Nat} (hall : ∀ i, i < l.length → hasB used (rot l f i) = true) : insO used l f = none := by
  unfold insO
  rw [List.find?_eq_none]
  intro x hx
  unfold rotL at hx
  obtain ⟨i, hi, rfl⟩ := List.mem_map.1 hx
  rw [hall i (List.mem_range.1 hi)]; simp
/-- how many of some places lie on a disk -/
def ldN (ls : List (Int × Int)) (d : Int) : Nat := ls.countP fun x => x.1 == d
def ldV (vs : List (List (Int × Int))) (d : Int) : Nat := (vs.map fun ls => ldN ls d).sum
theorem ldN_snoc (ls : List (Int × Int)) (x : Int × Int) (d : Int) : ldN (ls ++ [x]) d = ldN ls d + (if x.1 = d then 1 else 0) := by
  unfold ldN; rw [List.countP_append]; simp [List.countP_cons]
theorem ldV_snoc (vs : List (List (Int × Int))) (ls : List (Int × Int)) (d : Int) : ldV (vs ++ [ls]) d = ldV vs d + ldN ls d := by simp [ldV]
theorem ldN_le (ls : List (Int × Int)) (d : Int) : ldN ls d ≤ ls.length := List.countP_le_length
def allN (vs : List (List (Int × Int))) : Nat := (vs.map List.length).sum
theorem ldV_le (vs : List (List (Int × Int))) (d : Int) : ldV vs d ≤ allN vs := by
  unfold ldV allN
  induction vs with
  | nil => simp
  | cons x xs ih => simp only [List.map_cons, List.sum_cons]; have := ldN_le x d; omega
theorem allN_snoc (vs : List (List (Int × Int))) (x : List (Int × Int)) : allN (vs ++ [x]) = allN vs + x.length := by simp [allN]
theorem take_snoc {α : Type} {l : List α} {k : Nat} {x : α} (h : l[k]? = some x) : l.take (k + 1) = l.take k ++ [x] := by
  rw [List.take_add_one, h]; rfl
theorem allN_take (vs : List (List (Int × Int))) (k : Nat) : allN (vs.take k) ≤ allN vs := by
  unfold allN
  rw [List.map_take]
  conv => rhs; rw [← List.take_append_drop k (vs.map List.length), List.sum_append]
  omega
/-- the disk that has most, and the one that has least, of the first k live ones -/
def mostT (c : Int → Nat) (l : List Int) (k : Nat) : Int := (l.take k).foldl (fun m d => if c m < c d then d else m) (l.getD 0 0)
def leastT (c : Int → Nat) (l : List Int) (k : Nat) : Int := (l.take k).foldl (fun m d => if c d < c m then d else m) (l.getD 0 0)
theorem mostT_succ (c : Int → Nat) {l : List Int} {k : Nat} {d : Int} (h : l[k]? = some d) : mostT c l (k + 1) = if c (mostT c l k) < c d then d else mostT c l k := by
  unfold mostT; rw [take_snoc h, List.foldl_append]; rfl
theorem leastT_succ (c : Int → Nat) {l : List Int} {k : Nat} {d : Int} (h : l[k]? = some d) : leastT c l (k + 1) = if c d < c (leastT c l k) then d else leastT c l k := by
  unfold leastT; rw [take_snoc h, List.foldl_append]; rfl
theorem mostT_one (c : Int → Nat) {l : List Int} (h : 0 < l.length) : mostT c l 1 = l.getD 0 0 := by
  have e : l[0]? = some (l.getD 0 0) := by rw [List.getD_eq_getElem?_getD, List.getElem?_eq_getElem h]; rfl
  rw [mostT_succ c e]; simp [mostT]
theorem leastT_one (c : Int → Nat) {l : List Int} (h : 0 < l.length) : leastT c l 1 = l.getD 0 0 := by
  have e : l[0]? = some (l.getD 0 0) := by rw [List.getD_eq_getElem?_getD, List.getElem?_eq_getElem h]; rfl
  rw [leastT_succ c e]; simp [leastT]
theorem mostT_in (c : Int → Nat) {l : List Int} (h : 0 < l.length) : ∀ k, ∃ i, i < l.length ∧ mostT c l k = l.getD i 0 := by
  intro k
  induction k with
  | zero => exact ⟨0, h, by simp [mostT]⟩
  | succ k ih =>
    by_cases hk : k < l.length
    · have e : l[k]? = some (l.getD k 0) := by rw [List.getD_eq_getElem?_getD, List.getElem?_eq_getElem hk]; rfl
      rw [mostT_succ c e]
      split
      · exact ⟨k, hk, rfl⟩
      · exact ih
    · obtain ⟨i, hi, he⟩ := ih
      refine ⟨i, hi, ?_⟩
      rw [← he]; unfold mostT
      rw [List.take_of_length_le (by omega), List.take_of_length_le (by omega)]
theorem leastT_in (c : Int → Nat) {l : List Int} (h : 0 < l.length) : ∀ k, ∃ i, i < l.length ∧ leastT c l k = l.getD i 0 := by
  intro k
  induction k with
  | zero => exact ⟨0, h, by simp [leastT]⟩
  | succ k ih =>
    by_cases hk : k < l.length
    · have e : l[k]? = some (l.getD k 0) := by rw [List.getD_eq_getElem?_getD, List.getElem?_eq_getElem hk]; rfl
      rw [leastT_succ c e]
      split
      · exact ⟨k, hk, rfl⟩
      · exact ih
    · obtain ⟨i, hi, he⟩ := ih
      refine ⟨i, hi, ?_⟩
      rw [← he]; unfold leastT
      rw [List.take_of_length_le (by omega), List.take_of_length_le (by omega)]
theorem getD_at {l : List Int} {k : Nat} (h : k < l.length) : l[k]? = some (l.getD k 0) := by rw [List.getD_eq_getElem?_getD, List.getElem?_eq_getElem h]; rfl
end Go.Proofs.Ytleknjjfmklkcaa
