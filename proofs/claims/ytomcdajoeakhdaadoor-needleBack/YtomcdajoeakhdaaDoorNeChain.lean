/- Needles one behind the other; a text's parts joined. No walk stands here. -/
import Derived.Test.YtomcdajoeakhdaaDoorNeSame
namespace Go.Proofs.YtomcdajoeakhdaaDoor
open Go.RowKit
set_option linter.unusedVariables false
def AllOk (l : List Nd) : Prop := ∀ n ∈ l, ckE n = 0
noncomputable def chS (l : List Nd) : ByteArray := catB (l.map nbS)
theorem chS_cons (x : Nd) (l : List Nd) : chS (x :: l) = nbS x ++ chS l := rfl
theorem chS_snoc (l : List Nd) (x : Nd) : chS (l ++ [x]) = chS l ++ nbS x := by unfold chS; rw [List.map_append]; exact catB_snoc _ _
theorem drop_cons' {α : Type} {l : List α} {k : Nat} {x : α} (h : l[k]? = some x) : l.drop k = x :: l.drop (k + 1) := by
  obtain ⟨hk, rfl⟩ := List.getElem?_eq_some_iff.1 h
  exact List.drop_eq_getElem_cons hk
theorem chain_st {l : List Nd} (h : AllOk l) : ∀ j, j ≤ l.length → stL (chS l) j = chS (l.drop j)
  | 0, _ => by rw [List.drop_zero]; rfl
  | j + 1, hj => by
    obtain ⟨x, hx⟩ : ∃ x, l[j]? = some x := ⟨_, List.getElem?_eq_getElem (by omega)⟩
    show nrR (stL (chS l) j) = _
    rw [chain_st h j (by omega), drop_cons' hx, chS_cons]
    exact (nr_back (h x (List.mem_of_getElem? hx)) _).2.2
theorem nbS_pos (n : Nd) : 32 ≤ (nbS n).size := by rw [nbS_size]; unfold nsz; omega
theorem chain_at {l : List Nd} (h : AllOk l) {j : Nat} {x : Nd} (hx : l[j]? = some x) : (stL (chS l) j).size ≠ 0 ∧ nrE (stL (chS l) j) = 0 ∧ nrN (stL (chS l) j) = x := by
  have hj := (List.getElem?_eq_some_iff.1 hx).1
  obtain ⟨e1, e2, _⟩ := nr_back (h x (List.mem_of_getElem? hx)) (chS (l.drop (j + 1)))
  rw [chain_st h j (by omega), drop_cons' hx, chS_cons]
  refine ⟨?_, e1, e2⟩
  rw [ByteArray.size_append]
  have := nbS_pos x
  omega
theorem chain_end {l : List Nd} (h : AllOk l) : EndN (chS l) l.length ∧ (stL (chS l) l.length).size = 0 := by
  have e : (stL (chS l) l.length).size = 0 := by rw [chain_st h _ (Nat.le_refl _), List.drop_length]; rfl
  refine ⟨⟨fun j hj => ?_, .inl e⟩, e⟩
  have := chain_at h (List.getElem?_eq_getElem hj)
  exact ⟨this.1, this.2.1⟩
theorem chain_nds {l : List Nd} (h : AllOk l) : ndsN (chS l) l.length = l := by
  apply List.ext_getElem?
  intro i
  unfold ndsN
  by_cases hi : i < l.length
  · rw [List.getElem?_map, List.getElem?_range hi, List.getElem?_eq_getElem hi]
    show some (nrN (stL (chS l) i)) = _
    rw [(chain_at h (List.getElem?_eq_getElem hi)).2.2]
  · rw [List.getElem?_eq_none (by simp; omega), List.getElem?_eq_none (by omega)]
theorem chS_split {l : List Nd} {j : Nat} (hj : j ≤ l.length) : chS l = chS (l.take j) ++ chS (l.drop j) := by
  have key : ∀ a b : List Nd, chS (a ++ b) = chS a ++ chS b := by
    intro a b
    induction a with
    | nil => show chS b = ByteArray.empty ++ chS b; rw [nil_app]
    | cons x a ih => rw [List.cons_append, chS_cons, chS_cons, ih, app_assoc]
  conv => lhs; rw [← List.take_append_drop j l]
  exact key _ _
theorem chain_off {l : List Nd} (h : AllOk l) : offN (chS l) l.length = (List.range l.length).map fun j => (((chS (l.take j)).size : Nat) : Int) := by
  unfold offN
  apply List.map_congr_left
  intro j hj
  have hj' : j < l.length := List.mem_range.1 hj
  rw [chain_st h j (by omega)]
  have e := congrArg ByteArray.size (chS_split (l := l) (j := j) (by omega))
  rw [ByteArray.size_append] at e
  unfold offF
  rw [e]
  congr 1
  omega
/-- All at needles that were written one behind the other -/
theorem chain_all {l : List Nd} (h : AllOk l) {w w' : World} {r : Ending} (hA : AllLeft (chS l) w r w') : Below w.heap.size w w' ∧ ∃ a c a2 c2, r = .returned (.tuple #[.slice a l.length c, .slice a2 l.length c2, .int .i64 0]) ∧ NdsAt w' a l ∧ IntsAt w' a2 ((List.range l.length).map fun j => (((chS (l.take j)).size : Nat) : Int)) := by
  obtain ⟨k, hE, hb, hh⟩ := hA
  obtain ⟨hE2, h0⟩ := chain_end h
  obtain rfl := EndN.one hE hE2
  rcases hh with ⟨_, a, c, a2, c2, e, h1, h2⟩ | ⟨q, _⟩
  · rw [chain_nds h] at h1
    rw [chain_off h] at h2
    exact ⟨hb, a, c, a2, c2, e, h1, h2⟩
  · exact absurd h0 q
/-- parts joined are the text -/
theorem shd_size {s : ByteArray} (h : s.size ≤ 384) {k : Nat} (hk : k < 6) : (shd s k).size = 64 := by
  unfold shd
  rw [ByteArray.size_extract, padS_size h]
  omega
theorem shl_ok {s : ByteArray} (h : s.size ≤ 384) : ok6 (shl s 6) := ⟨shl_len s 6, fun x hx => by
  unfold shl at hx
  obtain ⟨i, hi, rfl⟩ := List.mem_map.1 hx
  exact shd_size h (List.mem_range.1 hi)⟩
theorem ext_next (s : ByteArray) {a b : Nat} (h1 : a ≤ b) (h2 : b ≤ s.size) : s.extract 0 a ++ s.extract a b = s.extract 0 b := by
  have hz1 : (s.extract 0 a).size = a := by rw [ByteArray.size_extract]; omega
  have hz2 : (s.extract a b).size = b - a := by rw [ByteArray.size_extract]; omega
  have hz3 : (s.extract 0 b).size = b := by rw [ByteArray.size_extract]; omega
  apply ext_bt (by rw [ByteArray.size_append]; omega)
  intro p hp
  rw [ByteArray.size_append] at hp
  rw [bt_append, hz1, bt_extract _ 0 b _ (by omega) h2]
  split
  · rw [bt_extract _ 0 a _ (by omega) (by omega)]
  · rw [bt_extract _ a b _ (by omega) h2, show a + (p - a) = 0 + p by omega]
theorem shl_cat {s : ByteArray} (h : s.size ≤ 384) : ∀ k, k ≤ 6 → catB (shl s k) = (padS s).extract 0 (k * 64)
  | 0, _ => (size_zero (by rw [ByteArray.size_extract]; omega)).symm
  | k + 1, hk => by
    rw [shl_succ, catB_snoc, shl_cat h k (by omega)]
    exact ext_next _ (by omega) (by rw [padS_size h]; omega)
theorem shl_join {s : ByteArray} (h : s.size ≤ 384) : catB (shl s 6) = padS s := by
  rw [shl_cat h 6 (by omega)]
  have := ext_all (padS s)
  rw [padS_size h] at this
  exact this
theorem pad_z {s : ByteArray} (h : s.size ≤ 384) (n : Nat) : zFrom (padS s) n ↔ ∀ p, n ≤ p → p < s.size → bt s p = 0 := by
  constructor
  · intro hz p h1 h2
    have := hz p h1 (by rw [padS_size h]; omega)
    unfold padS at this
    rw [bt_append, if_pos h2] at this
    exact this
  · intro hz p h1 h2
    unfold padS
    rw [bt_append]
    split
    · exact hz p h1 (by assumption)
    · exact zer_bt _ _
theorem pad_head (s : ByteArray) : (padS s).extract 0 s.size = s := ext_head _ _
end Go.Proofs.YtomcdajoeakhdaaDoor
