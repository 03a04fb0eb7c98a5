/- The library's Repeat, Join, Trim in the words of these texts. -/
import Derived.Test.YtomcdajoeakhdaaDoorNeRow
import Derived.Test.YtomcdajoeakhdaaDoorShelf
namespace Go.Proofs.YtomcdajoeakhdaaDoor
open Go.RowKit
set_option linter.unusedVariables false
/-- bytes 0 -/
def zer (n : Nat) : ByteArray := mkS n fun _ => 0
theorem zer_size (n : Nat) : (zer n).size = n := mkS_size _ _
theorem zer_bt (n p : Nat) : bt (zer n) p = 0 := by
  by_cases h : p < n
  · exact mkS_bt h (by omega)
  · exact bt_out (by rw [zer_size]; omega)
theorem bt_data (s : ByteArray) (p : Nat) : bt s p = ((s.data.toList[p]?).map UInt8.toNat).getD 0 := by
  by_cases h : p < s.size
  · rw [← bt_eq h]
    have h' : p < s.data.toList.length := by simpa using h
    rw [List.getElem?_eq_getElem h']
    rfl
  · rw [bt_out (by omega), List.getElem?_eq_none (by simpa using h)]
    rfl
theorem rep_zero : ∀ n, Lib.repeatL [0] n = List.replicate n 0
  | 0 => rfl
  | n + 1 => by rw [Lib.repeatL, rep_zero n]; rfl
theorem repeat_any (n : Nat) (w : World) (hn : n ≤ 100000) : Calls Tryd.prog 42 #[.string ⟨#[0]⟩, .int .i64 (n : Int)] w fun e w' => e = .returned (.string (zer n)) ∧ Below w.heap.size w w' := by
  have e : (⟨(Lib.repeatL (⟨#[0]⟩ : ByteArray).data.toList n).toArray⟩ : ByteArray) = zer n := by
    have hz : (⟨(Lib.repeatL (⟨#[0]⟩ : ByteArray).data.toList n).toArray⟩ : ByteArray).size = n := by
      show (Lib.repeatL [0] n).toArray.size = n
      rw [rep_zero]; simp
    apply ext_bt (by rw [hz, zer_size])
    intro p hp
    rw [zer_bt, bt_data]
    show ((((Lib.repeatL [0] n).toArray.toList)[p]?).map UInt8.toNat).getD 0 = 0
    rw [rep_zero]
    simp [List.getElem?_replicate]
    split <;> rfl
  have h := Tryd.strings_Repeat (⟨#[0]⟩ : ByteArray) n w (by omega) (by show 1 * n ≤ _; omega)
  rw [e] at h
  exact h
/-- strings one behind the other -/
def catB : List ByteArray → ByteArray
  | [] => ByteArray.empty
  | x :: l => x ++ catB l
theorem catB_snoc (l : List ByteArray) (x : ByteArray) : catB (l ++ [x]) = catB l ++ x := by
  induction l with
  | nil => show x ++ ByteArray.empty = ByteArray.empty ++ x; rw [app_nil, nil_app]
  | cons y l ih => show y ++ catB (l ++ [x]) = y ++ catB l ++ x; rw [ih, app_assoc]
theorem joinTail_nil : ∀ r : List (List UInt8), Lib.joinTail [] r = r.flatten
  | r => by unfold Lib.joinTail; simp
theorem join_flat : ∀ r : List (List UInt8), Lib.join r [] = r.flatten
  | [] => rfl
  | x :: r => by rw [Lib.join_cons, joinTail_nil]; rfl
theorem catB_data : ∀ l : List ByteArray, (catB l).data.toList = (l.map (·.data.toList)).flatten
  | [] => rfl
  | x :: l => by
    show (x ++ catB l).data.toList = x.data.toList ++ (l.map (·.data.toList)).flatten
    rw [← catB_data l]
    simp
theorem catB_size : ∀ l : List ByteArray, (∀ x ∈ l, x.size = 64) → (catB l).size = 64 * l.length
  | [], _ => rfl
  | x :: l, h => by
    show (x ++ catB l).size = 64 * (l.length + 1)
    rw [ByteArray.size_append, catB_size l fun y hy => h y (by simp [hy]), h x (by simp)]
    omega
theorem join_any (a : Option Addr) (c : Nat) (l : List ByteArray) (w : World) (hS : StrsAt w a l) (hl : l ≠ []) (hc : l.length ≤ c) (hz : (catB l).size ≤ 100000) (hn : l.length ≤ 100000) : Calls Tryd.prog 44 #[.slice a l.length c, .string ⟨#[]⟩] w fun e w' => e = .returned (.string (catB l)) ∧ Below w.heap.size w w' := by
  rcases hS with h | ⟨b, o, rfl, hb, hcell⟩
  · exact absurd h hl
  have e0 : Lib.join (l.map (·.data.toList)) (⟨#[]⟩ : ByteArray).data.toList = (catB l).data.toList := by rw [catB_data]; exact join_flat _
  have h := Tryd.strings_Join b o c l (⟨#[]⟩ : ByteArray) w hcell hb (by omega) hc (by rw [e0]; simp; omega)
  rw [e0] at h
  have e : (⟨(catB l).data.toList.toArray⟩ : ByteArray) = catB l := by simp
  rw [e] at h
  exact h
/-- all bytes are 0 -/
def allZ (s : ByteArray) : Prop := ∀ p, p < s.size → bt s p = 0
theorem drop_all (c : UInt8) : ∀ l : List UInt8, l.dropWhile (· == c) = [] ↔ ∀ x ∈ l, x = c
  | [] => by simp
  | x :: l => by
    by_cases h : x = c
    · subst h; simp [drop_all x l]
    · simp [h]
theorem drop_head (c : UInt8) : ∀ (l : List UInt8) (y : UInt8) (r : List UInt8), l.dropWhile (· == c) = y :: r → y ≠ c
  | [], y, r, h => by simp at h
  | x :: l, y, r, h => by
    by_cases e : x = c
    · subst e; rw [List.dropWhile_cons_of_pos (by simp)] at h; exact drop_head x l y r h
    · rw [List.dropWhile_cons_of_neg (by simpa using e)] at h
      injection h with h1 h2
      rw [← h1]; exact e
theorem trim_nil (l : List UInt8) (c : UInt8) : Lib.trimB l c = [] ↔ ∀ x ∈ l, x = c := by
  unfold Lib.trimB Lib.trimLeftB Lib.trimRightB
  rw [drop_all]
  constructor
  · intro h x hx
    by_cases e : l.reverse.dropWhile (· == c) = []
    · exact (drop_all c l.reverse).1 e x (by simpa using hx)
    · exfalso
      obtain ⟨y, r, hy⟩ := List.exists_cons_of_ne_nil e
      have h1 : y = c := h y (by rw [hy]; simp)
      exact drop_head c _ _ _ hy h1
  · intro h x hx
    have : x ∈ l.reverse := by
      have h1 : x ∈ l.reverse.dropWhile (· == c) := by simpa using hx
      exact (List.dropWhile_sublist _).subset h1
    exact h x (by simpa using this)
theorem allZ_iff (s : ByteArray) : allZ s ↔ ∀ x ∈ s.data.toList, x = 0 := by
  constructor
  · intro h x hx
    obtain ⟨p, hp, e⟩ := List.mem_iff_getElem.1 hx
    have hp' : p < s.size := by simpa using hp
    have h1 := h p hp'
    rw [bt_data, List.getElem?_eq_getElem hp, e] at h1
    exact UInt8.toNat.inj (by simpa using h1)
  · intro h p hp
    have hp' : p < s.data.toList.length := by simpa using hp
    rw [bt_data, List.getElem?_eq_getElem hp', h _ (List.getElem_mem hp')]
    rfl
theorem trim_any (s : ByteArray) (w : World) (hs : s.size ≤ 100000) : Calls Tryd.prog 45 #[.string s, .string ⟨#[0]⟩] w fun e w' => ∃ t, e = .returned (.string t) ∧ (t.size = 0 ↔ allZ s) ∧ Below w.heap.size w w' := by
  refine (Tryd.strings_Trim_one s 0 (by decide) w (by omega)).mono ?_
  rintro e w' ⟨rfl, hw⟩
  refine ⟨_, rfl, ?_, ?_⟩
  · rw [allZ_iff, ← trim_nil]
    show (Lib.trimB s.data.toList 0).toArray.size = 0 ↔ _
    simp
  · rcases hw with rfl | rfl
    · exact Below.refl _ _
    · exact drew_below w
end Go.Proofs.YtomcdajoeakhdaaDoor
