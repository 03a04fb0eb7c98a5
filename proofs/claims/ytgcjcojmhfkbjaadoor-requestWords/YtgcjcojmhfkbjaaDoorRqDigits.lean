/- Digits of sixteen: what request.digit, ofDigits and inDigits answer, and the document's. -/
import Derived.Test.YtgcjcojmhfkbjaaDoorRqMath
import Derived.Test.YtgcjcojmhfkbjaaDoorPkRefNum
import Derived.Deep.Cut
import Derived.Handy
namespace Go.Proofs.YtgcjcojmhfkbjaaDoor
open Go.RowKit
set_option linter.unusedVariables false
instance (c : Nat) : Decidable (isD c) := by unfold isD; exact inferInstance
def dgV (c : Nat) : Value := if isD c then .tuple #[.int .u8 ((dv c : Nat) : Int), .bool true] else .tuple #[.int .u8 0, .bool false]
theorem ret_val {a b : Value} (h : a = b) : Ending.returned a = .returned b := by rw [h]
set_option maxRecDepth 100000 in
set_option maxHeartbeats 4000000 in
theorem digit_any (c : Nat) (hc : c < 256) (w : World) : Calls Tryd.prog 62 #[.int .u8 (c : Int)] w fun e w' => e = .returned (dgV c) ∧ w = w' := by
  have HV : Hid (∀ v, (isD c → v = .tuple #[.int .u8 ((dv c : Nat) : Int), .bool true]) → (¬ isD c → v = .tuple #[.int .u8 0, .bool false]) → v = dgV c) := fun v h1 h2 => by
    unfold dgV
    by_cases h : isD c
    · rw [if_pos h]; exact h1 h
    · rw [if_neg h]; exact h2 h
  by_cases h48 : 48 ≤ c
  · have e1 : decide ((48 : Int) ≤ (c : Int)) = true := by simp; omega
    by_cases h57 : c ≤ 57
    · have e2 : decide ((c : Int) ≤ 57) = true := by simp; omega
      have HD : Hid (isD c ∧ (c : Int) - 48 = ((dv c : Nat) : Int)) := ⟨.inl ⟨h48, h57⟩, by unfold dv; rw [if_pos h57]; omega⟩
      go_enter Tryd.func62, Tryd.ntmps62
      go_wp2_with fail
      first | go_ret | go_returns
      exact ⟨ret_val (HV.out _ (fun _ => by show Value.tuple #[.int .u8 ((c : Int) - 48), .bool true] = _; rw [HD.out.2]) (fun h => absurd HD.out.1 h)), rfl⟩
    · have e2 : decide ((c : Int) ≤ 57) = false := by simp; omega
      by_cases h97 : 97 ≤ c
      · have e3 : decide ((97 : Int) ≤ (c : Int)) = true := by simp; omega
        by_cases h102 : c ≤ 102
        · have e4 : decide ((c : Int) ≤ 102) = true := by simp; omega
          have HD : Hid (isD c ∧ (c : Int) - 97 + 10 = ((dv c : Nat) : Int)) := ⟨.inr ⟨h97, h102⟩, by unfold dv; rw [if_neg h57]; omega⟩
          go_enter Tryd.func62, Tryd.ntmps62
          go_wp2_with fail
          first | go_ret | go_returns
          exact ⟨ret_val (HV.out _ (fun _ => by show Value.tuple #[.int .u8 ((c : Int) - 97 + 10), .bool true] = _; rw [HD.out.2]) (fun h => absurd HD.out.1 h)), rfl⟩
        · have e4 : decide ((c : Int) ≤ 102) = false := by simp; omega
          have HD : Hid (¬ isD c) := fun h => by unfold isD at h; omega
          go_enter Tryd.func62, Tryd.ntmps62
          go_wp2_with fail
          first | go_ret | go_returns
          exact ⟨ret_val (HV.out _ (fun h => absurd h HD.out) (fun _ => rfl)), rfl⟩
      · have e3 : decide ((97 : Int) ≤ (c : Int)) = false := by simp; omega
        have HD : Hid (¬ isD c) := fun h => by unfold isD at h; omega
        go_enter Tryd.func62, Tryd.ntmps62
        go_wp2_with fail
        first | go_ret | go_returns
        exact ⟨ret_val (HV.out _ (fun h => absurd h HD.out) (fun _ => rfl)), rfl⟩
  · have e1 : decide ((48 : Int) ≤ (c : Int)) = false := by simp; omega
    have e3 : decide ((97 : Int) ≤ (c : Int)) = false := by simp; omega
    have HD : Hid (¬ isD c) := fun h => by unfold isD at h; omega
    go_enter Tryd.func62, Tryd.ntmps62
    go_wp2_with fail
    first | go_ret | go_returns
    exact ⟨ret_val (HV.out _ (fun h => absurd h HD.out) (fun _ => rfl)), rfl⟩
def rdI (c : Nat) : Int := if isD c then ((dv c : Nat) : Int) else -1
set_option maxRecDepth 100000 in
set_option maxHeartbeats 4000000 in
theorem refdigit_any (c : Nat) (hc : c < 256) (w : World) : Calls Tryd.prog 42 #[.int .u8 (c : Int)] w fun e w' => e = .returned (.int .i64 (rdI c)) ∧ w = w' := by
  have HV : Hid (∀ v, (isD c → v = ((dv c : Nat) : Int)) → (¬ isD c → v = -1) → v = rdI c) := fun v h1 h2 => by
    unfold rdI
    by_cases h : isD c
    · rw [if_pos h]; exact h1 h
    · rw [if_neg h]; exact h2 h
  have e5 : decide ((c : Int) < 256) = true := by simp; omega
  by_cases h48 : 48 ≤ c
  · have e1 : decide ((48 : Int) ≤ (c : Int)) = true := by simp; omega
    by_cases h57 : c ≤ 57
    · have e2 : decide ((c : Int) ≤ 57) = true := by simp; omega
      have HD : Hid (isD c ∧ (c : Int) - 48 = ((dv c : Nat) : Int)) := ⟨.inl ⟨h48, h57⟩, by unfold dv; rw [if_pos h57]; omega⟩
      go_enter Tryd.func42, Tryd.ntmps42
      go_wp2_with fail
      first | go_ret | go_returns
      exact ⟨ret_int (HV.out _ (fun _ => HD.out.2) (fun h => absurd HD.out.1 h)), rfl⟩
    · have e2 : decide ((c : Int) ≤ 57) = false := by simp; omega
      by_cases h97 : 97 ≤ c
      · have e3 : decide ((97 : Int) ≤ (c : Int)) = true := by simp; omega
        by_cases h102 : c ≤ 102
        · have e4 : decide ((c : Int) ≤ 102) = true := by simp; omega
          have HD : Hid (isD c ∧ (c : Int) - 97 + 10 = ((dv c : Nat) : Int)) := ⟨.inr ⟨h97, h102⟩, by unfold dv; rw [if_neg h57]; omega⟩
          go_enter Tryd.func42, Tryd.ntmps42
          go_wp2_with fail
          first | go_ret | go_returns
          exact ⟨ret_int (HV.out _ (fun _ => HD.out.2) (fun h => absurd HD.out.1 h)), rfl⟩
        · have e4 : decide ((c : Int) ≤ 102) = false := by simp; omega
          have HD : Hid (¬ isD c) := fun h => by unfold isD at h; omega
          go_enter Tryd.func42, Tryd.ntmps42
          go_wp2_with fail
          first | go_ret | go_returns
          exact ⟨ret_int (HV.out _ (fun h => absurd h HD.out) (fun _ => rfl)), rfl⟩
      · have e3 : decide ((97 : Int) ≤ (c : Int)) = false := by simp; omega
        have HD : Hid (¬ isD c) := fun h => by unfold isD at h; omega
        go_enter Tryd.func42, Tryd.ntmps42
        go_wp2_with fail
        first | go_ret | go_returns
        exact ⟨ret_int (HV.out _ (fun h => absurd h HD.out) (fun _ => rfl)), rfl⟩
  · have e1 : decide ((48 : Int) ≤ (c : Int)) = false := by simp; omega
    have e3 : decide ((97 : Int) ≤ (c : Int)) = false := by simp; omega
    have HD : Hid (¬ isD c) := fun h => by unfold isD at h; omega
    go_enter Tryd.func42, Tryd.ntmps42
    go_wp2_with fail
    first | go_ret | go_returns
    exact ⟨ret_int (HV.out _ (fun h => absurd h HD.out) (fun _ => rfl)), rfl⟩
set_option maxRecDepth 100000 in
set_option maxHeartbeats 4000000 in
theorem inDigits_any (s : ByteArray) (w : World) (hs : s.size ≤ 100000) : Calls Tryd.prog 21 #[.string s] w fun e w' => e = .returned (.string (dgS s)) ∧ Below w.heap.size w w' := by
  unfold dgS
  by_cases h : s.size = 0
  · rw [if_pos h]
    have e1 := is_empty h
    go_enter Tryd.func21, Tryd.ntmps21
    go_wp2_with fail
    first | go_ret | go_returns
    exact ⟨rfl, Below.refl _ _⟩
  · rw [if_neg h]
    have e1 := not_empty h
    have H := hide (hex_any s w hs)
    go_enter Tryd.func21, Tryd.ntmps21
    go_wp2_with fail
    refine H.out.mono ?_
    rintro e w1 ⟨rfl, hb⟩
    have HB := hide hb
    clear hb
    go_wp2_with fail
    first | go_ret | go_returns
    exact ⟨rfl, HB.out⟩
theorem drewN_below (w : World) (n : Nat) : Below w.heap.size w (w.drewN n) := ⟨rfl, rfl, rfl, Nat.le_refl _, fun _ _ => rfl⟩
set_option maxRecDepth 100000 in
set_option maxHeartbeats 4000000 in
theorem refdigits_any (s : ByteArray) (w : World) (hs : s.size ≤ 100000) : Calls Tryd.prog 23 #[.string s] w fun e w' => e = .returned (.string (dgS s)) ∧ Below w.heap.size w w' := by
  unfold dgS
  by_cases h : s.size = 0
  · rw [if_pos h]
    have e1 := is_empty h
    go_enter Tryd.func23, Tryd.ntmps23
    go_wp2_with fail
    first | go_ret | go_returns
    exact ⟨rfl, Below.refl _ _⟩
  · rw [if_neg h]
    have e1 := not_empty h
    have H := hide (refHex_any s w hs)
    go_enter Tryd.func23, Tryd.ntmps23
    go_wp2_with fail
    refine H.out.mono ?_
    rintro e w1 ⟨rfl, n, rfl⟩
    go_wp2_with fail
    first | go_ret | go_returns
    exact ⟨rfl, drewN_below w n⟩
end Go.Proofs.YtgcjcojmhfkbjaaDoor
