/- What needle.isKey and needle.textSize answer; the reference's Key. -/
import Derived.Test.YtomcdajoeakhdaaDoorNeMath
import Derived.Test.YtomcdajoeakhdaaDoorPkReader
namespace Go.Proofs.YtomcdajoeakhdaaDoor
open Go.RowKit
set_option linter.unusedVariables false
open Classical in
noncomputable def kOk (k : ByteArray) : Bool := decide (keyOk k)
open Classical in
theorem kOk_no {k : ByteArray} (h : ¬ keyOk k) : false = kOk k := by unfold kOk; rw [decide_eq_false h]
open Classical in
theorem kOk_yes {k : ByteArray} (h : keyOk k) : true = kOk k := by unfold kOk; rw [decide_eq_true h]
theorem is_empty {s : ByteArray} (h : s.size = 0) : s.toList.isEmpty = true := by rw [size_zero h, ByteArray.toList_eq]; rfl
set_option maxRecDepth 100000 in
set_option maxHeartbeats 2000000 in
theorem isKey_any (k : ByteArray) (w : World) (hk63 : k.size ≤ 9223372036854775807) : Calls Tryd.prog 31 #[.string k] w fun r w' => r = .returned (.bool (kOk k)) ∧ w = w' := by
  by_cases h0 : k.size = 0
  · have he := is_empty h0
    have hno : Hid (¬ keyOk k) := fun h => by have := h.1; omega
    go_enter Tryd.func31, Tryd.ntmps31
    go_wp2_with fail
    try go_ret
    exact ⟨ret_bool (kOk_no hno.out), rfl⟩
  have he := not_empty h0
  by_cases h32 : 32 < k.size
  · have hno : Hid (¬ keyOk k) := fun h => by have := h.2.1; omega
    have hd : decide ((32 : Int) < (k.size : Int)) = true := by simp; omega
    go_enter Tryd.func31, Tryd.ntmps31
    go_wp2_with fail
    try go_ret
    exact ⟨ret_bool (kOk_no hno.out), rfl⟩
  have hd : decide ((32 : Int) < (k.size : Int)) = false := by simp; omega
  go_enter Tryd.func31, Tryd.ntmps31
  go_wp2_with fail
  go_loop [13] (fun y => ∃ j : Nat, j ≤ k.size ∧ y = .int .i64 j ∧ ∀ p, p < j → 33 ≤ bt k p ∧ bt k p ≤ 126) (fun y => k.size - (intOf y).toNat)
  case atStart => exact ⟨0, by omega, rfl, fun p hp => by omega⟩
  case round =>
    obtain ⟨j, hj, rfl, hok⟩ := hrel
    have HOK := hide hok
    clear hok
    by_cases hz : j < k.size
    · have hdj : decide ((j : Int) < (k.size : Int)) = true := by simp; omega
      have hb : (j : Int) < k.size := by omega
      have HB := hide (bt_eq hz)
      generalize hcc : (k[j]'hz).toNat = c at *
      by_cases h33 : c < 33
      · have hd2 : decide ((c : Int) < 33) = true := by simp; omega
        have hno : Hid (¬ keyOk k) := fun h => by have := (h.2.2 j hz).1; rw [← HB.out] at this; omega
        go_wp2_with fail
        try go_ret
        exact ⟨ret_bool (kOk_no hno.out), rfl⟩
      · have hd2 : decide ((c : Int) < 33) = false := by simp; omega
        by_cases h126 : 126 < c
        · have hd3 : decide ((126 : Int) < (c : Int)) = true := by simp; omega
          have hno : Hid (¬ keyOk k) := fun h => by have := (h.2.2 j hz).2; rw [← HB.out] at this; omega
          go_wp2_with fail
          try go_ret
          exact ⟨ret_bool (kOk_no hno.out), rfl⟩
        · have hd3 : decide ((126 : Int) < (c : Int)) = false := by simp; omega
          have HN : Hid (∀ p, p < j + 1 → 33 ≤ bt k p ∧ bt k p ≤ 126) := fun p hp => by
            by_cases e : p = j
            · rw [e, ← HB.out]; omega
            · exact HOK.out p (by omega)
          go_wp2_with fail
          exact ⟨⟨j + 1, by omega, by go_num, HN.out⟩, by simp [intOf]; omega⟩
    · have hdj : decide ((j : Int) < (k.size : Int)) = false := by simp; omega
      have hyes : Hid (keyOk k) := ⟨by omega, by omega, fun p hp => HOK.out p (by omega)⟩
      go_wp2_with fail
      try go_ret
      exact ⟨ret_bool (kOk_yes hyes.out), rfl⟩
set_option maxRecDepth 100000 in
set_option maxHeartbeats 2000000 in
theorem refKey_any (k : ByteArray) (w : World) (hk63 : k.size ≤ 9223372036854775807) : Calls Tryd.prog 33 #[.string k] w fun r w' => r = .returned (.bool (kOk k)) ∧ w = w' := by
  go_enter Tryd.func33, Tryd.ntmps33
  go_wp2_with fail
  go_loop [3] (fun y => ∃ j : Nat, j ≤ k.size ∧ y = .int .i64 j ∧ ∀ p, p < j → 33 ≤ bt k p ∧ bt k p ≤ 126) (fun y => k.size - (intOf y).toNat)
  case atStart => exact ⟨0, by omega, rfl, fun p hp => by omega⟩
  case round =>
    obtain ⟨j, hj, rfl, hok⟩ := hrel
    have HOK := hide hok
    clear hok
    by_cases hz : j < k.size
    · have hdj : decide ((j : Int) < (k.size : Int)) = true := by simp; omega
      have hb : (j : Int) < k.size := by omega
      have HB := hide (bt_eq hz)
      generalize hcc : (k[j]'hz).toNat = c at *
      by_cases h33 : c < 33
      · have hd2 : decide ((c : Int) < 33) = true := by simp; omega
        have hno : Hid (¬ keyOk k) := fun h => by have := (h.2.2 j hz).1; rw [← HB.out] at this; omega
        go_wp2_with fail
        try go_ret
        exact ⟨ret_bool (kOk_no hno.out), rfl⟩
      · have hd2 : decide ((c : Int) < 33) = false := by simp; omega
        by_cases h126 : 126 < c
        · have hd3 : decide ((126 : Int) < (c : Int)) = true := by simp; omega
          have hno : Hid (¬ keyOk k) := fun h => by have := (h.2.2 j hz).2; rw [← HB.out] at this; omega
          go_wp2_with fail
          try go_ret
          exact ⟨ret_bool (kOk_no hno.out), rfl⟩
        · have hd3 : decide ((126 : Int) < (c : Int)) = false := by simp; omega
          have HN : Hid (∀ p, p < j + 1 → 33 ≤ bt k p ∧ bt k p ≤ 126) := fun p hp => by
            by_cases e : p = j
            · rw [e, ← HB.out]; omega
            · exact HOK.out p (by omega)
          go_wp2_with fail
          exact ⟨⟨j + 1, by omega, by go_num, HN.out⟩, by simp [intOf]; omega⟩
    · have hdj : decide ((j : Int) < (k.size : Int)) = false := by simp; omega
      by_cases h1 : 1 ≤ k.size
      · have hd4 : decide ((1 : Int) ≤ (k.size : Int)) = true := by simp; omega
        by_cases h32 : k.size ≤ 32
        · have hd5 : decide ((k.size : Int) ≤ 32) = true := by simp; omega
          have hyes : Hid (keyOk k) := ⟨by omega, by omega, fun p hp => HOK.out p (by omega)⟩
          go_wp2_with fail
          try go_ret
          exact ⟨ret_bool (kOk_yes hyes.out), rfl⟩
        · have hd5 : decide ((k.size : Int) ≤ 32) = false := by simp; omega
          have hno : Hid (¬ keyOk k) := fun h => by have := h.2.1; omega
          go_wp2_with fail
          try go_ret
          exact ⟨ret_bool (kOk_no hno.out), rfl⟩
      · have hd4 : decide ((1 : Int) ≤ (k.size : Int)) = false := by simp; omega
        have hno : Hid (¬ keyOk k) := fun h => by have := h.1; omega
        go_wp2_with fail
        try go_ret
        exact ⟨ret_bool (kOk_no hno.out), rfl⟩
set_option maxRecDepth 100000 in
set_option maxHeartbeats 2000000 in
theorem textSize_any (s : ByteArray) (w : World) (hs : s.size ≤ 1000000) : Calls Tryd.prog 50 #[.string s] w fun r w' => r = .returned (.int .i64 ((textS s).size : Nat)) ∧ Below w.heap.size w w' := by
  have HT : Hid ((((numS s.size).size : Nat) : Int) + ((s.size : Nat) : Int) = (((textS s).size : Nat) : Int)) := by show _ = _; unfold textS; rw [ByteArray.size_append]; omega
  have hz := numS_size s.size
  have hz8 := nlen_top (n := s.size) (by omega)
  rw [← hz] at hz8
  clear hz
  go_enter Tryd.func50, Tryd.ntmps50
  go_wp2_with fail
  refine (number_nat s.size w (by omega)).mono ?_
  rintro e w1 ⟨rfl, hb1⟩
  have HB1 := hide hb1
  clear hb1
  generalize numS s.size = N at *
  go_wp2_with fail
  try go_ret
  exact ⟨ret_int HT.out, HB1.out⟩
end Go.Proofs.YtomcdajoeakhdaaDoor
