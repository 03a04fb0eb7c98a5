/- The law PackApart returns true at every input, and writes nothing that was there. -/
import Derived.Test.YtjjdfmgmomndlaaPkLive
namespace Go.Proofs.Ytjjdfmgmomndlaa
open Go.RowKit
/-- which of two ways a begin is told -/
def Tells (X Y : ByteArray) (v : Bool) : Prop := (X.size ≤ Y.size ∧ ((Y.extract 0 X.size).toList == X.toList) = v) ∨ (Y.size < X.size ∧ v = false)
theorem tells_num {n m : Nat} (hn : n < 72057594037927936) (hm : m < 72057594037927936) : Tells (numS n) (numS m) ((n : Int) == (m : Int)) := by
  by_cases e : n = m
  · subst e
    left
    refine ⟨Nat.le_refl _, ?_⟩
    rw [ext_all]; simp
  · have e' : ((n : Int) == (m : Int)) = false := by simp; omega
    rw [e']
    by_cases c : (numS n).size ≤ (numS m).size
    · exact .inl ⟨c, str_ne fun h => e (num_begin hn hm c h)⟩
    · exact .inr ⟨by omega, rfl⟩
theorem tells_text {a b : ByteArray} (ha : a.size < 72057594037927936) (hb : b.size < 72057594037927936) : Tells (textS a) (textS b) (a.toList == b.toList) := by
  by_cases e : a = b
  · subst e
    left
    refine ⟨Nat.le_refl _, ?_⟩
    rw [ext_all]; simp
  · rw [str_ne e]
    by_cases c : (textS a).size ≤ (textS b).size
    · exact .inl ⟨c, str_ne fun h => e (text_begin ha hb c h)⟩
    · exact .inr ⟨by omega, rfl⟩
set_option maxRecDepth 100000 in
set_option maxHeartbeats 4000000 in
theorem walkPackApart (n m : Int) (a b : ByteArray) (w : World) (w2 : a.size ≤ maxLen) (w3 : b.size ≤ maxLen) :
    Calls Try.prog 9 #[.agg #[.int .i64 n, .int .i64 m, .string a, .string b]] w fun e w' => e = .returned (.bool true) ∧ Below w.heap.size w w' := by
  have ha : a.size ≤ 9223372036854775807 := w2
  have hb : b.size ≤ 9223372036854775807 := w3
  clear w2 w3
  have HAL : Hid (Below w.heap.size w (w.alloc (.cells #[.int .i64 n, .int .i64 m, .string a, .string b] 43)).drew) := ((Below.refl _ _).alloc (Nat.le_refl _) _).drew
  by_cases hbig : n < 0 ∨ m < 0 ∨ 72057594037927935 < n ∨ 72057594037927935 < m ∨ 1000 < a.size ∨ 1000 < b.size
  · have key : (n < 0) ∨ (¬ n < 0 ∧ m < 0) ∨ (¬ n < 0 ∧ ¬ m < 0 ∧ 72057594037927935 < n) ∨ (¬ n < 0 ∧ ¬ m < 0 ∧ ¬ 72057594037927935 < n ∧ 72057594037927935 < m) ∨ (¬ n < 0 ∧ ¬ m < 0 ∧ ¬ 72057594037927935 < n ∧ ¬ 72057594037927935 < m ∧ 1000 < a.size) ∨ (¬ n < 0 ∧ ¬ m < 0 ∧ ¬ 72057594037927935 < n ∧ ¬ 72057594037927935 < m ∧ ¬ 1000 < a.size ∧ 1000 < b.size) := by omega
    clear hbig
    rcases key with c | ⟨c1, c⟩ | ⟨c1, c2, c⟩ | ⟨c1, c2, c3, c⟩ | ⟨c1, c2, c3, c4, c⟩ | ⟨c1, c2, c3, c4, c5, c⟩
    all_goals
      go_enter Try.func9, Try.ntmps9
      go_wp2_with fail
      go_region
      go_wp2_with fail
      refine (live_any _).mono ?_
      rintro e w1 ⟨rfl, hb⟩
      have HB := hide (HAL.out.trans (hb.mono HAL.out.size))
      clear hb
      go_wp2_with fail
      go_ret
      exact ⟨rfl, HB.out⟩
  · obtain ⟨k, rfl⟩ : ∃ k : Nat, n = (k : Int) := ⟨n.toNat, by omega⟩
    obtain ⟨j, rfl⟩ : ∃ j : Nat, m = (j : Int) := ⟨m.toNat, by omega⟩
    have hk : k < 72057594037927936 := by omega
    have hj : j < 72057594037927936 := by omega
    have ha1 : a.size ≤ 1000 := by omega
    have hb1 : b.size ≤ 1000 := by omega
    have h0 : decide ((k : Int) < 0) = false := by simp
    have h1 : ¬ (72057594037927935 < (k : Int)) := by omega
    have h2 : decide ((j : Int) < 0) = false := by simp
    have h3 : ¬ (72057594037927935 < (j : Int)) := by omega
    clear hbig ha hb
    have t1 := tells_num hk hj
    have t2 := tells_text (a := a) (b := b) (by omega) (by omega)
    have hz1 : (numS k).size ≤ 8 := by rw [numS_size]; exact nlen_top hk
    have hz2 : (numS j).size ≤ 8 := by rw [numS_size]; exact nlen_top hj
    have hz3 : (textS a).size ≤ 1008 := by unfold textS; rw [ByteArray.size_append, numS_size]; have := nlen_top (n := a.size) (by omega); omega
    have hz4 : (textS b).size ≤ 1008 := by unfold textS; rw [ByteArray.size_append, numS_size]; have := nlen_top (n := b.size) (by omega); omega
    have N1 : Hid (∀ w, Calls Try.prog 11 #[.int .i64 (k : Int)] w fun e w' => e = .returned (.string (numS k)) ∧ Below w.heap.size w w') := fun w => number_nat k w hk
    have N2 : Hid (∀ w, Calls Try.prog 11 #[.int .i64 (j : Int)] w fun e w' => e = .returned (.string (numS j)) ∧ Below w.heap.size w w') := fun w => number_nat j w hj
    have T1 : Hid (∀ w, Calls Try.prog 13 #[.string a] w fun e w' => e = .returned (.string (textS a)) ∧ Below w.heap.size w w') := fun w => text_any a w (by omega)
    have T2 : Hid (∀ w, Calls Try.prog 13 #[.string b] w fun e w' => e = .returned (.string (textS b)) ∧ Below w.heap.size w w') := fun w => text_any b w (by omega)
    generalize numS k = X at *
    generalize numS j = Y at *
    generalize textS a = S at *
    generalize textS b = T at *
    generalize hv1 : ((k : Int) == (j : Int)) = v1 at *
    generalize hv2 : (a.toList == b.toList) = v2 at *
    rcases t1 with ⟨p1, p2⟩ | ⟨p1, rfl⟩
    all_goals rcases t2 with ⟨q1, q2⟩ | ⟨q1, rfl⟩
    all_goals
      go_enter Try.func9, Try.ntmps9
      go_wp2_with fail
      go_region
      go_wp2_with fail
      refine (N1.out _).mono ?_
      rintro e w1 ⟨rfl, hb⟩
      have HB1 := hide (HAL.out.trans (hb.mono HAL.out.size))
      clear hb
      go_wp2_with fail
      refine (N2.out _).mono ?_
      rintro e w2 ⟨rfl, hb⟩
      have HB2 := hide (HB1.out.trans (hb.mono HB1.out.size))
      clear hb
      go_wp2_with fail
      refine (T1.out _).mono ?_
      rintro e w3 ⟨rfl, hb⟩
      have HB3 := hide (HB2.out.trans (hb.mono HB2.out.size))
      clear hb
      go_wp2_with fail
      refine (T2.out _).mono ?_
      rintro e w4 ⟨rfl, hb⟩
      have HB4 := hide (HB3.out.trans (hb.mono HB3.out.size))
      clear hb
      go_wp2_with fail
      refine (live_any _).mono ?_
      rintro e w5 ⟨rfl, hb⟩
      have HB5 := hide (HB4.out.trans (hb.mono HB4.out.size))
      clear hb
      go_wp2_with fail
      go_ret
      exact ⟨rfl, HB5.out⟩
end Go.Proofs.Ytjjdfmgmomndlaa
