/- What the small functions of package sluicegateref02 answer: Small, one, Same, Factor; and slices.Equal. -/
import Derived.Test.YteiddjjakemklabCdSum
import Derived.Test.YteiddjjakemklabGfRef
import Derived.Deep.QuietTactic
import Derived.BigQuiet
namespace Go.Proofs.Yteiddjjakemklab
open Go.RowKit
theorem str_ne {s t : ByteArray} (h : s ≠ t) : (s.toList == t.toList) = false := by
  rw [beq_eq_false_iff_ne]
  intro e
  rw [ByteArray.toList_eq, ByteArray.toList_eq] at e
  exact h (ByteArray.ext (Array.toList_inj.1 e))
theorem drew2 (w : World) (a b : Nat) : ∃ m, (w.drewN a).drewN b = w.drewN m := ⟨a + b, World.drewN_drewN ..⟩
def smallB (l : List ByteArray) (many long : Int) : Bool := l.all (fun s => decide ((s.size : Int) ≤ long)) && decide ((l.length : Int) ≤ many)
theorem small_no {l : List ByteArray} {many long : Int} {k : Nat} {s : ByteArray} (hs : l[k]? = some s) (h : long < (s.size : Int)) : smallB l many long = false := by
  unfold smallB
  have : l.all (fun s => decide ((s.size : Int) ≤ long)) = false := by
    rw [List.all_eq_false]; exact ⟨s, List.mem_of_getElem? hs, by simpa using h⟩
  rw [this]; rfl
theorem small_end {l : List ByteArray} {many long : Int} (h : ∀ (i : Nat) (s : ByteArray), l[i]? = some s → (s.size : Int) ≤ long) : smallB l many long = decide ((l.length : Int) ≤ many) := by
  unfold smallB
  have : l.all (fun s => decide ((s.size : Int) ≤ long)) = true := by
    rw [List.all_eq_true]
    intro s hs
    obtain ⟨k, hk⟩ := List.mem_iff_getElem?.1 hs
    simpa using h k s hk
  rw [this]; rfl
theorem small_iff {l : List ByteArray} {many long : Int} : smallB l many long = true ↔ (∀ s ∈ l, (s.size : Int) ≤ long) ∧ (l.length : Int) ≤ many := by
  unfold smallB; simp [List.all_eq_true]
set_option maxRecDepth 100000 in
set_option maxHeartbeats 1000000 in
theorem small_any (a : Option Addr) (n cap : Nat) (many long : Int) (l : List ByteArray) (w : World) (hl : l.length = n) (hn : n ≤ 140737488355328) (hS : StrsAt w a l) :
    Calls Try.prog 11 #[.slice a n cap, .int .i64 many, .int .i64 long] w fun e w' => e = .returned (.bool (smallB l many long)) ∧ w = w' := by
  have HL := hide hl
  have HS := hide hS
  clear hl hS
  go_enter Try.func11, Try.ntmps11
  go_wp2_with fail
  go_loop [7] (fun y => ∃ k : Nat, k ≤ n ∧ y = .int .i64 k ∧ ∀ (i : Nat) (s : ByteArray), i < k → l[i]? = some s → (s.size : Int) ≤ long) (fun y => n - (intOf y).toNat)
  case atStart => exact ⟨0, by omega, rfl, fun _ _ h => by omega⟩
  case round =>
    obtain ⟨k, hk, rfl, hall⟩ := hrel
    have HA := hide hall
    clear hall
    by_cases hlt : k < n
    · obtain ⟨s, hs⟩ : ∃ s, l[k]? = some s := ⟨_, List.getElem?_eq_getElem (by have := HL.out; omega)⟩
      rcases HS.out with h | ⟨bs, o, rfl, hbs, hc⟩
      · rw [h] at hs; simp at hs
      have hck := hc k s hs
      have HK := hide hs
      clear hs hc
      by_cases he : long < (s.size : Int)
      · go_wp2_with fail
        go_ret
        exact ⟨ret_bool (small_no HK.out he).symm, rfl⟩
      · have he' : (s.size : Int) ≤ long := by omega
        clear he
        go_wp2_with fail
        go_round
        case rel => exact ⟨k + 1, by omega, by go_num, fun i t hi ht => by
          by_cases e : i = k
          · subst e; rw [HK.out] at ht; cases ht; exact he'
          · exact HA.out i t (by omega) ht⟩
        case measure => simp [intOf]; omega
    · go_wp2_with fail
      go_ret
      refine ⟨ret_bool ?_, rfl⟩
      rw [small_end fun i s hs => HA.out i s (by have := (List.getElem?_eq_some_iff.1 hs).1; have := HL.out; omega) hs, HL.out]
set_option maxRecDepth 100000 in
set_option maxHeartbeats 1000000 in
theorem one_any (a : Option Addr) (n cap : Nat) (l : List ByteArray) (w : World) (hl : l.length = n) (hn : n ≤ 1000000) (hS : StrsAt w a l) :
    Calls Try.prog 26 #[.slice a n cap] w fun e w' => e = .returned (.bool (al l)) ∧ ∃ m, w' = w.drewN m := by
  have HL := hide hl
  have HS := hide hS
  clear hl hS
  go_enter Try.func26, Try.ntmps26
  go_wp2_with fail
  go_loopw [3] (fun y wr => (∃ m, wr = w.drewN m) ∧ ∃ k : Nat, k ≤ n ∧ y = .int .i64 k ∧ ∀ (i : Nat) (s : ByteArray), i < k → l[i]? = some s → s.size = (l[0]?.getD ByteArray.empty).size) (fun y _ => n - (intOf y).toNat)
  case atStart => exact ⟨⟨0, rfl⟩, 0, by omega, rfl, fun _ _ h => by omega⟩
  case round =>
    obtain ⟨⟨m, rfl⟩, k, hk, rfl, hall⟩ := hrel
    have HA := hide hall
    clear hall
    by_cases hlt : k < n
    · obtain ⟨s, hs⟩ : ∃ s, l[k]? = some s := ⟨_, List.getElem?_eq_getElem (by have := HL.out; omega)⟩
      obtain ⟨s0, hs0⟩ : ∃ s, l[0]? = some s := ⟨_, List.getElem?_eq_getElem (by have := HL.out; omega)⟩
      rcases HS.out with h | ⟨bs, o, rfl, hbs, hc⟩
      · rw [h] at hs; simp at hs
      have hck := hc k s hs
      have hc0 : w.cell? ⟨bs, o, none⟩ = some (.string s0) := hc 0 s0 hs0
      have HK := hide hs
      have H0 := hide hs0
      clear hs hc hs0
      have hk0 : (0 : Int) ≤ (k : Int) := Int.natCast_nonneg _
      have hkn : (k : Int) < (n : Int) := by omega
      have h0n : (0 : Int) < (n : Int) := by omega
      by_cases he : s.size = s0.size
      · have hb : ((s.size : Int) != (s0.size : Int)) = false := by simp [he]
        have hb' : (s.size != s0.size) = false := by simp [he]
        have HE := hide he
        clear he
        go_wp2_with fail
        go_quiet (fail)
        go_wp2_with fail
        go_roundw
        case rel => exact ⟨⟨_, rfl⟩, k + 1, by omega, by go_num, fun i t hi ht => by
          by_cases e : i = k
          · subst e; rw [HK.out] at ht; cases ht; rw [H0.out]; exact HE.out
          · exact HA.out i t (by omega) ht⟩
        case measure => simp [intOf]; omega
      · have hb : ((s.size : Int) != (s0.size : Int)) = true := by simp; omega
        have hb' : (s.size != s0.size) = true := by simp [he]
        have HE := hide he
        clear he
        go_wp2_with fail
        go_quiet (fail)
        go_wp2_with fail
        go_ret
        exact ⟨ret_bool (al_no HK.out H0.out HE.out).symm, drew2 _ _ _⟩
    · go_wp2_with fail
      go_ret
      refine ⟨ret_bool ?_, _, rfl⟩
      symm
      rw [al_iff]
      intro s hs
      obtain ⟨i, hi⟩ := List.mem_iff_getElem?.1 hs
      exact HA.out i s (by have := (List.getElem?_eq_some_iff.1 hi).1; have := HL.out; omega) hi
theorem refFactor_any (i j : Nat) (w : World) (hi : i < 9) (hj : j < 6) :
    Calls Try.prog 10 #[.int .i64 (i : Int), .int .i64 (j : Int)] w fun e w' => e = .returned (.int .u8 (Cd.fac i j : Nat)) ∧ w = w' := by
  by_cases h6 : i < 6
  · by_cases he : i = j
    · subst he
      have HF : Hid (Cd.fac i i = 1) := by unfold Cd.fac Hid; rw [if_pos h6, if_pos rfl]
      go_enter Try.func10, Try.ntmps10
      go_wp2
      go_ret
      exact ⟨ret_int (by rw [HF.out]; rfl), rfl⟩
    · have HF : Hid (Cd.fac i j = 0) := by unfold Cd.fac Hid; rw [if_pos h6, if_neg he]
      have h1 : ((i : Int) == (j : Int)) = false := by simp; omega
      have h2 : (i == j) = false := by simp; omega
      clear he
      go_enter Try.func10, Try.ntmps10
      go_wp2
      go_ret
      exact ⟨ret_int (by rw [HF.out]; rfl), rfl⟩
  · have hx := Cd.xor_small hi hj
    have hp := Cd.xor_pos hi hj (by omega)
    have e := i64_xor_nat i j (by omega) (by omega)
    have HF : Hid (Gf.over 1 (i ^^^ j) = Cd.fac i j) := by unfold Cd.fac Hid; rw [if_neg (by omega)]
    go_enter Try.func10, Try.ntmps10
    go_wp2_with fail
    refine (refOver_any 1 (i ^^^ j) _ (by decide) hp hx).mono ?_
    rintro e w' ⟨he, rfl⟩
    rw [HF.out] at he; subst he
    go_wp2_with fail
    go_ret
    exact ⟨rfl, rfl⟩
def sameFrom (l m : List ByteArray) (k : Nat) : Prop := ∀ (i : Nat), i < k → l[i]? = m[i]?
theorem same_list {l m : List ByteArray} (hl : l.length = m.length) (h : sameFrom l m l.length) : l = m := by
  apply List.ext_getElem?
  intro i
  by_cases hi : i < l.length
  · exact h i hi
  · rw [List.getElem?_eq_none (by omega), List.getElem?_eq_none (by omega)]
set_option maxRecDepth 100000 in
set_option maxHeartbeats 1000000 in
theorem equal_any (a1 a2 : Option Addr) (n1 n2 c1 c2 : Nat) (l m : List ByteArray) (w : World) (hl : l.length = n1) (hm : m.length = n2) (hn1 : n1 ≤ 1000000) (hn2 : n2 ≤ 1000000) (hS1 : StrsAt w a1 l) (hS2 : StrsAt w a2 m) :
    Calls Try.prog 28 #[.slice a1 n1 c1, .slice a2 n2 c2] w fun e w' => e = .returned (.bool (decide (l = m))) ∧ ∃ m, w' = w.drewN m := by
  by_cases hne : n1 = n2
  · subst hne
    have HL := hide hl
    have HM := hide hm
    have HS1 := hide hS1
    have HS2 := hide hS2
    clear hl hm hS1 hS2
    go_enter Try.func28, Try.ntmps28
    go_wp2_with fail
    go_loopw [13] (fun y wr => (∃ q, wr = w.drewN q) ∧ ∃ k : Nat, k ≤ n1 ∧ y = .int .i64 k ∧ sameFrom l m k) (fun y _ => n1 - (intOf y).toNat)
    case atStart => exact ⟨⟨0, rfl⟩, 0, by omega, rfl, fun _ h => by omega⟩
    case round =>
      obtain ⟨⟨q, rfl⟩, k, hk, rfl, hall⟩ := hrel
      have HA := hide hall
      clear hall
      by_cases hlt : k < n1
      · obtain ⟨s, hs⟩ : ∃ s, l[k]? = some s := ⟨_, List.getElem?_eq_getElem (by have := HL.out; omega)⟩
        obtain ⟨t, ht⟩ : ∃ s, m[k]? = some s := ⟨_, List.getElem?_eq_getElem (by have := HM.out; omega)⟩
        rcases HS1.out with h | ⟨b1, o1, rfl, hb1, hc1⟩
        · rw [h] at hs; simp at hs
        rcases HS2.out with h | ⟨b2, o2, rfl, hb2, hc2⟩
        · rw [h] at ht; simp at ht
        have hk1 := hc1 k s hs
        have hk2 := hc2 k t ht
        have HK := hide hs
        have H0 := hide ht
        clear hs hc1 ht hc2
        have hk0 : (0 : Int) ≤ (k : Int) := Int.natCast_nonneg _
        have hkn : (k : Int) < (n1 : Int) := by omega
        by_cases he : s = t
        · subst he
          go_wp2_with fail
          go_quiet (fail)
          go_wp2_with fail
          go_roundw
          case rel => exact ⟨by first | exact ⟨_, rfl⟩ | exact drew2 _ _ _, k + 1, by omega, by go_num, fun i hi => by
            by_cases e : i = k
            · subst e; rw [HK.out, H0.out]
            · exact HA.out i (by omega)⟩
          case measure => simp [intOf]; omega
        · have hb : (s.toList == t.toList) = false := str_ne he
          have HE := hide he
          clear he
          go_wp2_with fail
          go_quiet (fail)
          go_wp2_with fail
          go_ret
          refine ⟨ret_bool ?_, drew2 _ _ _⟩
          have : l ≠ m := fun e => HE.out (by have h1 := HK.out; have h2 := H0.out; rw [e, h2] at h1; cases h1; rfl)
          simp [this]
      · go_wp2_with fail
        go_ret
        refine ⟨ret_bool ?_, _, rfl⟩
        have : l = m := same_list (by rw [HL.out, HM.out]) (fun i hi => HA.out i (by have := HL.out; omega))
        simp [this]
  · have hb : ((n1 : Int) != (n2 : Int)) = true := by simp; omega
    have hb' : (n1 != n2) = true := by simp; omega
    have HF : Hid (decide (l = m) = false) := by
      unfold Hid; simp; rintro rfl; omega
    clear hne hl hm
    go_enter Try.func28, Try.ntmps28
    go_wp2_with fail
    go_ret
    exact ⟨ret_bool HF.out.symm, 0, rfl⟩
set_option maxRecDepth 100000 in
set_option maxHeartbeats 1000000 in
theorem same_any (a1 a2 : Option Addr) (n1 n2 c1 c2 : Nat) (l m : List ByteArray) (w : World) (hl : l.length = n1) (hm : m.length = n2) (hn1 : n1 ≤ 1000000) (hn2 : n2 ≤ 1000000) (hS1 : StrsAt w a1 l) (hS2 : StrsAt w a2 m) :
    Calls Try.prog 14 #[.slice a1 n1 c1, .slice a2 n2 c2] w fun e w' => e = .returned (.bool (decide (l = m))) ∧ ∃ m, w' = w.drewN m := by
  by_cases hne : n1 = n2
  · subst hne
    have HL := hide hl
    have HM := hide hm
    have HS1 := hide hS1
    have HS2 := hide hS2
    clear hl hm hS1 hS2
    go_enter Try.func14, Try.ntmps14
    go_wp2_with fail
    go_loopw [5] (fun y wr => (∃ q, wr = w.drewN q) ∧ ∃ k : Nat, k ≤ n1 ∧ y = .int .i64 k ∧ sameFrom l m k) (fun y _ => n1 - (intOf y).toNat)
    case atStart => exact ⟨⟨0, rfl⟩, 0, by omega, rfl, fun _ h => by omega⟩
    case round =>
      obtain ⟨⟨q, rfl⟩, k, hk, rfl, hall⟩ := hrel
      have HA := hide hall
      clear hall
      by_cases hlt : k < n1
      · obtain ⟨s, hs⟩ : ∃ s, l[k]? = some s := ⟨_, List.getElem?_eq_getElem (by have := HL.out; omega)⟩
        obtain ⟨t, ht⟩ : ∃ s, m[k]? = some s := ⟨_, List.getElem?_eq_getElem (by have := HM.out; omega)⟩
        rcases HS1.out with h | ⟨b1, o1, rfl, hb1, hc1⟩
        · rw [h] at hs; simp at hs
        rcases HS2.out with h | ⟨b2, o2, rfl, hb2, hc2⟩
        · rw [h] at ht; simp at ht
        have hk1 := hc1 k s hs
        have hk2 := hc2 k t ht
        have HK := hide hs
        have H0 := hide ht
        clear hs hc1 ht hc2
        have hk0 : (0 : Int) ≤ (k : Int) := Int.natCast_nonneg _
        have hkn : (k : Int) < (n1 : Int) := by omega
        by_cases he : s = t
        · subst he
          go_wp2_with fail
          go_quiet (fail)
          go_wp2_with fail
          go_roundw
          case rel => exact ⟨by first | exact ⟨_, rfl⟩ | exact drew2 _ _ _, k + 1, by omega, by go_num, fun i hi => by
            by_cases e : i = k
            · subst e; rw [HK.out, H0.out]
            · exact HA.out i (by omega)⟩
          case measure => simp [intOf]; omega
        · have hb : (s.toList == t.toList) = false := str_ne he
          have HE := hide he
          clear he
          go_wp2_with fail
          go_quiet (fail)
          go_wp2_with fail
          go_ret
          refine ⟨ret_bool ?_, drew2 _ _ _⟩
          have : l ≠ m := fun e => HE.out (by have h1 := HK.out; have h2 := H0.out; rw [e, h2] at h1; cases h1; rfl)
          simp [this]
      · go_wp2_with fail
        go_ret
        refine ⟨ret_bool ?_, _, rfl⟩
        have : l = m := same_list (by rw [HL.out, HM.out]) (fun i hi => HA.out i (by have := HL.out; omega))
        simp [this]
  · have hb : ((n1 : Int) != (n2 : Int)) = true := by simp; omega
    have hb' : (n1 != n2) = true := by simp; omega
    have HF : Hid (decide (l = m) = false) := by
      unfold Hid; simp; rintro rfl; omega
    clear hne hl hm
    go_enter Try.func14, Try.ntmps14
    go_wp2_with fail
    go_ret
    exact ⟨ret_bool HF.out.symm, 0, rfl⟩
end Go.Proofs.Yteiddjjakemklab
