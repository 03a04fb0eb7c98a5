/- What the document's Small of a slice of strings answers; two lists of numbers that are the same. -/
import Derived.Test.YtgcjcojmhfkbjaaDoorRow
import Derived.Deep.QuietTactic
import Derived.BigQuiet
namespace Go.Proofs.YtgcjcojmhfkbjaaDoor
open Go.RowKit
set_option linter.unusedVariables false
def smallB (l : List ByteArray) (many long : Int) : Bool := l.all (fun s => decide ((s.size : Int) ≤ long)) && decide ((l.length : Int) ≤ many)
theorem small_no {l : List ByteArray} {many long : Int} {k : Nat} {s : ByteArray} (hs : l[k]? = some s) (h : long < (s.size : Int)) : smallB l many long = false := by
  unfold smallB
  have : l.all (fun s => decide ((s.size : Int) ≤ long)) = false := by
    rw [List.all_eq_false]; exact ⟨s, List.mem_of_getElem? hs, by simpa using h⟩
  rw [this]; rfl
theorem small_end {l : List ByteArray} {many long : Int} (h : ∀ (i : Nat) (s : ByteArray), l[i]? = some s → (s.size : Int) ≤ long) : smallB l many long = decide ((l.length : Int) ≤ many) := by
  unfold smallB
  have : l.all (fun s => decide ((s.size : Int) ≤ long)) = true := by
    rw [List.all_eq_true]
    intro s hs
    obtain ⟨k, hk⟩ := List.mem_iff_getElem?.1 hs
    simpa using h k s hk
  rw [this]; rfl
theorem small_iff {l : List ByteArray} {many long : Int} : smallB l many long = true ↔ (∀ s ∈ l, (s.size : Int) ≤ long) ∧ (l.length : Int) ≤ many := by
  unfold smallB; simp [List.all_eq_true]
set_option maxRecDepth 100000 in
set_option maxHeartbeats 1000000 in
theorem small_wide (a : Option Addr) (n cap : Nat) (many long : Int) (l : List ByteArray) (w : World) (hl : l.length = n) (hn : n ≤ 9223372036854775807) (hS : StrsAt w a l) :
    Calls Tryd.prog 16 #[.slice a n cap, .int .i64 many, .int .i64 long] w fun e w' => e = .returned (.bool (smallB l many long)) ∧ w = w' := by
  have HL := hide hl
  have HS := hide hS
  clear hl hS
  go_enter Tryd.func16, Tryd.ntmps16
  go_wp2_with fail
  go_loop [7] (fun y => ∃ k : Nat, k ≤ n ∧ y = .int .i64 k ∧ ∀ (i : Nat) (s : ByteArray), i < k → l[i]? = some s → (s.size : Int) ≤ long) (fun y => n - (intOf y).toNat)
  case atStart => exact ⟨0, by omega, rfl, fun _ _ h => by omega⟩
  case round =>
    obtain ⟨k, hk, rfl, hall⟩ := hrel
    have HA := hide hall
    clear hall
    by_cases hlt : k < n
    · obtain ⟨s, hs⟩ : ∃ s, l[k]? = some s := ⟨_, List.getElem?_eq_getElem (by have := HL.out; omega)⟩
      rcases HS.out with h | ⟨bs, o, rfl, hbs, hc⟩
      · rw [h] at hs; simp at hs
      have hck := hc k s hs
      have HK := hide hs
      clear hs hc
      by_cases he : long < (s.size : Int)
      · go_wp2_with fail
        go_ret
        exact ⟨ret_bool (small_no HK.out he).symm, rfl⟩
      · have he' : (s.size : Int) ≤ long := by omega
        clear he
        go_wp2_with fail
        go_round
        case rel => exact ⟨k + 1, by omega, by go_num, fun i t hi ht => by
          by_cases e : i = k
          · subst e; rw [HK.out] at ht; cases ht; exact he'
          · exact HA.out i t (by omega) ht⟩
        case measure => simp [intOf]; omega
    · go_wp2_with fail
      go_ret
      refine ⟨ret_bool ?_, rfl⟩
      rw [small_end fun i s hs => HA.out i s (by have := (List.getElem?_eq_some_iff.1 hs).1; have := HL.out; omega) hs, HL.out]
end Go.Proofs.YtgcjcojmhfkbjaaDoor
