/- What the document's Same of two answers tells that are alike. -/
import Derived.Test.YtlpibpkbgmcclaaDoorMdMem
import Derived.Deep.QuietTactic
import Derived.BigQuiet
namespace Go.Proofs.YtlpibpkbgmcclaaDoor
open Go.RowKit
set_option linter.unusedVariables false
set_option maxRecDepth 100000 in
set_option maxHeartbeats 8000000 in
theorem keys_same (a1 a2 : Option Addr) (c1 c2 n : Nat) (l : List ByteArray) (w : World) (hl : l.length = n) (h63 : n ≤ 1000000) (h1 : StrsAt w a1 l) (h2 : StrsAt w a2 l) : Calls Tryd.prog 24 #[.slice a1 n c1, .slice a2 n c2] w fun e w' => e = .returned (.bool true) ∧ Below w.heap.size w w' := by
  have HL := hide hl
  have H1 := hide h1
  have H2 := hide h2
  clear hl h1 h2
  go_enter Tryd.func24, Tryd.ntmps24
  go_wp2_with fail
  go_loopw [5] (fun y wr => ∃ k : Nat, k ≤ n ∧ y = .int .i64 k ∧ Below w.heap.size w wr) (fun y _ => n - (intOf y).toNat)
  case atStart => exact ⟨0, by omega, rfl, Below.refl _ _⟩
  case round =>
    obtain ⟨k, hk, rfl, hbl⟩ := hrel
    have HB := hide hbl
    clear hbl
    by_cases hlt : k < n
    · have hd : decide ((k : Int) < (n : Int)) = true := by simp; omega
      have hdi : (k : Int) < (n : Int) := by omega
      have hd0 : (0 : Int) ≤ (k : Int) := by omega
      obtain ⟨x, hx⟩ : ∃ x, l[k]? = some x := ⟨_, List.getElem?_eq_getElem (by have := HL.out; omega)⟩
      rcases H1.out with q | ⟨b1, o1, rfl, hb1, hc1⟩
      · have := HL.out; rw [q] at this; simp at this; omega
      rcases H2.out with q | ⟨b2, o2, rfl, hb2, hc2⟩
      · have := HL.out; rw [q] at this; simp at this; omega
      have HC1 := hide hc1
      have HC2 := hide hc2
      clear hc1 hc2
      have e1 := (HB.out.cell (p := ⟨b1, o1 + k, none⟩) hb1).trans (HC1.out k x hx)
      have e2 := (HB.out.cell (p := ⟨b2, o2 + k, none⟩) hb2).trans (HC2.out k x hx)
      clear hx
      go_wp2_with fail
      go_quiet (fail)
      go_wp2_with fail
      all_goals first | exact ⟨⟨k + 1, by omega, by go_num, drawn_below HB.out _⟩, by simp [intOf]; omega⟩ | exact ⟨⟨k + 1, by omega, by go_num, HB.out⟩, by simp [intOf]; omega⟩
    · have hd : decide ((k : Int) < (n : Int)) = false := by simp; omega
      go_wp2_with fail
      try go_ret
      exact ⟨rfl, HB.out⟩
set_option maxRecDepth 100000 in
set_option maxHeartbeats 8000000 in
theorem rs_same (c : Int) (v : ByteArray) (a1 a2 : Option Addr) (c1 c2 n : Nat) (l : List ByteArray) (w : World) (hl : l.length = n) (h63 : n ≤ 1000000) (h1 : StrsAt w a1 l) (h2 : StrsAt w a2 l) : Calls Tryd.prog 13 #[.agg (rsC c v a1 n c1), .agg (rsC c v a2 n c2)] w fun e w' => e = .returned (.bool true) ∧ Below w.heap.size w w' := by
  have HB : Hid (Below w.heap.size w ((w.alloc (.cells #[.int .i64 c, .string v, .slice a1 n c1] 32)).alloc (.cells #[.int .i64 c, .string v, .slice a2 n c2] 32))) := ((Below.refl _ _).alloc (Nat.le_refl _) _).alloc (by rw [World.size_alloc]; omega) _
  have HS : Hid (∀ W, Below w.heap.size w W → Calls Tryd.prog 24 #[.slice a1 n c1, .slice a2 n c2] W fun e w' => e = .returned (.bool true) ∧ Below W.heap.size W w') := fun W hb => keys_same a1 a2 c1 c2 n l W hl h63 (h1.below hb) (h2.below hb)
  clear h1 h2 hl
  simp only [rsC]
  go_enter Tryd.func13, Tryd.ntmps13
  go_wp2_with fail
  refine (HS.out _ HB.out).mono ?_
  rintro e w1 ⟨rfl, hb⟩
  have HB1 := hide (HB.out.trans (hb.mono HB.out.size))
  clear hb
  go_wp2_with fail
  try go_ret
  exact ⟨rfl, HB1.out⟩
end Go.Proofs.YtlpibpkbgmcclaaDoor
