/- SpaceNil answers true at every input. -/
import Derived.Test.YthcpcdinjellcaaSpLive
import Derived.Test.YthcpcdinjellcaaCameV
namespace Go.Proofs.Ythcpcdinjellcaa
open Go.RowKit
set_option linter.unusedVariables false
set_option maxRecDepth 100000 in
set_option maxHeartbeats 2000000 in
theorem all_nil (a : Option Addr) (n c : Nat) (w : World) : Calls Try.prog 19 #[.pointer none, .slice a n c] w fun e w' => e = .returned (.tuple #[.slice none 0 0, .int .i64 1]) ∧ Below w.heap.size w w' := by
  have HB : Hid (Below w.heap.size w (w.alloc (.cells #[.pointer none] 24))) := (Below.refl _ _).alloc (Nat.le_refl _) _
  go_enter_defers Try.func19, Try.ntmps19
  go_wp2_with fail
  exact ⟨_, results_tmp2 rfl _ _ _, rfl, HB.out⟩
set_option maxRecDepth 100000 in
set_option maxHeartbeats 4000000 in
theorem nil_is (x y : Int) (w : World) : Calls Try.prog 6 #[.agg #[.int .i64 x, .int .i64 y]] w fun e w' => e = .returned (.bool true) ∧ Below w.heap.size w w' := by
  have HB : Hid (Below w.heap.size w (w.alloc (.cells #[.int .i64 x, .int .i64 y] 31))) := (Below.refl _ _).alloc (Nat.le_refl _) _
  have HL0 : Hid ((w.alloc (.cells #[.int .i64 x, .int .i64 y] 31)).heap[w.heap.size]? = some (.cells #[.int .i64 x, .int .i64 y] 31 (0, 0))) := heap_alloc_new _ _
  go_enter Try.func6, Try.ntmps6
  go_wp2_with fail
  refine (take_nil x _).mono ?_
  rintro e w1 ⟨rfl, hb1⟩
  have HB1 : Hid (Below w.heap.size w w1) := HB.out.trans (hb1.mono HB.out.size)
  have hl1 : w1.heap[w.heap.size]? = some (.cells #[.int .i64 x, .int .i64 y] 31 (0, 0)) := (hb1.block _ (lt_of_block HL0.out)).trans HL0.out
  have HL1 := hide hl1
  have k0 : w1.cell? ⟨w.heap.size, 0, none⟩ = some (.int .i64 x) := cell_of_block hl1
  clear hb1 hl1 HB HL0
  go_wp2_with fail
  refine (all_nil _ 1 1 _).mono ?_
  rintro e w2 ⟨rfl, hb2⟩
  have hal : Below w1.heap.size w1 (w1.alloc (.cells #[.int .i64 x] 3)) := (Below.refl _ _).alloc (Nat.le_refl _) _
  have hb2' : Below w1.heap.size w1 w2 := hal.trans (hb2.mono hal.size)
  have HB2 : Hid (Below w.heap.size w w2) := HB1.out.trans (hb2'.mono HB1.out.size)
  have hl2 : w2.heap[w.heap.size]? = some (.cells #[.int .i64 x, .int .i64 y] 31 (0, 0)) := (hb2'.block _ (lt_of_block HL1.out)).trans HL1.out
  have HL2 := hide hl2
  have m0 : w2.cell? ⟨w.heap.size, 0, none⟩ = some (.int .i64 x) := cell_of_block hl2
  have m1 : w2.cell? ⟨w.heap.size, 1, none⟩ = some (.int .i64 y) := cell_of_block hl2
  clear hb2 hb2' hl2 hal HB1 HL1 k0
  go_wp2_with fail
  refine (mark_nil x y _).mono ?_
  rintro e w3 ⟨rfl, hb3⟩
  have HB3 : Hid (Below w.heap.size w w3) := HB2.out.trans (hb3.mono HB2.out.size)
  have hl3 : w3.heap[w.heap.size]? = some (.cells #[.int .i64 x, .int .i64 y] 31 (0, 0)) := (hb3.block _ (lt_of_block HL2.out)).trans HL2.out
  have HL3 := hide hl3
  have m0 : w3.cell? ⟨w.heap.size, 0, none⟩ = some (.int .i64 x) := cell_of_block hl3
  have m1 : w3.cell? ⟨w.heap.size, 1, none⟩ = some (.int .i64 y) := cell_of_block hl3
  clear hb3 hl3 HB2 HL2
  go_wp2_with fail
  refine (give_nil x y _).mono ?_
  rintro e w4 ⟨rfl, hb4⟩
  have HB4 : Hid (Below w.heap.size w w4) := HB3.out.trans (hb4.mono HB3.out.size)
  have hl4 : w4.heap[w.heap.size]? = some (.cells #[.int .i64 x, .int .i64 y] 31 (0, 0)) := (hb4.block _ (lt_of_block HL3.out)).trans HL3.out
  have HL4 := hide hl4
  have m0 : w4.cell? ⟨w.heap.size, 0, none⟩ = some (.int .i64 x) := cell_of_block hl4
  have m1 : w4.cell? ⟨w.heap.size, 1, none⟩ = some (.int .i64 y) := cell_of_block hl4
  clear hb4 hl4 HB3 HL3
  go_wp2_with fail
  refine (taken_nil x y _).mono ?_
  rintro e w5 ⟨rfl, hb5⟩
  have HB5 : Hid (Below w.heap.size w w5) := HB4.out.trans (hb5.mono HB4.out.size)
  have hl5 : w5.heap[w.heap.size]? = some (.cells #[.int .i64 x, .int .i64 y] 31 (0, 0)) := (hb5.block _ (lt_of_block HL4.out)).trans HL4.out
  have m0 : w5.cell? ⟨w.heap.size, 0, none⟩ = some (.int .i64 x) := cell_of_block hl5
  clear hb5 hl5 HB4 HL4
  go_wp2_with fail
  refine (free_nil x _).mono ?_
  rintro e w6 ⟨rfl, hb6⟩
  have HB6 : Hid (Below w.heap.size w w6) := HB5.out.trans (hb6.mono HB5.out.size)
  clear hb6
  go_wp2_with fail
  refine (live_any _).mono ?_
  rintro e w7 ⟨rfl, hb7⟩
  have HB7 : Hid (Below w.heap.size w w7) := HB6.out.trans (hb7.mono HB6.out.size)
  clear hb7
  go_wp2_with fail
  try go_ret
  exact ⟨rfl, HB7.out⟩
theorem loc_val {w : World} {v : Value} (c : CameV 31 2 w v) : ∃ x y : Int, v = .agg #[.int .i64 x, .int .i64 y] := by
  obtain ⟨⟨cs, rfl, _⟩, H, enc, d, ps, fuel, hf⟩ := c
  obtain ⟨x, e⟩ := loc_open hf
  obtain ⟨l, rfl⟩ : ∃ l : List Value, cs = l.toArray := ⟨cs.toList, by simp⟩
  simp only [Value.cells] at e
  subst e
  exact ⟨x.1, x.2, rfl⟩
theorem walkSpaceNil (v : Value) (w : World) (h : CameV 31 2 w v) : Calls Try.prog 6 #[v] w fun e w' => e = .returned (.bool true) ∧ Below w.heap.size w w' := by
  obtain ⟨x, y, rfl⟩ := loc_val h
  exact nil_is x y w
end Go.Proofs.Ythcpcdinjellcaa
