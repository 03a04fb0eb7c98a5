/- The law PinsNil, walked. -/
import Derived.Test.YtghcekhlohgkaaaPnLive
import Derived.Test.YtghcekhlohgkaaaCamePn
namespace Go.Proofs.Ytghcekhlohgkaaa
open Go.RowKit
set_option linter.unusedVariables false
set_option maxRecDepth 100000 in
set_option maxHeartbeats 8000000 in
theorem walkPinsNil (v : Value) (w : World) (hv : CameV 33 4 w v) : Calls Try.prog 6 #[v] w fun e w' => e = .returned (.bool true) ∧ Below w.heap.size w w' := by
  obtain ⟨x, a, c, rfl, -, -, -⟩ := vo_open hv
  clear hv
  obtain ⟨n, hn⟩ : ∃ n, x.ls.length = n := ⟨_, rfl⟩
  rw [hn]
  clear hn
  obtain ⟨i, g, q, -⟩ := x
  simp only
  have hb1 : Below w.heap.size w (w.alloc (.cells #[.int .i64 i, .int .i64 g, .int .i64 q, .slice a n c] 33)) := (Below.refl _ _).alloc (Nat.le_refl _) _
  have hk1 : (w.alloc (.cells #[.int .i64 i, .int .i64 g, .int .i64 q, .slice a n c] 33)).heap[w.heap.size]? = some (.cells #[.int .i64 i, .int .i64 g, .int .i64 q, .slice a n c] 33 (0, 0)) := heap_alloc_new _ _
  have HB1 := hide hb1
  have HK1 := hide hk1
  clear hb1 hk1
  go_enter Try.func6, Try.ntmps6
  go_wp2_with fail
  refine (nil_calls i g (.int .i64 0) #[] _).1.mono ?_
  rintro e w1 ⟨rfl, rfl⟩
  go_wp2_with fail
  refine (nil_calls i g (.int .i64 0) #[] _).2.1.mono ?_
  rintro e w1 ⟨rfl, rfl⟩
  go_wp2_with fail
  refine (nil_retire i g q (.slice a n c) _).mono ?_
  rintro e w2 ⟨rfl, hb2⟩
  have hk2 := (hb2.block _ (lt_of_block HK1.out)).trans HK1.out
  have HB2 := hide (HB1.out.trans (hb2.mono HB1.out.size))
  have e0 : w2.cell? ⟨w.heap.size, 0, none⟩ = some (.int .i64 i) := cell_of_block hk2
  have e1 : w2.cell? ⟨w.heap.size, 1, none⟩ = some (.int .i64 g) := cell_of_block hk2
  clear hb2 hk2
  go_wp2_with fail
  refine (nil_calls i g (.int .i64 0) #[] _).2.2.1.mono ?_
  rintro e w1 ⟨rfl, rfl⟩
  go_wp2_with fail
  refine (nil_calls i g (.int .i64 0) #[] _).2.2.2.1.mono ?_
  rintro e w1 ⟨rfl, rfl⟩
  go_wp2_with fail
  refine (nil_calls i g (.int .i64 0) #[] _).2.2.2.2.mono ?_
  rintro e w1 ⟨rfl, rfl⟩
  go_wp2_with fail
  refine (live_any _).mono ?_
  rintro e w3 ⟨rfl, hb3⟩
  have HB3 := hide (HB2.out.trans (hb3.mono HB2.out.size))
  clear hb3
  go_wp2_with fail
  try go_ret
  exact ⟨rfl, HB3.out⟩
end Go.Proofs.Ytghcekhlohgkaaa
