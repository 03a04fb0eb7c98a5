/- DisksNil: for every input the law answers true. -/
import Derived.Test.YtnpioaidbmllkaaDkLaw
namespace Go.Proofs.Ytnpioaidbmllkaa
open Go.RowKit
set_option linter.unusedVariables false
set_option maxRecDepth 100000 in
set_option maxHeartbeats 4000000 in
theorem walkDisksNil (d n : Int) (s : ByteArray) (w : World) (hd : (Lit.int .i64 d).wf = true) (hn : (Lit.int .i64 n).wf = true) (hs : s.data.toList.length ≤ reachBytes) :
    Calls Try.prog 6 #[.int .i64 d, .int .i64 n, .string s] w fun e w' => e = .returned (.bool true) ∧ Below w.heap.size w w' := by
  clear hd hn hs
  go_enter Try.func6, Try.ntmps6
  go_wp2_with fail
  refine (read_nil d n w).mono ?_
  rintro e w1 ⟨rfl, rfl⟩
  go_wp2_with fail
  refine (write_nil d n s w).mono ?_
  rintro e w1 ⟨rfl, rfl⟩
  go_wp2_with fail
  refine (flush_nil d w).mono ?_
  rintro e w1 ⟨rfl, rfl⟩
  go_wp2_with fail
  refine (lose_nil d w).mono ?_
  rintro e w1 ⟨rfl, h1⟩
  have H1 := hide h1
  clear h1
  go_wp2_with fail
  refine (replace_nil d w1).mono ?_
  rintro e w2 ⟨rfl, h2⟩
  have H2 := hide (H1.out.trans (h2.mono H1.out.size))
  clear h2 H1
  go_wp2_with fail
  refine (spoilB_nil d n s w2).mono ?_
  rintro e w1 ⟨rfl, rfl⟩
  go_wp2_with fail
  refine (crash_nil none none 0 0 0 0 w2).mono ?_
  rintro e w3 ⟨rfl, h3⟩
  have H3 := hide (H2.out.trans (h3.mono H2.out.size))
  clear h3 H2
  go_wp2_with fail
  refine (waits_nil d w3).mono ?_
  rintro e w1 ⟨rfl, rfl⟩
  go_wp2_with fail
  refine (liveB_nil w3).mono ?_
  rintro e w4 ⟨v, rfl, hN, h4⟩
  obtain ⟨a9, c9, rfl⟩ := row_form hN
  have H4 := hide (H3.out.trans (h4.mono H3.out.size))
  clear h4 H3 hN
  rw [show ([] : List Nat).length = 0 from rfl]
  go_wp2_with fail
  refine (copy_nil w4).mono ?_
  rintro e w1 ⟨rfl, rfl⟩
  go_wp2_with fail
  refine (lawLive_any w4).mono ?_
  rintro e w5 ⟨rfl, h5⟩
  have H5 := hide (H4.out.trans (h5.mono H4.out.size))
  clear h5 H4
  go_wp2_with fail
  try go_ret
  exact ⟨rfl, H5.out⟩
end Go.Proofs.Ytnpioaidbmllkaa
