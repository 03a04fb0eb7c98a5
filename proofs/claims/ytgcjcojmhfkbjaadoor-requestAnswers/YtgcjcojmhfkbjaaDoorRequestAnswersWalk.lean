/- RequestAnswers: of any answer with a Code that is not below 0 request.Answer answers what the document answers. (Written by gen15.py.) -/
import Derived.Test.YtgcjcojmhfkbjaaDoorRqLive
import Derived.Test.YtgcjcojmhfkbjaaDoorCameRq
import Derived.Test.YtgcjcojmhfkbjaaDoorRpSmall
import Derived.Lib.QuietBelow
namespace Go.Proofs.YtgcjcojmhfkbjaaDoor
open Go.RowKit
set_option linter.unusedVariables false
theorem rs_info : (Tryd.prog.info? 36).map (·.size) = some 3 := by kernel_rfl
set_option maxRecDepth 100000 in
set_option maxHeartbeats 16000000 in
theorem walkRequestAnswers (d : Int) (u : Value) (w : World) (hK : KD w) (hd : (Lit.int .i64 d).wf = true) (k : CameV 36 3 w u) : Calls Tryd.prog 6 #[.int .i64 d, u] w fun e w' => e = .returned (.bool true) ∧ Below w.heap.size w w' := by
  obtain ⟨c, v, a, p, L, rfl, ⟨_, hc63⟩, hv63, hL, hm, hna⟩ := rs_open k
  clear k
  have HKD := hide hK
  obtain ⟨n, hn⟩ : ∃ n, L.length = n := ⟨_, rfl⟩
  rw [hn] at hm ⊢
  have HNL := hide hn
  have HB0 : Hid (Below w.heap.size w (w.alloc (.cells #[.int .i64 c, .string v, .slice a n p] 36))) := (Below.refl _ _).alloc (Nat.le_refl _) _
  clear hK hd hn
  by_cases h0 : c < 0
  · have g0 : decide (c < 0) = true := by simpa using h0
    clear h0
    go_enter Tryd.func6, Tryd.ntmps6
    go_wp2_with fail
    refine (live_any _ (HKD.out.below HB0.out)).mono ?_
    rintro e9 W9 ⟨rfl, hb9⟩
    have HL9 := hide (HB0.out.trans (hb9.mono HB0.out.size))
    clear hb9
    go_wp2_with fail
    first | go_ret | go_returns
    exact ⟨rfl, HL9.out⟩
  have g0 : decide (c < 0) = false := by simpa using h0
  by_cases h2 : 1000 < v.size
  · have g1 : decide ((1000 : Int) < (v.size : Int)) = true := by simp; omega
    clear h0 h2
    go_enter Tryd.func6, Tryd.ntmps6
    go_wp2_with fail
    refine (live_any _ (HKD.out.below HB0.out)).mono ?_
    rintro e9 W9 ⟨rfl, hb9⟩
    have HL9 := hide (HB0.out.trans (hb9.mono HB0.out.size))
    clear hb9
    go_wp2_with fail
    first | go_ret | go_returns
    exact ⟨rfl, HL9.out⟩
  have g1 : decide ((1000 : Int) < (v.size : Int)) = false := by simp; omega
  obtain ⟨cn, rfl⟩ : ∃ cn : Nat, c = (cn : Int) := ⟨c.toNat, by omega⟩
  have HA0 : Hid ((w.alloc (.cells #[.int .i64 (cn : Int), .string v, .slice a n p] 36)).heap[w.heap.size]? = some (.cells #[.int .i64 (cn : Int), .string v, .slice a n p] 36 (0, 0))) := heap_alloc_new _ _
  have HS := hide (small_wide a n p 30 100 L (w.alloc (.cells #[.int .i64 (cn : Int), .string v, .slice a n p] 36)) HNL.out (by omega) (hL.below HB0.out))
  cases hsm : smallB L 30 100 with
  | false =>
    rw [hsm] at HS
    clear h0 h2 hsm
    go_enter Tryd.func6, Tryd.ntmps6
    go_wp2_with fail
    refine HS.out.mono ?_
    rintro e w1 ⟨rfl, rfl⟩
    go_wp2_with fail
    refine (live_any _ (HKD.out.below HB0.out)).mono ?_
    rintro e9 W9 ⟨rfl, hb9⟩
    have HL9 := hide (HB0.out.trans (hb9.mono HB0.out.size))
    clear hb9
    go_wp2_with fail
    first | go_ret | go_returns
    exact ⟨rfl, HL9.out⟩
  | true =>
    rw [hsm] at HS
    obtain ⟨hs1, hs2⟩ := small_iff.1 hsm
    have hs3 : ∀ s ∈ L, s.size ≤ 1000 := fun s hs => by have := hs1 s hs; omega
    have hnl : n ≤ 30 := by have := HNL.out; omega
    have P1 := hide (fun W (h : KD W) (q : StrsAt W a L) => answer_any d cn v a n p L W h (by omega) (by omega) HNL.out q (by omega) hna hs3)
    have P2 := hide (fun W (q : StrsAt W a L) => ranswer_any d cn v a n p L W (by omega) (by omega) HNL.out q (by omega) hs3)
    generalize anS d cn v L = S at *
    have HLW := hide (hL.below HB0.out)
    clear h0 h2 hsm hs1 hs2 hs3 hL
    go_enter Tryd.func6, Tryd.ntmps6
    go_wp2_with fail
    refine HS.out.mono ?_
    rintro e w1 ⟨rfl, rfl⟩
    go_upto_region 3 with fail
    generalize w.alloc (.cells #[.int .i64 (cn : Int), .string v, .slice a n p] 36) = W1 at *
    have e0 := cell_regrown (show W1.cell? ⟨w.heap.size, 0, none⟩ = some (.int .i64 (cn : Int)) from cell_of_block (i := 0) HA0.out)
    have e1 := cell_regrown (show W1.cell? ⟨w.heap.size, 1, none⟩ = some (.string v) from cell_of_block (i := 1) HA0.out)
    have e2 := cell_regrown (show W1.cell? ⟨w.heap.size, 2, none⟩ = some (.slice a n p) from cell_of_block (i := 2) HA0.out)
    have r0 : ∀ q os, Calls Tryd.prog 17 #[.int .i64 d, .agg #[.int .i64 (cn : Int), .string v, .slice a n p]] (Go.Sort.grow (redrawn W1 q) os) fun e w'' => e = .returned (.string S) ∧ ∃ p : Regrown, w'' = Go.Sort.grow (redrawn W1 p.d) p.os := fun q os => Calls.regrown_of (P1.out _ ((HKD.out.below HB0.out).below (below_regrown W1 q os)) (HLW.out.below (below_regrown W1 q os)))
    have r1 : ∀ q os, Calls Tryd.prog 18 #[.int .i64 d, .agg #[.int .i64 (cn : Int), .string v, .slice a n p]] (Go.Sort.grow (redrawn W1 q) os) fun e w'' => e = .returned (.string S) ∧ ∃ p : Regrown, w'' = Go.Sort.grow (redrawn W1 p.d) p.os := fun q os => Calls.regrown_of (P2.out _ (HLW.out.below (below_regrown W1 q os)))
    have r2 : ∀ q os, Calls Tryd.prog 9 #[] (Go.Sort.grow (redrawn W1 q) os) fun e w'' => e = .returned (.bool true) ∧ ∃ p : Regrown, w'' = Go.Sort.grow (redrawn W1 p.d) p.os := fun q os => Calls.regrown_of (live_any _ ((HKD.out.below HB0.out).below (below_regrown W1 q os)))
    refine wp_region_quiet_below (by kernel_rfl) (by kernel_rfl) ?_
    repeat (quiet_step (first | (with_reducible exact r0 _ _) | (with_reducible exact r1 _ _) | (with_reducible exact r2 _ _)))
    refine wpQuiet_nil ?_
    intro _ hw'
    obtain ⟨pq, hw''⟩ := hw'
    subst hw''
    have HQ := hide (HB0.out.trans ((below_regrown W1 pq.d pq.os).mono HB0.out.size))
    generalize Go.Sort.grow (redrawn W1 pq.d) pq.os = WQ at *
    clear e0 e1 e2 r0 r1 r2
    go_wp2_with fail
    first | go_ret | go_returns
    exact ⟨rfl, HQ.out⟩
end Go.Proofs.YtgcjcojmhfkbjaaDoor
