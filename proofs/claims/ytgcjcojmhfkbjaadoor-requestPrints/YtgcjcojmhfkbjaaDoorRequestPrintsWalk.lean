/- RequestPrints: of any request request.Print and request.Check answer what the document answers. (Written by gen15.py.) -/
import Derived.Test.YtgcjcojmhfkbjaaDoorRqLive
import Derived.Test.YtgcjcojmhfkbjaaDoorRqRefPrint
import Derived.Test.YtgcjcojmhfkbjaaDoorCameRq
import Derived.Lib.QuietBelow
namespace Go.Proofs.YtgcjcojmhfkbjaaDoor
open Go.RowKit
set_option linter.unusedVariables false
set_option maxRecDepth 100000 in
set_option maxHeartbeats 16000000 in
theorem walkRequestPrints (u : Value) (w : World) (hK : KD w) (c : CameV 23 3 w u) : Calls Tryd.prog 3 #[u] w fun e w' => e = .returned (.bool true) ∧ Below w.heap.size w w' := by
  obtain ⟨⟨d, k, v⟩, rfl, hk63, hv63⟩ := rq_open c
  clear c
  simp only [rqs] at hk63 hv63 ⊢
  have HKD := hide hK
  have HB0 : Hid (Below w.heap.size w (w.alloc (.cells #[.int .i64 d, .string k, .string v] 23))) := (Below.refl _ _).alloc (Nat.le_refl _) _
  have HA0 : Hid (RqB w.heap.size ⟨d, k, v⟩ (w.alloc (.cells #[.int .i64 d, .string k, .string v] 23))) := rqB_new ⟨d, k, v⟩ w
  clear hK
  by_cases h1 : 100 < k.size
  · have g0 : decide ((100 : Int) < (k.size : Int)) = true := by simp; omega
    clear h1
    go_enter Tryd.func3, Tryd.ntmps3
    go_wp2_with fail
    refine (live_any _ (HKD.out.below HB0.out)).mono ?_
    rintro e9 W9 ⟨rfl, hb9⟩
    have HL9 := hide (HB0.out.trans (hb9.mono HB0.out.size))
    clear hb9
    go_wp2_with fail
    first | go_ret | go_returns
    exact ⟨rfl, HL9.out⟩
  have g0 : decide ((100 : Int) < (k.size : Int)) = false := by simp; omega
  by_cases h2 : 1000 < v.size
  · have g1 : decide ((1000 : Int) < (v.size : Int)) = true := by simp; omega
    clear h1 h2
    go_enter Tryd.func3, Tryd.ntmps3
    go_wp2_with fail
    refine (live_any _ (HKD.out.below HB0.out)).mono ?_
    rintro e9 W9 ⟨rfl, hb9⟩
    have HL9 := hide (HB0.out.trans (hb9.mono HB0.out.size))
    clear hb9
    go_wp2_with fail
    first | go_ret | go_returns
    exact ⟨rfl, HL9.out⟩
  have g1 : decide ((1000 : Int) < (v.size : Int)) = false := by simp; omega
  have P1 := hide (fun W => print_any ⟨d, k, v⟩ W (by simp only; omega) (by simp only; omega))
  have P2 := hide (fun W => rprint_any ⟨d, k, v⟩ W (by simp only; omega) (by simp only; omega))
  have P3 := hide (fun W => qcheck_any ⟨d, k, v⟩ W (by simp only; omega) (by simp only; omega))
  have P4 := hide (fun W => qrcheck_any ⟨d, k, v⟩ W (by simp only; omega) (by simp only; omega))
  generalize prS ⟨d, k, v⟩ = S at *
  generalize rqE ⟨d, k, v⟩ = E at *
  simp only [rqs] at P1 P2 P3 P4
  clear h1 h2
  go_enter Tryd.func3, Tryd.ntmps3
  go_wp2_with fail
  refine (P1.out _).mono ?_
  rintro e w1 ⟨rfl, hb⟩
  have HA1 := hide (HA0.out.below hb)
  have HC1 := hide (HB0.out.trans (hb.mono HB0.out.size))
  clear hb
  go_wp2_with (first | (refine wpList_load_row rfl 23 (.tmp 1) rfl w.heap.size rfl 23 #[.int .i64 d, .string k, .string v] (0, 0) _ HA1.out Tryd.underlying23 rfl rq_info ?_))
  refine (P2.out _).mono ?_
  rintro e w2 ⟨rfl, hb⟩
  have HA2 := hide (HA1.out.below hb)
  have HC2 := hide (HC1.out.trans (hb.mono HC1.out.size))
  clear hb
  go_upto_region 5 with fail
  have e0 := cell_regrown HA2.out.c0
  have e1 := cell_regrown HA2.out.c1
  have e2 := cell_regrown HA2.out.c2
  simp only at e0 e1 e2
  have r0 : ∀ q os, Calls Tryd.prog 12 #[.agg #[.int .i64 d, .string k, .string v]] (Go.Sort.grow (redrawn w2 q) os) fun e w'' => e = .returned (.int .i64 E) ∧ ∃ p : Regrown, w'' = Go.Sort.grow (redrawn w2 p.d) p.os := fun q os => Calls.regrown_of (P3.out _)
  have r1 : ∀ q os, Calls Tryd.prog 13 #[.agg #[.int .i64 d, .string k, .string v]] (Go.Sort.grow (redrawn w2 q) os) fun e w'' => e = .returned (.int .i64 E) ∧ ∃ p : Regrown, w'' = Go.Sort.grow (redrawn w2 p.d) p.os := fun q os => Calls.regrown_of (P4.out _)
  have r2 : ∀ q os, Calls Tryd.prog 9 #[] (Go.Sort.grow (redrawn w2 q) os) fun e w'' => e = .returned (.bool true) ∧ ∃ p : Regrown, w'' = Go.Sort.grow (redrawn w2 p.d) p.os := fun q os => Calls.regrown_of (live_any _ ((HKD.out.below HC2.out).below (below_regrown w2 q os)))
  refine wp_region_quiet_below (by kernel_rfl) (by kernel_rfl) ?_
  repeat (quiet_step (first | (with_reducible exact r0 _ _) | (with_reducible exact r1 _ _) | (with_reducible exact r2 _ _)))
  refine wpQuiet_nil ?_
  intro _ hw'
  obtain ⟨pq, hw''⟩ := hw'
  subst hw''
  have HQ := hide (HC2.out.trans ((below_regrown w2 pq.d pq.os).mono HC2.out.size))
  generalize Go.Sort.grow (redrawn w2 pq.d) pq.os = WQ at *
  clear e0 e1 e2 r0 r1 r2
  go_wp2_with fail
  first | go_ret | go_returns
  exact ⟨rfl, HQ.out⟩
end Go.Proofs.YtgcjcojmhfkbjaaDoor
