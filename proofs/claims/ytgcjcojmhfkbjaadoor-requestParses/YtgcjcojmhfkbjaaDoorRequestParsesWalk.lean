/- RequestParses: of any line request.Parse answers what the document answers. (Written by gen15.py.) -/
import Derived.Test.YtgcjcojmhfkbjaaDoorRqLive
import Derived.Test.YtgcjcojmhfkbjaaDoorRqRefParse
import Derived.Lib.QuietBelow
namespace Go.Proofs.YtgcjcojmhfkbjaaDoor
open Go.RowKit
set_option linter.unusedVariables false
set_option maxRecDepth 100000 in
set_option maxHeartbeats 16000000 in
theorem walkRequestParses (s : ByteArray) (w : World) (hK : KD w) (hs : s.data.toList.length ≤ reachBytes) : Calls Tryd.prog 4 #[.string s] w fun e w' => e = .returned (.bool true) ∧ Below w.heap.size w w' := by
  have HKD := hide hK
  have HB0 : Hid (Below w.heap.size w w) := Below.refl _ _
  clear hK hs
  by_cases h2 : 2000 < s.size
  · have g0 : decide ((2000 : Int) < (s.size : Int)) = true := by simp; omega
    clear h2
    go_enter Tryd.func4, Tryd.ntmps4
    go_wp2_with fail
    refine (live_any _ (HKD.out.below HB0.out)).mono ?_
    rintro e9 W9 ⟨rfl, hb9⟩
    have HL9 := hide (HB0.out.trans (hb9.mono HB0.out.size))
    clear hb9
    go_wp2_with fail
    first | go_ret | go_returns
    exact ⟨rfl, HL9.out⟩
  have g0 : decide ((2000 : Int) < (s.size : Int)) = false := by simp; omega
  have P1 := hide (fun W (h : KD W) => parse_any s W h (by omega))
  have P2 := hide (fun W => rparse_any s W (by omega))
  generalize paR s = R at *
  generalize paE s = E at *
  obtain ⟨d, k, v⟩ := R
  simp only [rqV, rqs] at P1 P2
  clear h2
  go_enter Tryd.func4, Tryd.ntmps4
  go_wp2_with fail
  refine (P1.out _ HKD.out).mono ?_
  rintro e w1 ⟨rfl, hb⟩
  have HA1 : Hid (RqB w1.heap.size ⟨d, k, v⟩ (w1.alloc (.cells #[.int .i64 d, .string k, .string v] 23))) := rqB_new ⟨d, k, v⟩ w1
  have HC1 : Hid (Below w.heap.size w (w1.alloc (.cells #[.int .i64 d, .string k, .string v] 23))) := hb.alloc hb.size _
  clear hb
  go_wp2_with fail
  refine (P2.out _).mono ?_
  rintro e w2 ⟨rfl, hb⟩
  have HA2 := hide (HA1.out.below (hb.trans (((Below.refl _ _).alloc (Nat.le_refl _) (.cells #[.int .i64 d, .string k, .string v] 23)).mono hb.size)))
  have HR2 : Hid (RqB w2.heap.size ⟨d, k, v⟩ (w2.alloc (.cells #[.int .i64 d, .string k, .string v] 23))) := rqB_new ⟨d, k, v⟩ w2
  have HC2 := hide (HC1.out.trans ((hb.trans (((Below.refl _ _).alloc (Nat.le_refl _) (.cells #[.int .i64 d, .string k, .string v] 23)).mono hb.size)).mono HC1.out.size))
  clear hb HA1 HC1
  generalize w1.heap.size = b1 at *
  go_wp2_with (first | (refine wpList_load_row rfl 23 (.tmp 3) rfl b1 rfl 23 #[.int .i64 d, .string k, .string v] (0, 0) _ HA2.out Tryd.underlying23 rfl rq_info ?_) | (refine wpList_load_row rfl 23 (.tmp 5) rfl w2.heap.size rfl 23 #[.int .i64 d, .string k, .string v] (0, 0) _ HR2.out Tryd.underlying23 rfl rq_info ?_))
  refine (live_any _ (HKD.out.below HC2.out)).mono ?_
  rintro e9 W9 ⟨rfl, hb9⟩
  have HL9 := hide (HC2.out.trans (hb9.mono HC2.out.size))
  clear hb9
  go_wp2_with fail
  first | go_ret | go_returns
  exact ⟨rfl, HL9.out⟩
end Go.Proofs.YtgcjcojmhfkbjaaDoor
