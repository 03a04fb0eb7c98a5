/- RequestApart: two requests that may be have one line just if they are the same. (Written by gen15.py.) -/
import Derived.Test.YtgcjcojmhfkbjaaDoorRqLive
import Derived.Test.YtgcjcojmhfkbjaaDoorCameRq
import Derived.Test.YtgcjcojmhfkbjaaDoorRqLine
import Derived.Lib.QuietBelow
namespace Go.Proofs.YtgcjcojmhfkbjaaDoor
open Go.RowKit
set_option linter.unusedVariables false
set_option maxRecDepth 100000 in
set_option maxHeartbeats 16000000 in
theorem walkRequestApart (ua ub : Value) (w : World) (hK : KD w) (ca : CameV 23 3 w ua) (cb : CameV 23 3 w ub) : Calls Tryd.prog 7 #[ua, ub] w fun e w' => e = .returned (.bool true) ∧ Below w.heap.size w w' := by
  obtain ⟨⟨d, k, v⟩, rfl, hk63, hv63⟩ := rq_open ca
  obtain ⟨⟨d2, k2, v2⟩, rfl, hk64, hv64⟩ := rq_open cb
  clear ca cb
  simp only [rqs] at hk63 hv63 hk64 hv64 ⊢
  have HKD := hide hK
  have HA0 : Hid (RqB w.heap.size ⟨d, k, v⟩ ((w.alloc (.cells #[.int .i64 d, .string k, .string v] 23)).alloc (.cells #[.int .i64 d2, .string k2, .string v2] 23))) := (rqB_new ⟨d, k, v⟩ w).below ((Below.refl _ _).alloc (Nat.le_refl _) _)
  have HA1 : Hid (RqB (w.heap.size + 1) ⟨d2, k2, v2⟩ ((w.alloc (.cells #[.int .i64 d, .string k, .string v] 23)).alloc (.cells #[.int .i64 d2, .string k2, .string v2] 23))) := by
    have := rqB_new ⟨d2, k2, v2⟩ (w.alloc (.cells #[.int .i64 d, .string k, .string v] 23))
    rw [World.size_alloc] at this
    exact this
  have HB0 : Hid (Below w.heap.size w ((w.alloc (.cells #[.int .i64 d, .string k, .string v] 23)).alloc (.cells #[.int .i64 d2, .string k2, .string v2] 23))) := ((Below.refl _ _).alloc (Nat.le_refl _) _).alloc (by rw [World.size_alloc]; omega) _
  clear hK
  by_cases h0 : 100 < k.size
  · have g0 : decide ((100 : Int) < (k.size : Int)) = true := by simp; omega
    clear h0
    go_enter Tryd.func7, Tryd.ntmps7
    go_wp2_with fail
    refine (live_any _ (HKD.out.below HB0.out)).mono ?_
    rintro e9 W9 ⟨rfl, hb9⟩
    have HL9 := hide (HB0.out.trans (hb9.mono HB0.out.size))
    clear hb9
    go_wp2_with fail
    first | go_ret | go_returns
    exact ⟨rfl, HL9.out⟩
  have g0 : decide ((100 : Int) < (k.size : Int)) = false := by simp; omega
  by_cases h1 : 1000 < v.size
  · have g1 : decide ((1000 : Int) < (v.size : Int)) = true := by simp; omega
    clear h0 h1
    go_enter Tryd.func7, Tryd.ntmps7
    go_wp2_with fail
    refine (live_any _ (HKD.out.below HB0.out)).mono ?_
    rintro e9 W9 ⟨rfl, hb9⟩
    have HL9 := hide (HB0.out.trans (hb9.mono HB0.out.size))
    clear hb9
    go_wp2_with fail
    first | go_ret | go_returns
    exact ⟨rfl, HL9.out⟩
  have g1 : decide ((1000 : Int) < (v.size : Int)) = false := by simp; omega
  by_cases h2 : 100 < k2.size
  · have g2 : decide ((100 : Int) < (k2.size : Int)) = true := by simp; omega
    clear h0 h1 h2
    go_enter Tryd.func7, Tryd.ntmps7
    go_wp2_with fail
    refine (live_any _ (HKD.out.below HB0.out)).mono ?_
    rintro e9 W9 ⟨rfl, hb9⟩
    have HL9 := hide (HB0.out.trans (hb9.mono HB0.out.size))
    clear hb9
    go_wp2_with fail
    first | go_ret | go_returns
    exact ⟨rfl, HL9.out⟩
  have g2 : decide ((100 : Int) < (k2.size : Int)) = false := by simp; omega
  by_cases h3 : 1000 < v2.size
  · have g3 : decide ((1000 : Int) < (v2.size : Int)) = true := by simp; omega
    clear h0 h1 h2 h3
    go_enter Tryd.func7, Tryd.ntmps7
    go_wp2_with fail
    refine (live_any _ (HKD.out.below HB0.out)).mono ?_
    rintro e9 W9 ⟨rfl, hb9⟩
    have HL9 := hide (HB0.out.trans (hb9.mono HB0.out.size))
    clear hb9
    go_wp2_with fail
    first | go_ret | go_returns
    exact ⟨rfl, HL9.out⟩
  have g3 : decide ((1000 : Int) < (v2.size : Int)) = false := by simp; omega
  have P1 := hide (fun W => print_any ⟨d, k, v⟩ W (by simp only; omega) (by simp only; omega))
  have P2 := hide (fun W => print_any ⟨d2, k2, v2⟩ W (by simp only; omega) (by simp only; omega))
  simp only [rqs] at P1 P2
  clear h0 h1 h2 h3
  by_cases hea : rqE ⟨d, k, v⟩ = 0
  case neg =>
    have g5 : (rqE ⟨d, k, v⟩ != 0) = true := by simpa using hea
    clear hea
    generalize rqE ⟨d, k, v⟩ = E1 at *
    generalize rqE ⟨d2, k2, v2⟩ = E2 at *
    generalize prS ⟨d, k, v⟩ = S1 at *
    generalize prS ⟨d2, k2, v2⟩ = S2 at *
    go_enter Tryd.func7, Tryd.ntmps7
    go_wp2_with fail
    refine (P1.out _).mono ?_
    rintro e w1 ⟨rfl, hb⟩
    have HA2 := hide (HA1.out.below hb)
    have HC1 := hide (HB0.out.trans (hb.mono HB0.out.size))
    clear hb
    go_wp2_with (first | (refine wpList_load_row rfl 23 (.tmp 3) rfl (w.heap.size + 1) rfl 23 #[.int .i64 d2, .string k2, .string v2] (0, 0) _ HA2.out Tryd.underlying23 rfl rq_info ?_))
    refine (P2.out _).mono ?_
    rintro e w2 ⟨rfl, hb⟩
    have HC2 := hide (HC1.out.trans (hb.mono HC1.out.size))
    clear hb
    go_wp2_with fail
    refine (live_any _ (HKD.out.below HC2.out)).mono ?_
    rintro e9 W9 ⟨rfl, hb9⟩
    have HL9 := hide (HC2.out.trans (hb9.mono HC2.out.size))
    clear hb9
    go_wp2_with fail
    first | go_ret | go_returns
    exact ⟨rfl, HL9.out⟩
  by_cases heb : rqE ⟨d2, k2, v2⟩ = 0
  case neg =>
    have g5 : (rqE ⟨d2, k2, v2⟩ != 0) = true := by simpa using heb
    rw [hea] at P1
    clear hea heb
    generalize rqE ⟨d2, k2, v2⟩ = E2 at *
    generalize prS ⟨d, k, v⟩ = S1 at *
    generalize prS ⟨d2, k2, v2⟩ = S2 at *
    go_enter Tryd.func7, Tryd.ntmps7
    go_wp2_with fail
    refine (P1.out _).mono ?_
    rintro e w1 ⟨rfl, hb⟩
    have HA2 := hide (HA1.out.below hb)
    have HC1 := hide (HB0.out.trans (hb.mono HB0.out.size))
    clear hb
    go_wp2_with (first | (refine wpList_load_row rfl 23 (.tmp 3) rfl (w.heap.size + 1) rfl 23 #[.int .i64 d2, .string k2, .string v2] (0, 0) _ HA2.out Tryd.underlying23 rfl rq_info ?_))
    refine (P2.out _).mono ?_
    rintro e w2 ⟨rfl, hb⟩
    have HC2 := hide (HC1.out.trans (hb.mono HC1.out.size))
    clear hb
    go_wp2_with fail
    refine (live_any _ (HKD.out.below HC2.out)).mono ?_
    rintro e9 W9 ⟨rfl, hb9⟩
    have HL9 := hide (HC2.out.trans (hb9.mono HC2.out.size))
    clear hb9
    go_wp2_with fail
    first | go_ret | go_returns
    exact ⟨rfl, HL9.out⟩
  have hinj := line_inj hea heb
  have e1 : prS ⟨d, k, v⟩ = lineS ⟨d, k, v⟩ := by unfold prS; rw [if_pos hea]
  have e2 : prS ⟨d2, k2, v2⟩ = lineS ⟨d2, k2, v2⟩ := by unfold prS; rw [if_pos heb]
  rw [← e1, ← e2] at hinj
  have HCASE : Hid ((prS ⟨d, k, v⟩ = prS ⟨d2, k2, v2⟩ ∧ d = d2 ∧ k = k2 ∧ v = v2) ∨ (prS ⟨d, k, v⟩ ≠ prS ⟨d2, k2, v2⟩ ∧ ((d == d2) = false ∨ (d = d2 ∧ (k.toList == k2.toList) = false) ∨ (d = d2 ∧ k = k2 ∧ (v.toList == v2.toList) = false)))) := by
    by_cases q : prS ⟨d, k, v⟩ = prS ⟨d2, k2, v2⟩
    · obtain ⟨h1, h2, h3⟩ := Rq.mk.inj (hinj.1 q)
      exact .inl ⟨q, h1, h2, h3⟩
    · refine .inr ⟨q, ?_⟩
      have hne : ¬ (d = d2 ∧ k = k2 ∧ v = v2) := fun h => q (hinj.2 (by obtain ⟨rfl, rfl, rfl⟩ := h; rfl))
      by_cases q1 : d = d2
      · by_cases q2 : k = k2
        · exact .inr (.inr ⟨q1, q2, str_ne (fun q3 => hne ⟨q1, q2, q3⟩)⟩)
        · exact .inr (.inl ⟨q1, str_ne q2⟩)
      · exact .inl (by simpa using q1)
  rw [hea] at P1
  rw [heb] at P2
  clear hea heb hinj e1 e2
  generalize prS ⟨d, k, v⟩ = S1 at *
  generalize prS ⟨d2, k2, v2⟩ = S2 at *
  go_enter Tryd.func7, Tryd.ntmps7
  go_wp2_with fail
  refine (P1.out _).mono ?_
  rintro e w1 ⟨rfl, hb⟩
  have HA2 := hide (HA1.out.below hb)
  have HA3 := hide (HA0.out.below hb)
  have HC1 := hide (HB0.out.trans (hb.mono HB0.out.size))
  clear hb
  go_wp2_with (first | (refine wpList_load_row rfl 23 (.tmp 3) rfl (w.heap.size + 1) rfl 23 #[.int .i64 d2, .string k2, .string v2] (0, 0) _ HA2.out Tryd.underlying23 rfl rq_info ?_))
  refine (P2.out _).mono ?_
  rintro e w2 ⟨rfl, hb⟩
  have HA4 := hide (HA2.out.below hb)
  have HA5 := hide (HA3.out.below hb)
  have HC2 := hide (HC1.out.trans (hb.mono HC1.out.size))
  clear hb
  rcases HCASE.out with ⟨rfl, rfl, rfl, rfl⟩ | ⟨hS, hc⟩
  · have r1 := str_refl S1
    have r2 := str_refl k
    have r3 := str_refl v
    go_wp2_with (first | (refine wpList_load_row rfl 23 (.tmp 2) rfl w.heap.size rfl 23 #[.int .i64 d, .string k, .string v] (0, 0) _ HA5.out Tryd.underlying23 rfl rq_info ?_) | (refine wpList_load_row rfl 23 (.tmp 3) rfl (w.heap.size + 1) rfl 23 #[.int .i64 d, .string k, .string v] (0, 0) _ HA4.out Tryd.underlying23 rfl rq_info ?_))
    refine (live_any _ (HKD.out.below HC2.out)).mono ?_
    rintro e9 W9 ⟨rfl, hb9⟩
    have HL9 := hide (HC2.out.trans (hb9.mono HC2.out.size))
    clear hb9
    go_wp2_with fail
    first | go_ret | go_returns
    exact ⟨rfl, HL9.out⟩
  · have r1 := str_ne hS
    clear hS
    rcases hc with hc | ⟨rfl, hc⟩ | ⟨rfl, rfl, hc⟩
    · go_wp2_with (first | (refine wpList_load_row rfl 23 (.tmp 2) rfl w.heap.size rfl 23 #[.int .i64 d, .string k, .string v] (0, 0) _ HA5.out Tryd.underlying23 rfl rq_info ?_) | (refine wpList_load_row rfl 23 (.tmp 3) rfl (w.heap.size + 1) rfl 23 #[.int .i64 d2, .string k2, .string v2] (0, 0) _ HA4.out Tryd.underlying23 rfl rq_info ?_))
      refine (live_any _ (HKD.out.below HC2.out)).mono ?_
      rintro e9 W9 ⟨rfl, hb9⟩
      have HL9 := hide (HC2.out.trans (hb9.mono HC2.out.size))
      clear hb9
      go_wp2_with fail
      first | go_ret | go_returns
      exact ⟨rfl, HL9.out⟩
    · go_wp2_with (first | (refine wpList_load_row rfl 23 (.tmp 2) rfl w.heap.size rfl 23 #[.int .i64 d, .string k, .string v] (0, 0) _ HA5.out Tryd.underlying23 rfl rq_info ?_) | (refine wpList_load_row rfl 23 (.tmp 3) rfl (w.heap.size + 1) rfl 23 #[.int .i64 d, .string k2, .string v2] (0, 0) _ HA4.out Tryd.underlying23 rfl rq_info ?_))
      refine (live_any _ (HKD.out.below HC2.out)).mono ?_
      rintro e9 W9 ⟨rfl, hb9⟩
      have HL9 := hide (HC2.out.trans (hb9.mono HC2.out.size))
      clear hb9
      go_wp2_with fail
      first | go_ret | go_returns
      exact ⟨rfl, HL9.out⟩
    · have r2 := str_refl k
      go_wp2_with (first | (refine wpList_load_row rfl 23 (.tmp 2) rfl w.heap.size rfl 23 #[.int .i64 d, .string k, .string v] (0, 0) _ HA5.out Tryd.underlying23 rfl rq_info ?_) | (refine wpList_load_row rfl 23 (.tmp 3) rfl (w.heap.size + 1) rfl 23 #[.int .i64 d, .string k, .string v2] (0, 0) _ HA4.out Tryd.underlying23 rfl rq_info ?_))
      refine (live_any _ (HKD.out.below HC2.out)).mono ?_
      rintro e9 W9 ⟨rfl, hb9⟩
      have HL9 := hide (HC2.out.trans (hb9.mono HC2.out.size))
      clear hb9
      go_wp2_with fail
      first | go_ret | go_returns
      exact ⟨rfl, HL9.out⟩
end Go.Proofs.YtgcjcojmhfkbjaaDoor
