/- RequestBack: what is printed is parsed as it was; what is parsed is printed as it was. (Written by gen15.py.) -/
import Derived.Test.YtgcjcojmhfkbjaaDoorRqLive
import Derived.Test.YtgcjcojmhfkbjaaDoorCameRq
import Derived.Test.YtgcjcojmhfkbjaaDoorRqLine
import Derived.Lib.QuietBelow
namespace Go.Proofs.YtgcjcojmhfkbjaaDoor
open Go.RowKit
set_option linter.unusedVariables false
set_option maxRecDepth 100000 in
set_option maxHeartbeats 16000000 in
theorem walkRequestBack (u : Value) (s : ByteArray) (w : World) (hK : KD w) (c : CameV 23 3 w u) (hs : s.data.toList.length ≤ reachBytes) : Calls Tryd.prog 5 #[u, .string s] w fun e w' => e = .returned (.bool true) ∧ Below w.heap.size w w' := by
  obtain ⟨⟨d, k, v⟩, rfl, hk63, hv63⟩ := rq_open c
  clear c hs
  simp only [rqs] at hk63 hv63 ⊢
  have HKD := hide hK
  have HB0 : Hid (Below w.heap.size w (w.alloc (.cells #[.int .i64 d, .string k, .string v] 23))) := (Below.refl _ _).alloc (Nat.le_refl _) _
  have HA0 : Hid (RqB w.heap.size ⟨d, k, v⟩ (w.alloc (.cells #[.int .i64 d, .string k, .string v] 23))) := rqB_new ⟨d, k, v⟩ w
  clear hK
  by_cases h1 : 100 < k.size
  · have g0 : decide ((100 : Int) < (k.size : Int)) = true := by simp; omega
    clear h1
    go_enter Tryd.func5, Tryd.ntmps5
    go_wp2_with fail
    refine (live_any _ (HKD.out.below HB0.out)).mono ?_
    rintro e9 W9 ⟨rfl, hb9⟩
    have HL9 := hide (HB0.out.trans (hb9.mono HB0.out.size))
    clear hb9
    go_wp2_with fail
    first | go_ret | go_returns
    exact ⟨rfl, HL9.out⟩
  have g0 : decide ((100 : Int) < (k.size : Int)) = false := by simp; omega
  by_cases h2 : 1000 < v.size
  · have g1 : decide ((1000 : Int) < (v.size : Int)) = true := by simp; omega
    clear h1 h2
    go_enter Tryd.func5, Tryd.ntmps5
    go_wp2_with fail
    refine (live_any _ (HKD.out.below HB0.out)).mono ?_
    rintro e9 W9 ⟨rfl, hb9⟩
    have HL9 := hide (HB0.out.trans (hb9.mono HB0.out.size))
    clear hb9
    go_wp2_with fail
    first | go_ret | go_returns
    exact ⟨rfl, HL9.out⟩
  have g1 : decide ((1000 : Int) < (v.size : Int)) = false := by simp; omega
  by_cases h3 : 2000 < s.size
  · have g2 : decide ((2000 : Int) < (s.size : Int)) = true := by simp; omega
    clear h1 h2 h3
    go_enter Tryd.func5, Tryd.ntmps5
    go_wp2_with fail
    refine (live_any _ (HKD.out.below HB0.out)).mono ?_
    rintro e9 W9 ⟨rfl, hb9⟩
    have HL9 := hide (HB0.out.trans (hb9.mono HB0.out.size))
    clear hb9
    go_wp2_with fail
    first | go_ret | go_returns
    exact ⟨rfl, HL9.out⟩
  have g2 : decide ((2000 : Int) < (s.size : Int)) = false := by simp; omega
  have P1 := hide (fun W => print_any ⟨d, k, v⟩ W (by simp only; omega) (by simp only; omega))
  have HPS : Hid (∀ W, KD W → Calls Tryd.prog 14 #[.string s] W fun e w' => e = .returned (rqV (paR s) (paE s)) ∧ Below W.heap.size W w') := fun W h => parse_any s W h (by omega)
  have HSZ : Hid (s.size ≤ 2000) := by show _ ≤ _; omega
  have HPL : Hid (rqE ⟨d, k, v⟩ = 0 → (∀ W, KD W → Calls Tryd.prog 14 #[.string (prS ⟨d, k, v⟩)] W fun e w' => e = .returned (.tuple #[.agg #[.int .i64 d, .string k, .string v], .int .i64 0]) ∧ Below W.heap.size W w')) := fun he W h => by
    have e1 : prS ⟨d, k, v⟩ = lineS ⟨d, k, v⟩ := by unfold prS; rw [if_pos he]
    have hz : (lineS ⟨d, k, v⟩).size ≤ 100000 := by have := lineS_le d k v; omega
    have := parse_any (lineS ⟨d, k, v⟩) W h hz
    rw [(pa_line he).1, (pa_line he).2, ← e1] at this
    exact this
  -- the second half: a line is parsed, and printed
  have HSE : Hid (∀ (W : World), True) := fun _ => trivial
  have hk5 := str_refl k
  have hv5 := str_refl v
  clear h1 h2 h3
  go_enter Tryd.func5, Tryd.ntmps5
  go_wp2_with fail
  refine (P1.out _).mono ?_
  rintro e w1 ⟨rfl, hb⟩
  have HA1 := hide (HA0.out.below hb)
  have HC1 := hide (HB0.out.trans (hb.mono HB0.out.size))
  clear hb P1
  by_cases he : rqE ⟨d, k, v⟩ = 0
  · have PL := hide (HPL.out he)
    rw [he]
    clear HPL he
    generalize prS ⟨d, k, v⟩ = S at *
    go_wp2_with fail
    refine (PL.out _ (HKD.out.below HC1.out)).mono ?_
    rintro e w2 ⟨rfl, hb⟩
    have HA2 := hide (HA1.out.below (hb.trans (((Below.refl _ _).alloc (Nat.le_refl _) (.cells #[.int .i64 d, .string k, .string v] 23)).mono hb.size)))
    have HR2 : Hid (RqB w2.heap.size ⟨d, k, v⟩ (w2.alloc (.cells #[.int .i64 d, .string k, .string v] 23))) := rqB_new ⟨d, k, v⟩ w2
    have HC2 := hide (HC1.out.trans ((hb.trans (((Below.refl _ _).alloc (Nat.le_refl _) (.cells #[.int .i64 d, .string k, .string v] 23)).mono hb.size)).mono HC1.out.size))
    clear hb HA1 HC1
    go_wp2_with (first | (refine wpList_load_row rfl 23 (.tmp 2) rfl w.heap.size rfl 23 #[.int .i64 d, .string k, .string v] (0, 0) _ HA2.out Tryd.underlying23 rfl rq_info ?_) | (refine wpList_load_row rfl 23 (.tmp 7) rfl w2.heap.size rfl 23 #[.int .i64 d, .string k, .string v] (0, 0) _ HR2.out Tryd.underlying23 rfl rq_info ?_))
    refine (HPS.out _ (HKD.out.below HC2.out)).mono ?_
    rintro e w5 ⟨rfl, hb⟩
    have HC5 := hide (HC2.out.trans (hb.mono HC2.out.size))
    clear hb
    have HPB := hide (fun h => pa_back (s := s) h)
    have HPE := hide (fun h => pa_err (s := s) h)
    generalize hR : paR s = R at *
    obtain ⟨d2, k2, v2⟩ := R
    by_cases hpe : paE s = 0
    · obtain ⟨hl, hr⟩ := HPB.out hpe
      have g6 : ((0 : Int) != 0) = false := by decide
      rw [hpe]
      have hps : prS ⟨d2, k2, v2⟩ = s := by unfold prS; rw [if_pos hr]; exact hl
      have hok := rqE_ok hr
      have hkv : k2.size ≤ 2000 ∧ v2.size ≤ 10000 := by
        have hz : (lineS ⟨d2, k2, v2⟩).size ≤ 2000 := by rw [hl]; exact HSZ.out
        have hge := lineS_ge d2 k2 v2
        have e0 := hok.2.2.1
        simp only at e0
        rcases e0 with q | q
        · have := hge.2 q; omega
        · omega
      have P9 := hide (fun W => print_any ⟨d2, k2, v2⟩ W (by have := hkv.1; simp only; omega) hkv.2)
      rw [hps, hr] at P9
      have hss := str_refl s
      simp only [rqs] at P9
      clear hl hr hps hok hkv HPB HPE hpe hR
      have HA6 : Hid (RqB w5.heap.size ⟨d2, k2, v2⟩ (w5.alloc (.cells #[.int .i64 d2, .string k2, .string v2] 23))) := rqB_new ⟨d2, k2, v2⟩ w5
      have HC6 : Hid (Below w.heap.size w (w5.alloc (.cells #[.int .i64 d2, .string k2, .string v2] 23))) := HC5.out.alloc HC5.out.size _
      simp only [rqV, rqs]
      go_wp2_with fail
      refine (P9.out _).mono ?_
      rintro e w6 ⟨rfl, hb⟩
      have HC7 := hide (HC6.out.trans (hb.mono HC6.out.size))
      clear hb
      go_wp2_with fail
      refine (live_any _ (HKD.out.below HC7.out)).mono ?_
      rintro e9 W9 ⟨rfl, hb9⟩
      have HL9 := hide (HC7.out.trans (hb9.mono HC7.out.size))
      clear hb9
      go_wp2_with fail
      first | go_ret | go_returns
      exact ⟨rfl, HL9.out⟩
    · have hz := HPE.out hpe
      injection hz with z0 z1 z2
      have y1 : k2.toList.isEmpty = true := by rw [z1]; exact empty_list
      have y2 : v2.toList.isEmpty = true := by rw [z2]; exact empty_list
      subst z0
      clear z1 z2
      have g6 : (paE s != 0) = true := by simpa using hpe
      have HC6 : Hid (Below w.heap.size w (w5.alloc (.cells #[.int .i64 0, .string k2, .string v2] 23))) := HC5.out.alloc HC5.out.size _
      clear HPB HPE hpe hR
      generalize paE s = E5 at *
      simp only [rqV, rqs]
      go_wp2_with fail
      refine (live_any _ (HKD.out.below HC6.out)).mono ?_
      rintro e9 W9 ⟨rfl, hb9⟩
      have HL9 := hide (HC6.out.trans (hb9.mono HC6.out.size))
      clear hb9
      go_wp2_with fail
      first | go_ret | go_returns
      exact ⟨rfl, HL9.out⟩
  · have g5 : (rqE ⟨d, k, v⟩ == 0) = false := by simpa using he
    clear HPL he
    generalize prS ⟨d, k, v⟩ = S at *
    generalize rqE ⟨d, k, v⟩ = E at *
    go_wp2_with fail
    refine (HPS.out _ (HKD.out.below HC1.out)).mono ?_
    rintro e w5 ⟨rfl, hb⟩
    have HC5 := hide (HC1.out.trans (hb.mono HC1.out.size))
    clear hb
    have HPB := hide (fun h => pa_back (s := s) h)
    have HPE := hide (fun h => pa_err (s := s) h)
    generalize hR : paR s = R at *
    obtain ⟨d2, k2, v2⟩ := R
    by_cases hpe : paE s = 0
    · obtain ⟨hl, hr⟩ := HPB.out hpe
      have g6 : ((0 : Int) != 0) = false := by decide
      rw [hpe]
      have hps : prS ⟨d2, k2, v2⟩ = s := by unfold prS; rw [if_pos hr]; exact hl
      have hok := rqE_ok hr
      have hkv : k2.size ≤ 2000 ∧ v2.size ≤ 10000 := by
        have hz : (lineS ⟨d2, k2, v2⟩).size ≤ 2000 := by rw [hl]; exact HSZ.out
        have hge := lineS_ge d2 k2 v2
        have e0 := hok.2.2.1
        simp only at e0
        rcases e0 with q | q
        · have := hge.2 q; omega
        · omega
      have P9 := hide (fun W => print_any ⟨d2, k2, v2⟩ W (by have := hkv.1; simp only; omega) hkv.2)
      rw [hps, hr] at P9
      have hss := str_refl s
      simp only [rqs] at P9
      clear hl hr hps hok hkv HPB HPE hpe hR
      have HA6 : Hid (RqB w5.heap.size ⟨d2, k2, v2⟩ (w5.alloc (.cells #[.int .i64 d2, .string k2, .string v2] 23))) := rqB_new ⟨d2, k2, v2⟩ w5
      have HC6 : Hid (Below w.heap.size w (w5.alloc (.cells #[.int .i64 d2, .string k2, .string v2] 23))) := HC5.out.alloc HC5.out.size _
      simp only [rqV, rqs]
      go_wp2_with fail
      refine (P9.out _).mono ?_
      rintro e w6 ⟨rfl, hb⟩
      have HC7 := hide (HC6.out.trans (hb.mono HC6.out.size))
      clear hb
      go_wp2_with fail
      refine (live_any _ (HKD.out.below HC7.out)).mono ?_
      rintro e9 W9 ⟨rfl, hb9⟩
      have HL9 := hide (HC7.out.trans (hb9.mono HC7.out.size))
      clear hb9
      go_wp2_with fail
      first | go_ret | go_returns
      exact ⟨rfl, HL9.out⟩
    · have hz := HPE.out hpe
      injection hz with z0 z1 z2
      have y1 : k2.toList.isEmpty = true := by rw [z1]; exact empty_list
      have y2 : v2.toList.isEmpty = true := by rw [z2]; exact empty_list
      subst z0
      clear z1 z2
      have g6 : (paE s != 0) = true := by simpa using hpe
      have HC6 : Hid (Below w.heap.size w (w5.alloc (.cells #[.int .i64 0, .string k2, .string v2] 23))) := HC5.out.alloc HC5.out.size _
      clear HPB HPE hpe hR
      generalize paE s = E5 at *
      simp only [rqV, rqs]
      go_wp2_with fail
      refine (live_any _ (HKD.out.below HC6.out)).mono ?_
      rintro e9 W9 ⟨rfl, hb9⟩
      have HL9 := hide (HC6.out.trans (hb9.mono HC6.out.size))
      clear hb9
      go_wp2_with fail
      first | go_ret | go_returns
      exact ⟨rfl, HL9.out⟩
end Go.Proofs.YtgcjcojmhfkbjaaDoor
