/- RequestWords: a line of a request that may be has as many words as it must, and none is empty. (Written by gen15.py.) -/
import Derived.Test.YtgcjcojmhfkbjaaDoorRqLive
import Derived.Test.YtgcjcojmhfkbjaaDoorCameRq
import Derived.Test.YtgcjcojmhfkbjaaDoorRqLine
import Derived.Lib.QuietBelow
namespace Go.Proofs.YtgcjcojmhfkbjaaDoor
open Go.RowKit
set_option linter.unusedVariables false
theorem keyOk_ne {k : ByteArray} (h : keyOk k) : k.size ≠ 0 := by have := h.1; omega
theorem word_ne (d : Int) : (wordS d).size ≠ 0 := by
  unfold wordS
  split
  · decide
  split
  · decide
  split
  · decide
  split <;> decide
theorem dgS_ne (s : ByteArray) : (dgS s).size ≠ 0 := by
  unfold dgS
  split
  · rw [dash_size]; omega
  · rw [hexS_size]; omega
/-- no word of a line is empty, and there are as many as there must be -/
theorem line_words {r : Rq} (h : rqE r = 0) : (∀ x ∈ wds (lineS r), x.size ≠ 0) ∧ ((wds (lineS r)).length = 2 ∨ ((wds (lineS r)).length = 3 ∧ r.d = 0) ∨ ((wds (lineS r)).length = 1 ∧ r.d = 4 ∧ r.k.size = 0)) := by
  obtain ⟨h0, h4, hv, hk⟩ := rqE_ok h
  rw [wds_line h]
  by_cases hd : r.d = 0
  · rw [if_pos hd]
    have hkk : keyOk r.k := by
      rcases hk with q | q
      · omega
      · exact q.1
    refine ⟨fun x hx => ?_, .inr (.inl ⟨rfl, hd⟩)⟩
    simp at hx
    rcases hx with rfl | rfl | rfl
    · decide
    · exact keyOk_ne hkk
    · exact dgS_ne _
  · rw [if_neg hd]
    by_cases hz : r.k.size = 0
    · rw [if_pos hz]
      have hk4 : r.d = 4 := by
        rcases hk with q | q
        · exact q.1
        · exact absurd hz (keyOk_ne q.1)
      refine ⟨fun x hx => ?_, .inr (.inr ⟨rfl, hk4, hz⟩)⟩
      simp at hx
      subst hx
      exact word_ne _
    · rw [if_neg hz]
      refine ⟨fun x hx => ?_, .inl rfl⟩
      simp at hx
      rcases hx with rfl | rfl
      · exact word_ne _
      · exact hz
set_option maxRecDepth 100000 in
set_option maxHeartbeats 16000000 in
theorem walkRequestWords (u : Value) (w : World) (hK : KD w) (c : CameV 23 3 w u) : Calls Tryd.prog 8 #[u] w fun e w' => e = .returned (.bool true) ∧ Below w.heap.size w w' := by
  obtain ⟨⟨d, k, v⟩, rfl, hk63, hv63⟩ := rq_open c
  clear c
  simp only [rqs] at hk63 hv63 ⊢
  have HKD := hide hK
  have HB0 : Hid (Below w.heap.size w (w.alloc (.cells #[.int .i64 d, .string k, .string v] 23))) := (Below.refl _ _).alloc (Nat.le_refl _) _
  have HA0 : Hid (RqB w.heap.size ⟨d, k, v⟩ (w.alloc (.cells #[.int .i64 d, .string k, .string v] 23))) := rqB_new ⟨d, k, v⟩ w
  clear hK
  by_cases h1 : 100 < k.size
  · have g0 : decide ((100 : Int) < (k.size : Int)) = true := by simp; omega
    clear h1
    go_enter Tryd.func8, Tryd.ntmps8
    go_wp2_with fail
    refine (live_any _ (HKD.out.below HB0.out)).mono ?_
    rintro e9 W9 ⟨rfl, hb9⟩
    have HL9 := hide (HB0.out.trans (hb9.mono HB0.out.size))
    clear hb9
    go_wp2_with fail
    first | go_ret | go_returns
    exact ⟨rfl, HL9.out⟩
  have g0 : decide ((100 : Int) < (k.size : Int)) = false := by simp; omega
  by_cases h2 : 1000 < v.size
  · have g1 : decide ((1000 : Int) < (v.size : Int)) = true := by simp; omega
    clear h1 h2
    go_enter Tryd.func8, Tryd.ntmps8
    go_wp2_with fail
    refine (live_any _ (HKD.out.below HB0.out)).mono ?_
    rintro e9 W9 ⟨rfl, hb9⟩
    have HL9 := hide (HB0.out.trans (hb9.mono HB0.out.size))
    clear hb9
    go_wp2_with fail
    first | go_ret | go_returns
    exact ⟨rfl, HL9.out⟩
  have g1 : decide ((1000 : Int) < (v.size : Int)) = false := by simp; omega
  have P1 := hide (fun W => print_any ⟨d, k, v⟩ W (by simp only; omega) (by simp only; omega))
  simp only [rqs] at P1
  by_cases he : rqE ⟨d, k, v⟩ = 0
  case neg =>
    have g5 : (rqE ⟨d, k, v⟩ != 0) = true := by simpa using he
    have e1 : prS ⟨d, k, v⟩ = ByteArray.empty := by unfold prS; rw [if_neg he]
    have g6 : (prS ⟨d, k, v⟩).toList.isEmpty = true := by rw [e1]; exact empty_list
    clear he e1 h1 h2
    generalize rqE ⟨d, k, v⟩ = E1 at *
    generalize prS ⟨d, k, v⟩ = S1 at *
    go_enter Tryd.func8, Tryd.ntmps8
    go_wp2_with fail
    refine (P1.out _).mono ?_
    rintro e w1 ⟨rfl, hb⟩
    have HC1 := hide (HB0.out.trans (hb.mono HB0.out.size))
    clear hb
    go_wp2_with fail
    refine (live_any _ (HKD.out.below HC1.out)).mono ?_
    rintro e9 W9 ⟨rfl, hb9⟩
    have HL9 := hide (HC1.out.trans (hb9.mono HC1.out.size))
    clear hb9
    go_wp2_with fail
    first | go_ret | go_returns
    exact ⟨rfl, HL9.out⟩
  have e1 : prS ⟨d, k, v⟩ = lineS ⟨d, k, v⟩ := by unfold prS; rw [if_pos he]
  have hlz : (lineS ⟨d, k, v⟩).size ≤ 100000 := by have := lineS_le d k v; omega
  have P2 := hide (fun W => words_any (lineS ⟨d, k, v⟩) W hlz)
  obtain ⟨hw1, hw2⟩ := line_words he
  rw [e1, he] at P1
  generalize wds (lineS ⟨d, k, v⟩) = L at *
  generalize lineS ⟨d, k, v⟩ = S at *
  obtain ⟨n, hn⟩ : ∃ n, L.length = n := ⟨_, rfl⟩
  rw [hn] at P2 hw2
  have HNL := hide hn
  have HNE := hide hw1
  have HW2 := hide hw2
  have hn3 : n ≤ 3 := by omega
  clear h1 h2 he e1 hlz hn hw1 hw2
  go_enter Tryd.func8, Tryd.ntmps8
  go_wp2_with fail
  refine (P1.out _).mono ?_
  rintro e w1 ⟨rfl, hb⟩
  have HA1 := hide (HA0.out.below hb)
  have HC1 := hide (HB0.out.trans (hb.mono HB0.out.size))
  clear hb
  go_wp2_with fail
  refine (P2.out _).mono ?_
  rintro e w2 ⟨a, cc, rfl, hcc, hst, hb⟩
  have HA2 := hide (HA1.out.below hb)
  have HC2 := hide (HC1.out.trans (hb.mono HC1.out.size))
  have HST := hide hst
  clear hb hst
  go_wp2_with fail
  go_loopw [6] (fun y wr => ∃ i : Nat, i ≤ n ∧ y = .int .i64 (i : Int) ∧ wr = w2) (fun y _ => n - (kIx y).toNat)
  case atStart => exact ⟨0, by omega, rfl, rfl⟩
  case round =>
    obtain ⟨i, hi, rfl, rfl⟩ := hrel
    by_cases hlt : i < n
    · have hd1 : decide ((i : Int) < (n : Int)) = true := by simp; omega
      have i1 : (i : Int) < (n : Int) := by omega
      have i2 : (0 : Int) ≤ (i : Int) := by omega
      obtain ⟨x, hx⟩ : ∃ x, L[i]? = some x := ⟨_, List.getElem?_eq_getElem (by have := HNL.out; omega)⟩
      obtain ⟨g, o, rfl, hg, ck⟩ := HST.out.cell hx
      have ek := not_empty (HNE.out x (List.mem_of_getElem? hx))
      have HLT := hide hlt
      clear hx
      go_wp2_with fail
      exact ⟨⟨i + 1, by have := HLT.out; omega, by go_num, trivial⟩, by have := HLT.out; simp [kIx]; omega⟩
    · have hd1 : decide ((i : Int) < (n : Int)) = false := by simp; omega
      have c0 := HA2.out.c0
      have c1 := HA2.out.c1
      simp only at c0 c1
      rcases HW2.out with rfl | ⟨rfl, q⟩ | ⟨rfl, q1, q2⟩
      · go_wp2_with fail
        refine (live_any _ (HKD.out.below HC2.out)).mono ?_
        rintro e9 W9 ⟨rfl, hb9⟩
        have HL9 := hide (HC2.out.trans (hb9.mono HC2.out.size))
        clear hb9
        go_wp2_with fail
        first | go_ret | go_returns
        exact ⟨rfl, HL9.out⟩
      · try simp only at q
        subst q
        go_wp2_with fail
        refine (live_any _ (HKD.out.below HC2.out)).mono ?_
        rintro e9 W9 ⟨rfl, hb9⟩
        have HL9 := hide (HC2.out.trans (hb9.mono HC2.out.size))
        clear hb9
        go_wp2_with fail
        first | go_ret | go_returns
        exact ⟨rfl, HL9.out⟩
      · try simp only at q1 q2
        subst q1
        have ek := is_empty q2
        go_wp2_with fail
        refine (live_any _ (HKD.out.below HC2.out)).mono ?_
        rintro e9 W9 ⟨rfl, hb9⟩
        have HL9 := hide (HC2.out.trans (hb9.mono HC2.out.size))
        clear hb9
        go_wp2_with fail
        first | go_ret | go_returns
        exact ⟨rfl, HL9.out⟩
end Go.Proofs.YtgcjcojmhfkbjaaDoor
