/- What the document's Live and has answer, slices.Index and slices.Contains; two lists of numbers that are the same. -/
import Derived.Test.YtleknjjfmklkcaaPlSmall
namespace Go.Proofs.Ytleknjjfmklkcaa
open Go.RowKit
set_option linter.unusedVariables false
theorem dsk_lo {d : Int} (h : d < 0) : dskB d = false := by unfold dskB; simp; omega
theorem dsk_hi {d : Int} (h : 11 < d) : dskB d = false := by unfold dskB; simp; omega
theorem dsk_in {d : Int} (h : ¬ d < 0) (h2 : ¬ 11 < d) : dskB d = true := by unfold dskB; simp; omega
set_option maxRecDepth 100000 in
set_option maxHeartbeats 4000000 in
theorem rLive_any (a : Option Addr) (n c : Nat) (l : List Int) (w : World) (hl : l.length = n) (hn : n ≤ 9223372036854775807) (hS : IntsAt w a l) :
    Calls Try.prog 24 #[.slice a n c] w fun e w' => e = .returned (.bool (liveB l)) ∧ Below w.heap.size w w' := by
  have HL := hide hl
  have HS := hide hS
  clear hl hS
  go_enter Try.func24, Try.ntmps24
  go_wp2_with fail
  go_loopw [3] (fun y wr => ∃ k : Nat, k ≤ n ∧ y = .int .i64 k ∧ (∀ i, i < k → okAt l i = true) ∧ Below w.heap.size w wr) (fun y _ => n - (intOf y).toNat)
  case atStart => exact ⟨0, by omega, rfl, fun _ h => by omega, Below.refl _ _⟩
  case round =>
    obtain ⟨k, hk, rfl, hall, hbl⟩ := hrel
    have HA := hide hall
    have HB := hide hbl
    clear hall hbl
    by_cases hlt : k < n
    · have hdk : decide ((k : Int) < (n : Int)) = true := by simp; omega
      have hki : (k : Int) < (n : Int) := by omega
      have hk0 : (0 : Int) ≤ (k : Int) := by omega
      have HD := hide (getD_at (l := l) (k := k) (by have := HL.out; omega))
      rcases HS.out with h | ⟨bs, o, rfl, hbs, hc⟩
      · have := HL.out; rw [h] at this; simp at this; omega
      have HC := hide hc
      clear hc
      have hck := (HB.out.cell (p := ⟨bs, o + k, none⟩) hbs).trans (HC.out k _ HD.out)
      clear HD
      generalize hdd : l.getD k 0 = d at *
      have HDD := hide hdd
      clear hdd
      by_cases h1 : d < 0
      · have q1 : decide (d < 0) = true := by simpa using h1
        go_wp2_with fail
        go_quiet (fail)
        go_wp2_with fail
        all_goals
          try go_ret
          exact ⟨ret_bool (live_no (by have := HL.out; omega) (okAt_no1 HDD.out (dsk_lo h1))).symm, drawn_below HB.out _⟩
      · have q1 : decide (d < 0) = false := by simpa using h1
        by_cases h2 : 11 < d
        · have q2 : decide (11 < d) = true := by simpa using h2
          go_wp2_with fail
          go_quiet (fail)
          go_wp2_with fail
          all_goals
            try go_ret
            exact ⟨ret_bool (live_no (by have := HL.out; omega) (okAt_no1 HDD.out (dsk_hi h2))).symm, drawn_below HB.out _⟩
        · have q2 : decide (11 < d) = false := by simpa using h2
          have HOK := hide (dsk_in h1 h2)
          by_cases h0 : k = 0
          · have hgt : decide ((0 : Int) < (k : Int)) = false := by simp; omega
            have hgt2 : decide (0 < k) = false := by simp; omega
            have hgt3 : ¬ (0 < k) := by omega
            have H0 := hide h0
            clear h0
            go_wp2_with fail
            go_quiet (fail)
            go_wp2_with fail
            all_goals
              exact ⟨⟨k + 1, by omega, by go_num, fun i hi => by
                have := H0.out
                subst this
                obtain rfl : i = 0 := by omega
                exact okAt_yes0 HDD.out HOK.out, drawn_below HB.out _⟩, by simp [intOf]; omega⟩
          · have hgt : decide ((0 : Int) < (k : Int)) = true := by simp; omega
            have hgt2 : decide (0 < k) = true := by simp; omega
            have hck1 := (HB.out.cell (p := ⟨bs, o + (k - 1), none⟩) hbs).trans (HC.out (k - 1) _ (getD_at (l := l) (k := k - 1) (by have := HL.out; omega)))
            generalize hee : l.getD (k - 1) 0 = e at *
            have HEE := hide hee
            clear hee
            have e1 : ((k - 1 : Nat) : Int) = (k : Int) - 1 := by omega
            have e2 : (0 : Int) ≤ (k : Int) - 1 := by omega
            have e3 : (k : Int) - 1 < (n : Int) := by omega
            have e4 : ((k : Int) - 1).toNat = k - 1 := by omega
            by_cases h3 : d ≤ e
            · have hd2 : decide (d ≤ e) = true := by simpa using h3
              go_wp2_with fail
              go_quiet (fail)
              go_wp2_with fail
              all_goals
                try go_ret
                exact ⟨ret_bool (live_no (by have := HL.out; omega) (okAt_no2 HDD.out h0 HEE.out h3)).symm, drawn_below HB.out _⟩
            · have hd2 : decide (d ≤ e) = false := by simpa using h3
              go_wp2_with fail
              go_quiet (fail)
              go_wp2_with fail
              all_goals
                exact ⟨⟨k + 1, by omega, by go_num, fun i hi => by
                  by_cases q : i = k
                  · subst q; exact okAt_yes HDD.out HEE.out HOK.out (by omega)
                  · exact HA.out i (by omega), drawn_below HB.out _⟩, by simp [intOf]; omega⟩
    · have hdk : decide ((k : Int) < (n : Int)) = false := by simp; omega
      go_wp2_with fail
      try go_ret
      exact ⟨ret_bool (live_yes fun i hi => HA.out i (by have := HL.out; omega)).symm, HB.out⟩
theorem has_no {l : List Int} {d : Int} (h : ∀ i, i < l.length → l.getD i 0 ≠ d) : hasB l d = false := by
  unfold hasB
  rw [← Bool.not_eq_true, List.contains_iff_mem]
  intro hm
  obtain ⟨i, hi, he⟩ := List.getElem_of_mem hm
  refine h i hi ?_
  rw [List.getD_eq_getElem?_getD, List.getElem?_eq_getElem hi]; exact he
theorem has_yes {l : List Int} {d : Int} {i : Nat} (hi : i < l.length) (h : l.getD i 0 = d) : hasB l d = true := by
  unfold hasB
  rw [List.contains_iff_mem]
  rw [List.getD_eq_getElem?_getD, List.getElem?_eq_getElem hi] at h
  exact h ▸ List.getElem_mem hi
set_option maxRecDepth 100000 in
set_option maxHeartbeats 2000000 in
theorem has_any (a : Option Addr) (n c : Nat) (l : List Int) (d : Int) (w : World) (hl : l.length = n) (hn : n ≤ 9223372036854775807) (hS : IntsAt w a l) :
    Calls Try.prog 26 #[.slice a n c, .int .i64 d] w fun e w' => e = .returned (.bool (hasB l d)) ∧ w = w' := by
  have HL := hide hl
  have HS := hide hS
  clear hl hS
  go_enter Try.func26, Try.ntmps26
  go_wp2_with fail
  go_loop [5] (fun y => ∃ k : Nat, k ≤ n ∧ y = .int .i64 k ∧ ∀ i, i < k → l.getD i 0 ≠ d) (fun y => n - (intOf y).toNat)
  case atStart => exact ⟨0, by omega, rfl, fun _ h => by omega⟩
  case round =>
    obtain ⟨k, hk, rfl, hall⟩ := hrel
    have HA := hide hall
    clear hall
    by_cases hlt : k < n
    · have hdk : decide ((k : Int) < (n : Int)) = true := by simp; omega
      have hki : (k : Int) < (n : Int) := by omega
      have HD := hide (getD_at (l := l) (k := k) (by have := HL.out; omega))
      rcases HS.out with h | ⟨bs, o, rfl, hbs, hc⟩
      · have := HL.out; rw [h] at this; simp at this; omega
      have HC := hide hc
      clear hc
      have hck := HC.out k _ HD.out
      clear HD
      generalize hdd : l.getD k 0 = x at *
      have HDD := hide hdd
      clear hdd
      by_cases h1 : x = d
      · have H1 := hide h1
        have q1 : (x == d) = true := by simpa using h1
        clear h1
        go_wp2_with fail
        try go_ret
        exact ⟨ret_bool (has_yes (by have := HL.out; omega) (HDD.out.trans H1.out)).symm, rfl⟩
      · have q1 : (x == d) = false := by simpa using h1
        go_wp2_with fail
        go_round
        case rel => exact ⟨k + 1, by omega, by go_num, fun i hi => by
          by_cases q : i = k
          · subst q; rw [HDD.out]; exact h1
          · exact HA.out i (by omega)⟩
        case measure => simp [intOf]; omega
    · have hdk : decide ((k : Int) < (n : Int)) = false := by simp; omega
      go_wp2_with fail
      try go_ret
      exact ⟨ret_bool (has_no fun i hi => HA.out i (by have := HL.out; omega)).symm, rfl⟩
set_option maxRecDepth 100000 in
set_option maxHeartbeats 2000000 in
theorem index_any (a : Option Addr) (n c : Nat) (l : List Int) (d : Int) (w : World) (hl : l.length = n) (hn : n ≤ 9223372036854775807) (hS : IntsAt w a l) :
    Calls Try.prog 29 #[.slice a n c, .int .i64 d] w fun e w' => (∃ r : Int, e = .returned (.int .i64 r) ∧ decide (0 ≤ r) = hasB l d) ∧ w = w' := by
  have HL := hide hl
  have HS := hide hS
  clear hl hS
  go_enter Try.func29, Try.ntmps29
  go_wp2_with fail
  go_loop [8] (fun y => ∃ k : Nat, k ≤ n ∧ y = .int .i64 k ∧ ∀ i, i < k → l.getD i 0 ≠ d) (fun y => n - (intOf y).toNat)
  case atStart => exact ⟨0, by omega, rfl, fun _ h => by omega⟩
  case round =>
    obtain ⟨k, hk, rfl, hall⟩ := hrel
    have HA := hide hall
    clear hall
    by_cases hlt : k < n
    · have hdk : decide ((k : Int) < (n : Int)) = true := by simp; omega
      have hki : (k : Int) < (n : Int) := by omega
      have HD := hide (getD_at (l := l) (k := k) (by have := HL.out; omega))
      rcases HS.out with h | ⟨bs, o, rfl, hbs, hc⟩
      · have := HL.out; rw [h] at this; simp at this; omega
      have HC := hide hc
      clear hc
      have hck := HC.out k _ HD.out
      clear HD
      generalize hdd : l.getD k 0 = x at *
      have HDD := hide hdd
      clear hdd
      by_cases h1 : x = d
      · have H1 := hide h1
        have q1 : (d == x) = true := by simpa using h1.symm
        clear h1
        go_wp2_with fail
        try go_ret
        exact ⟨⟨_, rfl, by rw [has_yes (by have := HL.out; omega) (HDD.out.trans H1.out)]; simp⟩, rfl⟩
      · have q1 : (d == x) = false := by simpa using fun h => h1 h.symm
        go_wp2_with fail
        go_round
        case rel => exact ⟨k + 1, by omega, by go_num, fun i hi => by
          by_cases q : i = k
          · subst q; rw [HDD.out]; exact h1
          · exact HA.out i (by omega)⟩
        case measure => simp [intOf]; omega
    · have hdk : decide ((k : Int) < (n : Int)) = false := by simp; omega
      go_wp2_with fail
      try go_ret
      exact ⟨⟨_, rfl, by rw [has_no fun i hi => HA.out i (by have := HL.out; omega)]; rfl⟩, rfl⟩
theorem contains_any (a : Option Addr) (n c : Nat) (l : List Int) (d : Int) (w : World) (hl : l.length = n) (hn : n ≤ 9223372036854775807) (hS : IntsAt w a l) :
    Calls Try.prog 25 #[.slice a n c, .int .i64 d] w fun e w' => e = .returned (.bool (hasB l d)) ∧ w = w' := by
  have H := hide (index_any a n c l d w hl hn hS)
  clear hl hS
  go_enter Try.func25, Try.ntmps25
  go_wp2_with fail
  refine H.out.mono ?_
  rintro e w' ⟨⟨r, rfl, hr⟩, rfl⟩
  have HR := hide hr
  clear hr
  go_wp2_with fail
  try go_ret
  exact ⟨ret_bool HR.out, rfl⟩
set_option maxRecDepth 100000 in
set_option maxHeartbeats 8000000 in
theorem ints_same (a1 a2 : Option Addr) (c1 c2 n : Nat) (l : List Int) (w : World) (hl : l.length = n) (h63 : n ≤ 1000000) (h1 : IntsAt w a1 l) (h2 : IntsAt w a2 l) : Calls Try.prog 14 #[.slice a1 n c1, .slice a2 n c2] w fun e w' => e = .returned (.bool true) ∧ Below w.heap.size w w' := by
  have HL := hide hl
  have H1 := hide h1
  have H2 := hide h2
  clear hl h1 h2
  go_enter Try.func14, Try.ntmps14
  go_wp2_with fail
  go_loopw [5] (fun y wr => ∃ k : Nat, k ≤ n ∧ y = .int .i64 k ∧ Below w.heap.size w wr) (fun y _ => n - (intOf y).toNat)
  case atStart => exact ⟨0, by omega, rfl, Below.refl _ _⟩
  case round =>
    obtain ⟨k, hk, rfl, hbl⟩ := hrel
    have HB := hide hbl
    clear hbl
    by_cases hlt : k < n
    · have hd : decide ((k : Int) < (n : Int)) = true := by simp; omega
      have hdi : (k : Int) < (n : Int) := by omega
      have hd0 : (0 : Int) ≤ (k : Int) := by omega
      obtain ⟨x, hx⟩ : ∃ x, l[k]? = some x := ⟨_, List.getElem?_eq_getElem (by have := HL.out; omega)⟩
      rcases H1.out with q | ⟨b1, o1, rfl, hb1, hc1⟩
      · have := HL.out; rw [q] at this; simp at this; omega
      rcases H2.out with q | ⟨b2, o2, rfl, hb2, hc2⟩
      · have := HL.out; rw [q] at this; simp at this; omega
      have HC1 := hide hc1
      have HC2 := hide hc2
      clear hc1 hc2
      have e1 := (HB.out.cell (p := ⟨b1, o1 + k, none⟩) hb1).trans (HC1.out k x hx)
      have e2 := (HB.out.cell (p := ⟨b2, o2 + k, none⟩) hb2).trans (HC2.out k x hx)
      clear hx
      go_wp2_with fail
      go_quiet (fail)
      go_wp2_with fail
      all_goals first | exact ⟨⟨k + 1, by omega, by go_num, drawn_below HB.out _⟩, by simp [intOf]; omega⟩ | exact ⟨⟨k + 1, by omega, by go_num, HB.out⟩, by simp [intOf]; omega⟩
    · have hd : decide ((k : Int) < (n : Int)) = false := by simp; omega
      go_wp2_with fail
      try go_ret
      exact ⟨rfl, HB.out⟩
end Go.Proofs.Ytleknjjfmklkcaa
