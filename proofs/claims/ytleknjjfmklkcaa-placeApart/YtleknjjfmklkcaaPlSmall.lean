/- What place.isNumber, isDisk, areLive, slices.Index, slices.Contains answer; the document's number, Live, has; Ints. -/
import Derived.Test.YtleknjjfmklkcaaRow
import Derived.Test.YtleknjjfmklkcaaPlMath
namespace Go.Proofs.Ytleknjjfmklkcaa
open Go.RowKit
set_option linter.unusedVariables false
theorem isNumber_any (n : Int) (w : World) : Calls Try.prog 20 #[.int .i64 n] w fun e w' => e = .returned (.bool (numB n)) ∧ w = w' := by
  unfold numB
  by_cases h : 0 ≤ n
  · have hd : decide (0 ≤ n) = true := by simpa using h
    have HH := hide h
    go_enter Try.func20, Try.ntmps20
    go_wp2_with fail
    try go_ret
    exact ⟨ret_bool (by simp [HH.out]), rfl⟩
  · have hd : decide (0 ≤ n) = false := by simpa using h
    go_enter Try.func20, Try.ntmps20
    go_wp2_with fail
    try go_ret
    exact ⟨ret_bool (by simp), rfl⟩
theorem number_any (n : Int) (w : World) : Calls Try.prog 23 #[.int .i64 n] w fun e w' => e = .returned (.bool (numB n)) ∧ w = w' := by
  unfold numB
  by_cases h : 0 ≤ n
  · have hd : decide (0 ≤ n) = true := by simpa using h
    have HH := hide h
    go_enter Try.func23, Try.ntmps23
    go_wp2_with fail
    try go_ret
    exact ⟨ret_bool (by simp [HH.out]), rfl⟩
  · have hd : decide (0 ≤ n) = false := by simpa using h
    go_enter Try.func23, Try.ntmps23
    go_wp2_with fail
    try go_ret
    exact ⟨ret_bool (by simp), rfl⟩
theorem isDisk_any (n : Int) (w : World) : Calls Try.prog 27 #[.int .i64 n] w fun e w' => e = .returned (.bool (dskB n)) ∧ w = w' := by
  unfold dskB
  by_cases h : 0 ≤ n
  · have hd : decide (0 ≤ n) = true := by simpa using h
    have HH := hide h
    go_enter Try.func27, Try.ntmps27
    go_wp2_with fail
    try go_ret
    exact ⟨ret_bool (by simp [HH.out]), rfl⟩
  · have hd : decide (0 ≤ n) = false := by simpa using h
    go_enter Try.func27, Try.ntmps27
    go_wp2_with fail
    try go_ret
    exact ⟨ret_bool (by simp), rfl⟩
theorem okAt_no1 {l : List Int} {k : Nat} {d : Int} (hd : l.getD k 0 = d) (h : dskB d = false) : okAt l k = false := by unfold okAt; rw [hd, h]; rfl
theorem okAt_no2 {l : List Int} {k : Nat} {d e : Int} (hd : l.getD k 0 = d) (hk : k ≠ 0) (he : l.getD (k - 1) 0 = e) (h : d ≤ e) : okAt l k = false := by unfold okAt; rw [hd, he]; simp [hk]; omega
theorem okAt_yes0 {l : List Int} {d : Int} (hd : l.getD 0 0 = d) (h : dskB d = true) : okAt l 0 = true := by unfold okAt; rw [hd, h]; rfl
theorem okAt_yes {l : List Int} {k : Nat} {d e : Int} (hd : l.getD k 0 = d) (he : l.getD (k - 1) 0 = e) (h : dskB d = true) (hh : e < d) : okAt l k = true := by unfold okAt; rw [hd, he, h]; simp [hh]
set_option maxRecDepth 100000 in
set_option maxHeartbeats 2000000 in
theorem areLive_any (a : Option Addr) (n c : Nat) (l : List Int) (w : World) (hl : l.length = n) (hn : n ≤ 9223372036854775807) (hS : IntsAt w a l) :
    Calls Try.prog 21 #[.slice a n c] w fun e w' => e = .returned (.bool (liveB l)) ∧ w = w' := by
  have HL := hide hl
  have HS := hide hS
  clear hl hS
  go_enter Try.func21, Try.ntmps21
  go_wp2_with fail
  go_loop [7] (fun y => ∃ k : Nat, k ≤ n ∧ y = .int .i64 k ∧ ∀ i, i < k → okAt l i = true) (fun y => n - (intOf y).toNat)
  case atStart => exact ⟨0, by omega, rfl, fun _ h => by omega⟩
  case round =>
    obtain ⟨k, hk, rfl, hall⟩ := hrel
    have HA := hide hall
    clear hall
    by_cases hlt : k < n
    · have hdk : decide ((k : Int) < (n : Int)) = true := by simp; omega
      have hki : (k : Int) < (n : Int) := by omega
      have HD := hide (getD_at (l := l) (k := k) (by have := HL.out; omega))
      rcases HS.out with h | ⟨bs, o, rfl, hbs, hc⟩
      · have := HL.out; rw [h] at this; simp at this; omega
      have HC := hide hc
      clear hc
      have hck := HC.out k _ HD.out
      clear HD
      generalize hdd : l.getD k 0 = d at *
      have HDD := hide hdd
      clear hdd
      have HX := hide (isDisk_any d w)
      by_cases h1 : dskB d = true
      · by_cases h0 : k = 0
        · have hgt : decide ((0 : Int) < (k : Int)) = false := by simp; omega
          have hgt2 : decide (0 < k) = false := by simp; omega
          have hgt3 : ¬ (0 < k) := by omega
          have H0 := hide h0
          clear h0
          go_wp2_with (first | (go_at_call 27; refine HX.out.mono ?_; rintro e w' ⟨rfl, rfl⟩; rw [h1]))
          go_round
          case rel => exact ⟨k + 1, by omega, by go_num, fun i hi => by
            have := H0.out
            subst this
            obtain rfl : i = 0 := by omega
            exact okAt_yes0 HDD.out h1⟩
          case measure => simp [intOf]; omega
        · have hgt : decide ((0 : Int) < (k : Int)) = true := by simp; omega
          have hck1 := HC.out (k - 1) _ (getD_at (l := l) (k := k - 1) (by have := HL.out; omega))
          generalize hee : l.getD (k - 1) 0 = e at *
          have HEE := hide hee
          clear hee
          have e1 : ((k - 1 : Nat) : Int) = (k : Int) - 1 := by omega
          by_cases h2 : d ≤ e
          · have hd2 : decide (d ≤ e) = true := by simpa using h2
            go_wp2_with (first | (go_at_call 27; refine HX.out.mono ?_; rintro e w' ⟨rfl, rfl⟩; rw [h1]))
            try go_ret
            exact ⟨ret_bool (live_no (by have := HL.out; omega) (okAt_no2 HDD.out h0 HEE.out h2)).symm, rfl⟩
          · have hd2 : decide (d ≤ e) = false := by simpa using h2
            go_wp2_with (first | (go_at_call 27; refine HX.out.mono ?_; rintro e w' ⟨rfl, rfl⟩; rw [h1]))
            go_round
            case rel => exact ⟨k + 1, by omega, by go_num, fun i hi => by
              by_cases q : i = k
              · subst q; exact okAt_yes HDD.out HEE.out h1 (by omega)
              · exact HA.out i (by omega)⟩
            case measure => simp [intOf]; omega
      · have h1' : dskB d = false := by simpa using h1
        clear h1
        go_wp2_with (first | (go_at_call 27; refine HX.out.mono ?_; rintro e w' ⟨rfl, rfl⟩; rw [h1']))
        try go_ret
        exact ⟨ret_bool (live_no (by have := HL.out; omega) (okAt_no1 HDD.out h1')).symm, rfl⟩
    · have hdk : decide ((k : Int) < (n : Int)) = false := by simp; omega
      go_wp2_with fail
      try go_ret
      exact ⟨ret_bool (live_yes fun i hi => HA.out i (by have := HL.out; omega)).symm, rfl⟩
end Go.Proofs.Ytleknjjfmklkcaa
