/- What a space's Free and Take answer; of nil. -/
import Derived.Test.YthcpcdinjellcaaSpOps
namespace Go.Proofs.Ythcpcdinjellcaa
open Go.RowKit
set_option linter.unusedVariables false
set_option maxRecDepth 100000 in
set_option maxHeartbeats 2000000 in
theorem free_any (b : Nat) (d : Int) (B : Nat → Bool) (w : World) (h : SpAt w b B) : Calls Try.prog 12 #[.pointer (some ⟨b, 0, none⟩), .int .i64 d] w fun e w' => e = .returned (.int .i64 (frC B d)) ∧ w = w' := by
  have HS := hide h
  unfold frC
  clear h
  by_cases hd : okD d = true
  · obtain ⟨n, rfl⟩ := Int.eq_ofNat_of_zero_le (okD_iff.1 hd).1
    have hn : n < 12 := by have := (okD_iff.1 hd).2; omega
    rw [if_pos hd, Int.toNat_natCast]
    clear hd
    have HO := hide (of_yes b n w hn)
    go_enter Try.func12, Try.ntmps12
    go_wp2_with fail
    refine HO.out.mono ?_
    rintro e w1 ⟨rfl, rfl⟩
    go_wp2_with fail
    go_loop [6, 15] (fun c y => ∃ k : Nat, k ≤ 48 ∧ y = .int .i64 k ∧ c = .int .i64 ((frN B n k : Nat) : Int)) (fun _ y => 48 - (intOf y).toNat)
    case atStart => exact ⟨0, by omega, rfl, rfl⟩
    case round =>
      obtain ⟨k, hk, rfl, rfl⟩ := hrel
      by_cases hlt : k < 48
      · have hdk : decide ((k : Int) < 48) = true := by simp; omega
        have hki : (k : Int) < 48 := by omega
        have cc := HS.out.cell (p := n * 48 + k) (by omega)
        have HN := hide (frN_succ B n k)
        have hle := frN_le B n k
        generalize frN B n k = F at *
        cases hb : B (n * 48 + k) with
        | true =>
          rw [hb] at HN cc
          go_wp2_with fail
          go_round
          case rel => exact ⟨k + 1, by omega, by go_num, by rw [HN.out]; rfl⟩
          case measure => simp [intOf]; omega
        | false =>
          rw [hb] at HN cc
          go_wp2_with fail
          go_round
          case rel => exact ⟨k + 1, by omega, by go_num, by rw [HN.out]; go_num⟩
          case measure => simp [intOf]; omega
      · have hdk : decide ((k : Int) < 48) = false := by simp; omega
        obtain rfl : k = 48 := by omega
        go_wp2_with fail
        try go_ret
        exact ⟨rfl, rfl⟩
  · have hd' : okD d = false := by simpa using hd
    rw [if_neg hd]
    clear hd
    have HO := hide (of_no (some ⟨b, 0, none⟩) d w (.inr hd'))
    go_enter Try.func12, Try.ntmps12
    go_wp2_with fail
    refine HO.out.mono ?_
    rintro e w1 ⟨rfl, rfl⟩
    go_wp2_with fail
    try go_ret
    exact ⟨rfl, rfl⟩
def ixN : Option Nat → Int
  | some n => (n : Int)
  | none => -1
set_option maxRecDepth 100000 in
set_option maxHeartbeats 2000000 in
theorem indexB_any (b d : Nat) (B : Nat → Bool) (w : World) (h : SpAt w b B) (hd : d < 12) : Calls Try.prog 28 #[.slice (some ⟨b, d * 48, none⟩) 48 48, .bool false] w fun e w' => e = .returned (.int .i64 (ixN (frO B d))) ∧ w = w' := by
  have HS := hide h
  clear h
  go_enter Try.func28, Try.ntmps28
  go_wp2_with fail
  go_loop [8] (fun y => ∃ k : Nat, k ≤ 48 ∧ y = .int .i64 k ∧ ∀ i, i < k → B (d * 48 + i) = true) (fun y => 48 - (intOf y).toNat)
  case atStart => exact ⟨0, by omega, rfl, fun _ h => by omega⟩
  case round =>
    obtain ⟨k, hk, rfl, hall⟩ := hrel
    have HA := hide hall
    clear hall
    by_cases hlt : k < 48
    · have hdk : decide ((k : Int) < 48) = true := by simp; omega
      have hki : (k : Int) < 48 := by omega
      have cc := HS.out.cell (p := d * 48 + k) (by omega)
      cases hb : B (d * 48 + k) with
      | true =>
        rw [hb] at cc
        have HBB := hide hb
        clear hb
        go_wp2_with fail
        go_round
        case rel => exact ⟨k + 1, by omega, by go_num, fun i hi => by
          by_cases q : i = k
          · subst q; exact HBB.out
          · exact HA.out i (by omega)⟩
        case measure => simp [intOf]; omega
      | false =>
        rw [hb] at cc
        have HF := hide (fr_some hlt HA.out hb)
        clear hb
        go_wp2_with fail
        try go_ret
        exact ⟨by rw [HF.out]; rfl, rfl⟩
    · have hdk : decide ((k : Int) < 48) = false := by simp; omega
      obtain rfl : k = 48 := by omega
      have HF := hide (fr_none HA.out)
      go_wp2_with fail
      try go_ret
      exact ⟨by rw [HF.out]; rfl, rfl⟩
set_option maxRecDepth 100000 in
set_option maxHeartbeats 2000000 in
theorem take_any (b : Nat) (d : Int) (B : Nat → Bool) (w : World) (h : SpAt w b B) : Calls Try.prog 16 #[.pointer (some ⟨b, 0, none⟩), .int .i64 d] w fun e w' => e = .returned (.tuple #[.int .i64 (tkN B d), .int .i64 (tkE B d)]) ∧ SpAt w' b (tkB B d) ∧ Bu b w w' := by
  have HS := hide h
  unfold tkN tkE tkB
  clear h
  by_cases hd : okD d = true
  · obtain ⟨n, rfl⟩ := Int.eq_ofNat_of_zero_le (okD_iff.1 hd).1
    have hn : n < 12 := by have := (okD_iff.1 hd).2; omega
    rw [if_pos hd, if_pos hd, if_pos hd, Int.toNat_natCast]
    clear hd
    have HO := hide (of_yes b n w hn)
    have HI := hide (indexB_any b n B w HS.out hn)
    cases hf : frO B n with
    | none =>
      rw [hf] at HI
      simp only [ixN] at HI
      go_enter Try.func16, Try.ntmps16
      go_wp2_with fail
      refine HO.out.mono ?_
      rintro e w1 ⟨rfl, rfl⟩
      go_wp2_with fail
      refine HI.out.mono ?_
      rintro e w1 ⟨rfl, rfl⟩
      go_wp2_with fail
      go_ret2
      exact ⟨rfl, HS.out, Bu.refl _ _⟩
    | some m =>
      obtain ⟨hm, hfree, -⟩ := fr_is hf
      rw [hf] at HI
      simp only [ixN] at HI
      have q0 : decide ((m : Int) < 0) = false := by simp
      have hmi : (m : Int) < 48 := by omega
      have cc := HS.out.cell (p := n * 48 + m) (by omega)
      have cf := HS.out.fr (n * 48 + m)
      rw [hfree] at cc
      clear hfree hf
      go_enter Try.func16, Try.ntmps16
      go_wp2_with fail
      refine HO.out.mono ?_
      rintro e w1 ⟨rfl, rfl⟩
      go_wp2_with fail
      refine HI.out.mono ?_
      rintro e w1 ⟨rfl, rfl⟩
      go_wp2_with fail
      go_ret2
      exact ⟨rfl, HS.out.set _ _, Bu.set _ _ _⟩
  · have hd' : okD d = false := by simpa using hd
    rw [if_neg hd, if_neg hd, if_neg hd]
    clear hd
    have HO := hide (of_no (some ⟨b, 0, none⟩) d w (.inr hd'))
    go_enter Try.func16, Try.ntmps16
    go_wp2_with fail
    refine HO.out.mono ?_
    rintro e w1 ⟨rfl, rfl⟩
    go_wp2_with fail
    go_ret2
    exact ⟨rfl, HS.out, Bu.refl _ _⟩
set_option maxRecDepth 100000 in
theorem take_nil (d : Int) (w : World) : Calls Try.prog 16 #[.pointer none, .int .i64 d] w fun e w' => e = .returned (.tuple #[.int .i64 0, .int .i64 1]) ∧ Below w.heap.size w w' := by
  have HO := hide (of_no none d w (.inl rfl))
  go_enter Try.func16, Try.ntmps16
  go_wp2_with fail
  refine HO.out.mono ?_
  rintro e w1 ⟨rfl, rfl⟩
  go_wp2_with fail
  go_ret2
  exact ⟨rfl, Below.refl _ _⟩
set_option maxRecDepth 100000 in
theorem free_nil (d : Int) (w : World) : Calls Try.prog 12 #[.pointer none, .int .i64 d] w fun e w' => e = .returned (.int .i64 0) ∧ Below w.heap.size w w' := by
  have HO := hide (of_no none d w (.inl rfl))
  go_enter Try.func12, Try.ntmps12
  go_wp2_with fail
  refine HO.out.mono ?_
  rintro e w1 ⟨rfl, rfl⟩
  go_wp2_with fail
  try go_ret
  exact ⟨rfl, Below.refl _ _⟩
set_option maxRecDepth 100000 in
theorem taken_nil (x y : Int) (w : World) : Calls Try.prog 14 #[.pointer none, .agg #[.int .i64 x, .int .i64 y]] w fun e w' => e = .returned (.bool false) ∧ Below w.heap.size w w' := by
  have HB : Hid (Below w.heap.size w (w.alloc (.cells #[.int .i64 x, .int .i64 y] 31))) := (Below.refl _ _).alloc (Nat.le_refl _) _
  go_enter Try.func14, Try.ntmps14
  go_wp2_with fail
  refine (at_no none x y _ (.inl rfl)).mono ?_
  rintro e w1 ⟨rfl, hb⟩
  have HB1 : Hid (Below w.heap.size w w1) := HB.out.trans (hb.mono HB.out.size)
  clear hb
  go_wp2_with fail
  try go_ret
  exact ⟨rfl, HB1.out⟩
set_option maxRecDepth 100000 in
theorem mark_nil (x y : Int) (w : World) : Calls Try.prog 17 #[.pointer none, .agg #[.int .i64 x, .int .i64 y]] w fun e w' => e = .returned (.int .i64 1) ∧ Below w.heap.size w w' := by
  have HB : Hid (Below w.heap.size w (w.alloc (.cells #[.int .i64 x, .int .i64 y] 31))) := (Below.refl _ _).alloc (Nat.le_refl _) _
  go_enter Try.func17, Try.ntmps17
  go_wp2_with fail
  refine (at_no none x y _ (.inl rfl)).mono ?_
  rintro e w1 ⟨rfl, hb⟩
  have HB1 : Hid (Below w.heap.size w w1) := HB.out.trans (hb.mono HB.out.size)
  clear hb
  go_wp2_with fail
  try go_ret
  exact ⟨rfl, HB1.out⟩
set_option maxRecDepth 100000 in
theorem give_nil (x y : Int) (w : World) : Calls Try.prog 18 #[.pointer none, .agg #[.int .i64 x, .int .i64 y]] w fun e w' => e = .returned (.int .i64 1) ∧ Below w.heap.size w w' := by
  have HB : Hid (Below w.heap.size w (w.alloc (.cells #[.int .i64 x, .int .i64 y] 31))) := (Below.refl _ _).alloc (Nat.le_refl _) _
  go_enter Try.func18, Try.ntmps18
  go_wp2_with fail
  refine (taken_nil x y _).mono ?_
  rintro e w1 ⟨rfl, hb⟩
  have HB1 : Hid (Below w.heap.size w w1) := HB.out.trans (hb.mono HB.out.size)
  clear hb
  go_wp2_with fail
  try go_ret
  exact ⟨rfl, HB1.out⟩
end Go.Proofs.Ythcpcdinjellcaa
