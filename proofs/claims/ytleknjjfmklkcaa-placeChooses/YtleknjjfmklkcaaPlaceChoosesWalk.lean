/- PlaceChooses answers true at every input. -/
import Derived.Test.YtleknjjfmklkcaaPlCase
namespace Go.Proofs.Ytleknjjfmklkcaa
open Go.RowKit
set_option linter.unusedVariables false
set_option maxRecDepth 100000 in
set_option maxHeartbeats 4000000 in
theorem chooses_is (id gen : Int) (a : Option Addr) (n k : Nat) (a2 : Option Addr) (n2 k2 : Nat) (l l2 : List Int) (w : World) (hl : l.length = n) (h63 : n ≤ 9223372036854775807) (hI : IntsAt w a l) (hl2 : l2.length = n2) (h632 : n2 ≤ 9223372036854775807) (hI2 : IntsAt w a2 l2) :
    Calls Try.prog 3 #[.agg #[.int .i64 id, .int .i64 gen, .slice a n k, .slice a2 n2 k2]] w fun e w' => e = .returned (.bool true) ∧ Below w.heap.size w w' := by
  have HL := hide hl
  have HL2 := hide hl2
  have HI := hide hI
  have HI2 := hide hI2
  have HB0 : Hid (Below w.heap.size w ((w.alloc (.cells #[.int .i64 id, .int .i64 gen, .slice a n k, .slice a2 n2 k2] 24)))) := (Below.refl _ w).alloc (Nat.le_refl _) _
  clear hl hl2 hI hI2
  by_cases h1 : 30 < n
  · have hd : decide ((30 : Int) < (n : Int)) = true := by simp; omega
    go_enter Try.func3, Try.ntmps3
    go_wp2_with fail
    go_quiet (fail)
    go_wp2_with fail
    refine (live_any _).mono ?_
    rintro e w1 ⟨rfl, hb⟩
    have HB1 : Hid (Below w.heap.size w w1) := (drawn_below HB0.out _).trans (hb.mono HB0.out.size)
    clear hb
    go_wp2_with fail
    try go_ret
    exact ⟨rfl, HB1.out⟩
  · have hd : decide ((30 : Int) < (n : Int)) = false := by simp; omega
    by_cases h2 : 30 < n2
    · have hd2 : decide ((30 : Int) < (n2 : Int)) = true := by simp; omega
      go_enter Try.func3, Try.ntmps3
      go_wp2_with fail
      go_quiet (fail)
      go_wp2_with fail
      refine (live_any _).mono ?_
      rintro e w1 ⟨rfl, hb⟩
      have HB1 : Hid (Below w.heap.size w w1) := (drawn_below HB0.out _).trans (hb.mono HB0.out.size)
      clear hb
      go_wp2_with fail
      try go_ret
      exact ⟨rfl, HB1.out⟩
    · have hd2 : decide ((30 : Int) < (n2 : Int)) = false := by simp; omega
      go_enter Try.func3, Try.ntmps3
      go_wp2_with fail
      go_quiet (fail)
      go_wp2_with fail
      have HBd : Hid (∀ m, Below w.heap.size w ((w.alloc (.cells #[.int .i64 id, .int .i64 gen, .slice a n k, .slice a2 n2 k2] 24)).drewN m)) := fun m => drawn_below HB0.out m
      refine (choose_any id gen a n k l _ HL.out h63 (HI.out.below (HBd.out _))).mono ?_
      rintro e w1 ⟨hb1, a1, c1, rfl, hc1, hI1, -⟩
      have HB1 : Hid (Below w.heap.size w w1) := (HBd.out _).trans (hb1.mono (HBd.out 0).size)
      have HJ1 := hide hI1
      clear hb1 hI1
      go_wp2_with fail
      refine (rChoose_any id gen a n k l _ HL.out h63 (HI.out.below HB1.out)).mono ?_
      rintro e w2 ⟨hb2, a3, c3, rfl, hc3, hI3, -⟩
      have HB2 : Hid (Below w.heap.size w w2) := HB1.out.trans (hb2.mono HB1.out.size)
      have HJ2 := hide (HJ1.out.below hb2)
      have HK2 := hide hI3
      clear hb2 hI3
      go_wp2_with fail
      refine (instead_any l2 l id a2 a n2 k2 n k _ HL2.out h632 (HI2.out.below HB2.out) HL.out h63 (HI.out.below HB2.out)).mono ?_
      rintro e w3 ⟨rfl, hb3⟩
      have HB3 : Hid (Below w.heap.size w w3) := HB2.out.trans (hb3.mono HB2.out.size)
      have HJ3 := hide (HJ2.out.below hb3)
      have HK3 := hide (HK2.out.below hb3)
      clear hb3
      go_wp2_with fail
      refine (rInstead_any l2 l id a2 a n2 k2 n k _ HL2.out h632 (HI2.out.below HB3.out) HL.out h63 (HI.out.below HB3.out)).mono ?_
      rintro e w4 ⟨rfl, hb4⟩
      have HB4 : Hid (Below w.heap.size w w4) := HB3.out.trans (hb4.mono HB3.out.size)
      have HJ4 := hide (HJ3.out.below hb4)
      have HK4 := hide (HK3.out.below hb4)
      clear hb4
      have hlen : (chL id gen l).length ≤ 1000000 := by
        unfold chL
        split
        · split
          · simp
          · rw [rotL_len]; omega
        · simp
      generalize chL id gen l = R at *
      generalize chE id gen l = E at *
      generalize inD l2 l id = D at *
      generalize inE l2 l id = E2 at *
      go_wp2_with fail
      refine (ints_same a1 a3 c1 c3 R.length R _ rfl hlen HJ4.out HK4.out).mono ?_
      rintro e w5 ⟨rfl, hb5⟩
      have HB5 : Hid (Below w.heap.size w w5) := HB4.out.trans (hb5.mono HB4.out.size)
      clear hb5
      go_wp2_with fail
      refine (live_any _).mono ?_
      rintro e w6 ⟨rfl, hb⟩
      have HB6 : Hid (Below w.heap.size w w6) := HB5.out.trans (hb.mono HB5.out.size)
      clear hb
      go_wp2_with fail
      try go_ret
      exact ⟨rfl, HB6.out⟩
theorem walkPlaceChooses (v : Value) (w : World) (h : CameV 24 4 w v) : Calls Try.prog 3 #[v] w fun e w' => e = .returned (.bool true) ∧ Below w.heap.size w w' := by
  obtain ⟨id, gen, a, n, k, a2, n2, k2, l, l2, rfl, h1, h2, h3, h4, h5, h6⟩ := case_open h
  exact chooses_is id gen a n k a2 n2 k2 l l2 w h1 h2 h3 h4 h5 h6
end Go.Proofs.Ytleknjjfmklkcaa
