/- PlaceRound answers true at every input. -/
import Derived.Test.YtleknjjfmklkcaaPlRoundMath
namespace Go.Proofs.Ytleknjjfmklkcaa
open Go.RowKit
set_option linter.unusedVariables false
set_option maxRecDepth 100000 in
set_option maxHeartbeats 8000000 in
theorem walkPlaceRound (id : Int) (w : World) (_ : (Lit.int .i64 id).wf = true) : Calls Try.prog 6 #[.int .i64 id] w fun e w' => e = .returned (.bool true) ∧ Below w.heap.size w w' := by
  by_cases h1 : id < 0
  · have hd : decide (id < 0) = true := by simpa using h1
    go_enter Try.func6, Try.ntmps6
    go_wp2_with fail
    refine (live_any _).mono ?_
    rintro e w1 ⟨rfl, hb⟩
    have HB1 := hide hb
    clear hb
    go_wp2_with fail
    try go_ret
    exact ⟨rfl, HB1.out⟩
  have hd : decide (id < 0) = false := by simpa using h1
  by_cases h2 : 549755813888 < id
  · have hd2 : decide (549755813888 < id) = true := by simpa using h2
    go_enter Try.func6, Try.ntmps6
    go_wp2_with fail
    refine (live_any _).mono ?_
    rintro e w1 ⟨rfl, hb⟩
    have HB1 := hide hb
    clear hb
    go_wp2_with fail
    try go_ret
    exact ⟨rfl, HB1.out⟩
  have hd2 : decide (549755813888 < id) = false := by simpa using h2
  obtain ⟨j, rfl⟩ := Int.eq_ofNat_of_zero_le (show 0 ≤ id by omega)
  have hj : j ≤ 549755813888 := by omega
  clear h1 h2
  have hmk := make_ints 12 (by omega) w
  rw [show ((12 : Nat) : Int) = 12 from rfl] at hmk
  go_enter Try.func6, Try.ntmps6
  go_wp2_with fail
  clear hmk hd hd2
  have HW0 : Hid (Below w.heap.size w (w.alloc (.cells (fnC 12 fun _ => .int .i64 0) 3)) ∧ CntAt (w.alloc (.cells (fnC 12 fun _ => .int .i64 0) 3)) w.heap.size (fun _ => 0)) := ⟨(Below.refl _ _).alloc (Nat.le_refl _) _, heap_alloc_new _ _⟩
  go_loopw [4] (fun y wr => ∃ i : Nat, i ≤ 12 ∧ y = .int .i64 i ∧ CntAt wr w.heap.size (rcO j i) ∧ Below w.heap.size w wr) (fun y _ => 12 - (intOf y).toNat)
  case atStart => exact ⟨0, by omega, rfl, HW0.out.2.congr fun d hd => by simp [rcO], HW0.out.1⟩
  case round =>
    obtain ⟨i, hi, rfl, hcnt, hbl⟩ := hrel
    have HC := hide hcnt
    have HB := hide hbl
    clear hcnt hbl HW0
    by_cases hlt : i < 12
    · have hdi : decide ((i : Int) < 12) = true := by simp; omega
      have hsum : (j : Int) + (i : Int) = ((j + i : Nat) : Int) := by omega
      have hwr : IntKind.i64.wrap ((j : Int) + (i : Int)) = ((j + i : Nat) : Int) := by rw [hsum]; exact wrap_in (by omega) (by omega)
      clear hsum
      go_wp2_with fail
      refine (all_any _).mono ?_
      rintro e w1 ⟨rfl, hI1, hb1⟩
      have HI1 := hide hI1
      have HC1 : Hid (CntAt w1 w.heap.size (rcO j i)) := FnAt.below HC.out hb1 HC.out.lt
      have HB1 : Hid (Below w.heap.size w w1) := HB.out.trans (hb1.mono HB.out.size)
      clear hI1 hb1
      go_wp2_with fail
      rw [show ((j : Int) + (i : Int)) = ((j + i : Nat) : Int) by omega]
      refine (choose_all (j + i) _ _ (by omega) HI1.out).mono ?_
      rintro e w2 ⟨g, o, c, rfl, hc9, hgn, hg, hcell, hb2⟩
      have HC2 : Hid (CntAt w2 w.heap.size (rcP j i 0)) := CntAt.congr (FnAt.below HC1.out hb2 HC1.out.lt) fun d _ => (rcP_zero _ _ _).symm
      have HB2 : Hid (Below w.heap.size w w2) := HB1.out.trans (hb2.mono HB1.out.size)
      have HG := hide hcell
      have hgne : g ≠ w.heap.size := by have := HC1.out.lt; omega
      clear hcell hb2
      go_wp2_with fail
      go_loopw [7] (fun y wr => ∃ k : Nat, k ≤ 9 ∧ y = .int .i64 k ∧ CntAt wr w.heap.size (rcP j i k) ∧ Below w.heap.size w wr ∧ wr.heap[g]? = w2.heap[g]?) (fun y _ => 9 - (intOf y).toNat)
      case atStart => exact ⟨0, by omega, rfl, HC2.out, HB2.out, rfl⟩
      case round =>
        obtain ⟨k, hk, rfl, hcnt, hbl, hgs⟩ := hrel
        have HC3 := hide hcnt
        have HB3 := hide hbl
        have HGS := hide hgs
        clear hcnt hbl hgs
        by_cases hkl : k < 9
        · have hdk : decide ((k : Int) < 9) = true := by simp; omega
          have hki : (k : Int) < 9 := by omega
          have ck := (World.cell?_of_block (a := ⟨g, o + k, none⟩) HGS.out).trans (HG.out k hkl)
          have hp : (5 * (j + i) + k) % 12 < 12 := Nat.mod_lt _ (by decide)
          have HNX : Hid (∀ d : Nat, d < 12 → rcP j i k d + (if d = (5 * (j + i) + k) % 12 then 1 else 0) = rcP j i (k + 1) d) := fun d _ => (rcP_succ j i k d).symm
          have hle : rcP j i k ((5 * (j + i) + k) % 12) ≤ 1000 := rcP_le (by omega) (by omega)
          generalize (5 * (j + i) + k) % 12 = p at *
          have kc := HC3.out.cell hp
          have kf : wr.frozen? ⟨w.heap.size, p, none⟩ = false := FnAt.free HC3.out p
          have HINC := hide (HC3.out.inc p)
          generalize hF : rcP j i k p = F at *
          clear hF
          have hwr2 : IntKind.i64.wrap ((F : Int) + 1) = ((F + 1 : Nat) : Int) := by
            rw [show ((F : Int) + 1) = ((F + 1 : Nat) : Int) by omega]; exact wrap_in (by omega) (by omega)
          have hpi : (p : Int) < 12 := by omega
          have hp0 : (0 : Int) ≤ (p : Int) := by omega
          have q1 : decide ((p : Int) < 0) = false := by simp
          have q2 : decide ((11 : Int) < (p : Int)) = false := by simp; omega
          go_wp2_with fail
          go_roundw
          case rel => exact ⟨k + 1, by omega, by go_num, HINC.out.congr HNX.out, HB3.out.setCell (p := ⟨w.heap.size, p, none⟩) (Nat.le_refl _) _, (Below.heap_setCell _ _ _ _ (by show g ≠ w.heap.size; omega)).trans HGS.out⟩
          case measure => simp [intOf]; omega
        · have hdk : decide ((k : Int) < 9) = false := by simp; omega
          have HE : Hid (∀ d : Nat, rcP j i k d = rcO j (i + 1) d) := fun d => by
            obtain rfl : k = 9 := by omega
            exact rcP_end j i d
          go_wp2_with fail
          all_goals first | exact ⟨⟨i + 1, by omega, by go_num, HC3.out.congr fun d _ => HE.out d, HB3.out⟩, by simp [intOf]; omega⟩ | (go_roundw; (case rel => exact ⟨i + 1, by omega, by go_num, HC3.out.congr fun d _ => HE.out d, HB3.out⟩); (case measure => simp [intOf]; omega))
    · have hdi : decide ((i : Int) < 12) = false := by simp; omega
      obtain rfl : i = 12 := by omega
      have HC9 : Hid (∀ d, d < 12 → wr.cell? ⟨w.heap.size, d, none⟩ = some (.int .i64 9)) := fun d hd => by
        have := HC.out.cell hd
        rw [round_nine j hd] at this
        exact this
      go_wp2_with fail
      go_loop [8] (fun y => ∃ d : Nat, d ≤ 12 ∧ y = .int .i64 d) (fun y => 12 - (intOf y).toNat)
      case atStart => exact ⟨0, by omega, rfl⟩
      case round =>
        obtain ⟨d, hd, rfl⟩ := hrel
        by_cases hdl : d < 12
        · have hdd : decide ((d : Int) < 12) = true := by simp; omega
          have hdi : (d : Int) < 12 := by omega
          have cd := HC9.out d hdl
          go_wp2_with fail
          go_round
          case rel => exact ⟨d + 1, by omega, by go_num⟩
          case measure => simp [intOf]; omega
        · have hdd : decide ((d : Int) < 12) = false := by simp; omega
          go_wp2_with fail
          refine (live_any _).mono ?_
          rintro e w3 ⟨rfl, hb3⟩
          have HB3 : Hid (Below w.heap.size w w3) := HB.out.trans (hb3.mono HB.out.size)
          clear hb3
          go_wp2_with fail
          try go_ret
          exact ⟨rfl, HB3.out⟩
end Go.Proofs.Ytleknjjfmklkcaa
