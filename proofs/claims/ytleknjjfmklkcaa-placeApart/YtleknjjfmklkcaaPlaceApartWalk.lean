/- PlaceApart answers true at every input. -/
import Derived.Test.YtleknjjfmklkcaaPlApart
namespace Go.Proofs.Ytleknjjfmklkcaa
open Go.RowKit
set_option linter.unusedVariables false
set_option maxRecDepth 100000 in
set_option maxHeartbeats 8000000 in
theorem apart_is (id gen : Int) (al : Option Addr) (n k : Nat) (l : List Int) (w : World) (hl : l.length = n) (h63 : n ≤ 9223372036854775807) (hI : IntsAt w al l) :
    Calls Try.prog 5 #[.int .i64 id, .int .i64 gen, .slice al n k] w fun e w' => e = .returned (.bool true) ∧ Below w.heap.size w w' := by
  have HL := hide hl
  have HI := hide hI
  clear hl hI
  by_cases h30 : 30 < n
  · have hd : decide ((30 : Int) < (n : Int)) = true := by simp; omega
    go_enter Try.func5, Try.ntmps5
    go_wp2_with fail
    refine (live_any _).mono ?_
    rintro e w1 ⟨rfl, hb⟩
    have HB1 := hide hb
    clear hb
    go_wp2_with fail
    try go_ret
    exact ⟨rfl, HB1.out⟩
  have hd : decide ((30 : Int) < (n : Int)) = false := by simp; omega
  by_cases hE : chE id gen l = 0
  · obtain ⟨hB, h9, hR⟩ := chE_zero hE
    obtain ⟨hn1, -, hlv⟩ := chB_parts hB
    have hlen12 := live_len hlv
    have HLV := hide hlv
    have h9n : ¬ n < 9 := by rw [← HL.out]; exact h9
    have h12 : n ≤ 12 := by have := HL.out; omega
    have HN1 := hide hn1
    have hc0 := choose_at id gen al n k l _ 9 0 w HL.out (by omega) HI.out hR (rotL_len _ _ _) hE
    have HCH := hide hc0
    clear hc0 hR hE hB h9 hlv hlen12 hn1
    generalize 5 * id.toNat + 7 * gen.toNat = f at *
    go_enter Try.func5, Try.ntmps5
    go_wp2_with fail
    refine HCH.out.mono ?_
    rintro e w1 ⟨a1, c1, rfl, hc1, hI1, hb1⟩
    have HB1 := hide hb1
    have HI1 := hide hI1
    clear hb1 HCH
    rcases hI1 with q | ⟨b, o, rfl, hbl, hcell⟩
    · have := rotL_len l f 9; rw [q] at this; simp at this
    have HC := hide hcell
    clear hcell
    have hIl := HI.out
    rcases hIl with q | ⟨bl, ol, rfl, hbll, hcelll⟩
    · have := HL.out; rw [q] at this; simp at this; omega
    have HCl := hide hcelll
    clear hcelll
    have hbl1 : bl < w1.heap.size := Nat.lt_of_lt_of_le hbll HB1.out.size
    go_wp2_with fail
    go_loopw [9] (fun y wr => ∃ i : Nat, i ≤ 9 ∧ y = .int .i64 i ∧ Below w1.heap.size w1 wr) (fun y _ => 9 - (intOf y).toNat)
    case atStart => exact ⟨0, by omega, rfl, Below.refl _ _⟩
    case round =>
      obtain ⟨i, hi, rfl, hbr⟩ := hrel
      have HBr := hide hbr
      clear hbr
      by_cases hlt : i < 9
      · have hdi : decide ((i : Int) < 9) = true := by simp; omega
        have hii : (i : Int) < 9 := by omega
        have hi0 : (0 : Int) ≤ (i : Int) := by omega
        have HRI := hide (rotL_at (l := l) (f := f) hlt)
        have HIN := hide (rot_in (l := l) (f := f) (i := i) (by have := HL.out; omega))
        have HAP : Hid (∀ j, j < i → rot l f j ≠ rot l f i) := fun j hj => rot_apart HLV.out hj (by have := HL.out; omega)
        generalize hxx : rot l f i = x at *
        clear hxx
        go_wp2_with fail
        go_loopw [10, 11] (fun u y wr => ∃ j : Nat, j ≤ n ∧ y = .int .i64 j ∧ u = .bool (hasB (l.take j) x) ∧ Below w1.heap.size w1 wr) (fun _ y _ => n - (intOf y).toNat)
        case atStart => exact ⟨0, by omega, rfl, by simp [hasB], HBr.out⟩
        case round =>
          obtain ⟨j, hj, rfl, rfl, hbr2⟩ := hrel
          have HBr2 := hide hbr2
          clear hbr2
          by_cases hjl : j < n
          · have hdj : decide ((j : Int) < (n : Int)) = true := by simp; omega
            have hjj : (j : Int) < (n : Int) := by omega
            have hj0 : (0 : Int) ≤ (j : Int) := by omega
            have HD := hide (getD_at (l := l) (k := j) (by have := HL.out; omega))
            have cl := (HBr2.out.cell (p := ⟨bl, ol + j, none⟩) hbl1).trans ((HB1.out.cell (p := ⟨bl, ol + j, none⟩) hbll).trans (HCl.out j _ HD.out))
            have cr := (HBr2.out.cell (p := ⟨b, o + i, none⟩) hbl).trans (HC.out i x HRI.out)
            have HT := hide (has_take HD.out x)
            clear HD
            generalize l.getD j 0 = v at *
            cases hb : hasB (l.take j) x with
            | true =>
              rw [hb] at HT
              go_wp2_with fail
              go_quiet (fail)
              go_wp2_with fail
              all_goals exact ⟨⟨j + 1, by omega, by go_num, by rw [HT.out]; rfl, drawn_below HBr2.out _⟩, by simp [intOf]; omega⟩
            | false =>
              rw [hb] at HT
              cases hv : (v == x) with
              | true =>
                rw [hv] at HT
                go_wp2_with fail
                go_quiet (fail)
                go_wp2_with fail
                all_goals exact ⟨⟨j + 1, by omega, by go_num, by rw [HT.out]; rfl, drawn_below HBr2.out _⟩, by simp [intOf]; omega⟩
              | false =>
                rw [hv] at HT
                go_wp2_with fail
                go_quiet (fail)
                go_wp2_with fail
                all_goals exact ⟨⟨j + 1, by omega, by go_num, by rw [HT.out]; rfl, drawn_below HBr2.out _⟩, by simp [intOf]; omega⟩
          · have hdj : decide ((j : Int) < (n : Int)) = false := by simp; omega
            have hT : hasB (l.take j) x = true := by rw [List.take_of_length_le (by have := HL.out; omega)]; exact HIN.out
            rw [hT]
            clear hT
            go_wp2_with fail
            go_loopw [10, 12] (fun u y wr => ∃ j : Nat, j ≤ i ∧ y = .int .i64 j ∧ u = .bool true ∧ Below w1.heap.size w1 wr) (fun _ y _ => i - (intOf y).toNat)
            case atStart => exact ⟨0, by omega, rfl, rfl, HBr2.out⟩
            case round =>
              obtain ⟨m, hm, rfl, rfl, hbr3⟩ := hrel
              have HBr3 := hide hbr3
              clear hbr3
              by_cases hml : m < i
              · have hdm : decide ((m : Int) < (i : Int)) = true := by simp; omega
                have hmi : (m : Int) < 9 := by omega
                have hm0 : (0 : Int) ≤ (m : Int) := by omega
                have cm := (HBr3.out.cell (p := ⟨b, o + m, none⟩) hbl).trans (HC.out m _ (rotL_at (by omega)))
                have cr := (HBr3.out.cell (p := ⟨b, o + i, none⟩) hbl).trans (HC.out i x HRI.out)
                have hne := HAP.out m hml
                generalize rot l f m = v at *
                have hv : (v == x) = false := by simpa using hne
                have hv2 : (v != x) = true := by simpa using hne
                go_wp2_with fail
                go_quiet (fail)
                go_wp2_with fail
                all_goals exact ⟨⟨m + 1, by omega, by go_num, rfl, drawn_below HBr3.out _⟩, by simp [intOf]; omega⟩
              · have hdm : decide ((m : Int) < (i : Int)) = false := by simp; omega
                go_wp2_with fail
                all_goals first | exact ⟨⟨i + 1, by omega, by go_num, HBr3.out⟩, by simp [intOf]; omega⟩ | (go_roundw; (case rel => exact ⟨i + 1, by omega, by go_num, HBr3.out⟩); (case measure => simp [intOf]; omega))
      · have hdi : decide ((i : Int) < 9) = false := by simp; omega
        have HIw : Hid (IntsAt wr (some ⟨bl, ol, none⟩) l) := HI.out.below (HB1.out.trans (HBr.out.mono HB1.out.size))
        have HRw := hide (HI1.out.below HBr.out)
        have HBw : Hid (Below w.heap.size w wr) := HB1.out.trans (HBr.out.mono HB1.out.size)
        have hinB : inB id l = true := by unfold inB; rw [HN1.out, HLV.out]; rfl
        have HINB := hide hinB
        clear hinB
        by_cases hn9 : n = 9
        · have hd9 : ((n : Int) == 9) = true := by simp [hn9]
          have HNONE := hide (ins_nine (l := l) (f := f) (g := id.toNat) (by rw [HL.out]; exact hn9))
          have hq := instead_any (rotL l f 9) l id (some ⟨b, o, none⟩) (some ⟨bl, ol, none⟩) 9 c1 n k wr (rotL_len _ _ _) (by omega) HRw.out HL.out h63 HIw.out
          have HQ : Hid (Calls Try.prog 12 #[.slice (some ⟨b, o, none⟩) 9 c1, .slice (some ⟨bl, ol, none⟩) n k, .int .i64 id] wr fun e w' => e = .returned (.tuple #[.int .i64 0, .int .i64 2]) ∧ Below wr.heap.size wr w') := hq.mono fun e w' ⟨he, hb⟩ => ⟨by rw [he]; unfold inD inE; rw [HINB.out, HNONE.out]; rfl, hb⟩
          have HN9 := hide hn9
          clear hq hn9
          go_wp2_with fail
          refine HQ.out.mono ?_
          rintro e w2 ⟨rfl, hb2⟩
          have HB2 : Hid (Below w.heap.size w w2) := HBw.out.trans (hb2.mono HBw.out.size)
          clear hb2
          go_wp2_with fail
          refine (live_any _).mono ?_
          rintro e w3 ⟨rfl, hb3⟩
          have HB3 : Hid (Below w.heap.size w w3) := HB2.out.trans (hb3.mono HB2.out.size)
          clear hb3
          go_wp2_with fail
          try go_ret
          exact ⟨rfl, HB3.out⟩
        · have hd9 : ((n : Int) == 9) = false := by simp; omega
          obtain ⟨d, hS, hNot⟩ := ins_more (l := l) HLV.out (f := f) (g := id.toNat) (by have := HL.out; omega)
          have HSOME := hide hS
          have HNOT := hide hNot
          have hq := instead_any (rotL l f 9) l id (some ⟨b, o, none⟩) (some ⟨bl, ol, none⟩) 9 c1 n k wr (rotL_len _ _ _) (by omega) HRw.out HL.out h63 HIw.out
          have HQ : Hid (Calls Try.prog 12 #[.slice (some ⟨b, o, none⟩) 9 c1, .slice (some ⟨bl, ol, none⟩) n k, .int .i64 id] wr fun e w' => e = .returned (.tuple #[.int .i64 d, .int .i64 0]) ∧ Below wr.heap.size wr w') := hq.mono fun e w' ⟨he, hb⟩ => ⟨by rw [he]; unfold inD inE; rw [HINB.out, HSOME.out]; rfl, hb⟩
          clear hq hS hNot
          go_wp2_with fail
          refine HQ.out.mono ?_
          rintro e w2 ⟨rfl, hb2⟩
          have HB2 : Hid (Below w.heap.size w w2) := HBw.out.trans (hb2.mono HBw.out.size)
          have HC2 : Hid (∀ (i : Nat) (s : Int), (rotL l f 9)[i]? = some s → w2.cell? ⟨b, o + i, none⟩ = some (.int .i64 s)) := fun i s hs => (hb2.cell (p := ⟨b, o + i, none⟩) (Nat.lt_of_lt_of_le hbl HBr.out.size)).trans ((HBr.out.cell (p := ⟨b, o + i, none⟩) hbl).trans (HC.out i s hs))
          clear hb2
          go_wp2_with fail
          go_loop [15] (fun y => ∃ j : Nat, j ≤ 9 ∧ y = .int .i64 j) (fun y => 9 - (intOf y).toNat)
          case atStart => exact ⟨0, by omega, rfl⟩
          case round =>
            obtain ⟨j, hj, rfl⟩ := hrel
            by_cases hjl : j < 9
            · have hdj : decide ((j : Int) < 9) = true := by simp; omega
              have hjj : (j : Int) < 9 := by omega
              have cj := HC2.out j _ (rotL_at hjl)
              have hne : rot l f j ≠ d := fun e => by have := rotL_has (l := l) (f := f) hjl; rw [e, HNOT.out] at this; cases this
              generalize rot l f j = v at *
              have hv : (v == d) = false := by simpa using hne
              go_wp2_with fail
              go_round
              case rel => exact ⟨j + 1, by omega, by go_num⟩
              case measure => simp [intOf]; omega
            · have hdj : decide ((j : Int) < 9) = false := by simp; omega
              go_wp2_with fail
              refine (live_any _).mono ?_
              rintro e w3 ⟨rfl, hb3⟩
              have HB3 : Hid (Below w.heap.size w w3) := HB2.out.trans (hb3.mono HB2.out.size)
              clear hb3
              go_wp2_with fail
              try go_ret
              exact ⟨rfl, HB3.out⟩
  · have HR := hide (chL_bad hE)
    have hc0 := choose_at id gen al n k l [] 0 (chE id gen l) w HL.out (by omega) HI.out HR.out rfl rfl
    have HCH := hide hc0
    clear hc0
    generalize chE id gen l = E at *
    have hq1 : (E == 0) = false := by simpa using hE
    have hq2 : (E != 0) = true := by simpa using hE
    go_enter Try.func5, Try.ntmps5
    go_wp2_with fail
    refine HCH.out.mono ?_
    rintro e w1 ⟨a1, c1, rfl, hc1, hI1, hb1⟩
    have HB1 := hide hb1
    clear hb1 HCH hI1
    go_wp2_with fail
    refine (live_any _).mono ?_
    rintro e w3 ⟨rfl, hb3⟩
    have HB3 : Hid (Below w.heap.size w w3) := HB1.out.trans (hb3.mono HB1.out.size)
    clear hb3
    go_wp2_with fail
    try go_ret
    exact ⟨rfl, HB3.out⟩
theorem walkPlaceApart (id gen : Int) (a : Option Addr) (n c : Nat) (w : World) (_ : (Lit.int .i64 id).wf = true) (_ : (Lit.int .i64 gen).wf = true) (h : Came 22 w a n c) : Calls Try.prog 5 #[.int .i64 id, .int .i64 gen, .slice a n c] w fun e w' => e = .returned (.bool true) ∧ Below w.heap.size w w' := by
  obtain ⟨l, h1, -, h2, h3⟩ := came_ints h
  exact apart_is id gen a n c l w h1 h2 h3
end Go.Proofs.Ytleknjjfmklkcaa
