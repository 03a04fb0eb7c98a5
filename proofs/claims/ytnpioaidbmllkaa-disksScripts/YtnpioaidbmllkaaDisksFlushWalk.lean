/- DisksFlush: for every input the law answers true. -/
import Derived.Test.YtnpioaidbmllkaaDkMath
import Derived.StillTailTactics
import Derived.Lib.QuietBelow
namespace Go.Proofs.Ytnpioaidbmllkaa
open Go.RowKit
set_option linter.unusedVariables false
theorem rd_regrown {b : Nat} {d n : Int} {D : Nat → Dk} {C : Nat → Ct} {wr : World} (h : Bk wr b D) (hC : Cont D C) : ∀ q os, Calls Try.prog 15 #[.pointer (some ⟨b, 0, none⟩), .int .i64 d, .int .i64 n] (Go.Sort.grow (redrawn wr q) os) fun e w'' => e = .returned (.tuple #[.string (rdC C d n), .int .i64 (eHaveC C d n : Nat)]) ∧ ∃ p : Regrown, w'' = Go.Sort.grow (redrawn wr p.d) p.os := fun q os =>
  Calls.regrown_of (read_c b d n D C _ (h.below (below_regrown wr q os)) hC)
set_option maxRecDepth 100000 in
set_option maxHeartbeats 4000000 in
theorem walkDisksFlush (a0 : Option Addr) (l0 c0 : Nat) (a1 : Option Addr) (l1 c1 : Nat) (a2 : Option Addr) (l2 c2 : Nat) (w : World) (h0 : Came 22 w a0 l0 c0) (h1 : Came 28 w a1 l1 c1) (h2 : Came 28 w a2 l2 c2) :
    Calls Try.prog 7 #[.slice a0 l0 c0, .slice a1 l1 c1, .slice a2 l2 c2] w fun e w' => e = .returned (.bool true) ∧ Below w.heap.size w w' := by
  obtain ⟨ops, hol, _, ho63, hops⟩ := came_ops h0
  obtain ⟨kl, hkl, _, hk63, hka⟩ := came_bools h1
  obtain ⟨tl, htl, _, ht63, hta⟩ := came_bools h2
  have HOP := hide hops
  have HKA := hide hka
  have HTA := hide hta
  have HOL := hide hol
  have HKL := hide hkl
  have HTL := hide htl
  clear h0 h1 h2 hops hka hta hol hkl htl
  have key : (20 < l0 ∨ (¬ 20 < l0 ∧ 100 < l1) ∨ (¬ 20 < l0 ∧ ¬ 100 < l1 ∧ 100 < l2)) ∨ (¬ 20 < l0 ∧ ¬ 100 < l1 ∧ ¬ 100 < l2) := by omega
  rcases key with key | ⟨g0, g1, g2⟩
  · rcases key with g0 | ⟨g0, g1⟩ | ⟨g0, g1, g2⟩
    all_goals
      go_enter Try.func7, Try.ntmps7
      go_wp2_with fail
      refine (lawLive_any w).mono ?_
      rintro e w5 ⟨rfl, h5⟩
      have H5 := hide h5
      clear h5
      go_wp2_with fail
      try go_ret
      exact ⟨rfl, H5.out⟩
  · go_enter Try.func7, Try.ntmps7
    go_wp2_with fail
    refine (new_any w).mono ?_
    rintro e w1 ⟨b, rfl, hb, hB1, hb1⟩
    have P1 : Hid (One w w1 b (fun _ => dk0) C0) := by subst hb; exact one_new0 (Below.refl _ w) hB1 hb1
    clear hB1 hb1 hb
    go_wp2_with fail
    go_loopw [8] (fun y wr => ∃ k : Nat, k ≤ l0 ∧ y = .int .i64 k ∧ ∃ D, One w wr b D (wrs C0 (ops.take k))) (fun y _ => l0 - (intOf y).toNat)
    case atStart => exact ⟨0, by omega, rfl, _, P1.out⟩
    case round =>
      obtain ⟨k, hk, rfl, D, hO⟩ := hrel
      have P2 := hide hO
      have HFW : Hid (Few 20 (wrs C0 (ops.take k))) := by
        have h9 := (few0).wrs (l := ops.take k)
        rw [List.length_take] at h9
        exact h9.mono (by omega)
      clear hO P1
      by_cases hlt : k < l0
      · obtain ⟨x, hx⟩ : ∃ x, ops[k]? = some x := ⟨_, List.getElem?_eq_getElem (by have := HOL.out; omega)⟩
        obtain ⟨bo, oo, rfl, hat, his⟩ := HOP.out.at P2.out.below hx
        have e1 := hat.c1
        have e2 := hat.c2
        have e3 := hat.c3
        have HX := hide hx
        have HS63 := hide his.s63
        have hd1 : decide ((k : Int) < (l0 : Int)) = true := by simp; omega
        have hdi : (k : Int) < (l0 : Int) := by omega
        have hni : (0 : Int) ≤ (k : Int) := by omega
        clear hat his hx
        go_wp2_with fail
        go_still_tail 16, (by kernel_rfl)
        change wpList _ _ _ _ _ wr.drew
        have P3 := hide (P2.out.stay ((Below.refl _ wr).drew))
        clear P2 e1 e2 e3
        generalize wr.drew = w2 at *
        go_wp2_with fail
        refine (write_c _ _ _ _ _ _ _ P3.out.bk P3.out.ct HS63.out HFW.out (by decide)).mono ?_
        rintro e w3 ⟨rfl, hd⟩
        obtain ⟨D3, O3⟩ := P3.out.go hd
        have P4 : Hid (One w w3 b D3 (wrs C0 (ops.take (k + 1)))) := by rw [wrs_take HX.out]; exact O3
        clear hd O3 P3
        go_wp2_with fail
        exact ⟨⟨k + 1, by omega, by go_num, _, P4.out⟩, by simp [intOf]; omega⟩
      · have hd1 : decide ((k : Int) < (l0 : Int)) = false := by simp; omega
        generalize wrs C0 (ops.take k) = C at *
        go_wp2_with fail
        clear hlt hd1
        refine (copy_c _ _ _ _ P2.out.bk P2.out.ct HFW.out (by decide)).mono ?_
        rintro e w5 ⟨rfl, E, hB5, hC5, hf5, hb5⟩
        have P5 := hide (P2.out.two hB5 hC5 hf5 hb5)
        clear hB5 hC5 hf5 hb5 P2
        generalize wr.heap.size = cb at *
        go_wp2_with fail
        go_loopw [10] (fun y wr => ∃ q : Nat, q ≤ 12 ∧ y = .int .i64 q ∧ ∃ D, Two w wr b D (flK C q) cb E C) (fun y _ => 12 - (intOf y).toNat)
        case atStart => exact ⟨0, by omega, rfl, _, by rw [flK_zero]; exact P5.out⟩
        case round =>
          obtain ⟨q, hq, rfl, D6, hT⟩ := hrel
          have P6 := hide hT
          clear hT P5
          by_cases hlt2 : q < 12
          · have hd2 : decide ((q : Int) < 12) = true := by simp; omega
            go_wp2_with fail
            refine (flush_c _ _ _ _ _ P6.out.fst.bk P6.out.fst.ct).mono ?_
            rintro e w6 ⟨rfl, hd⟩
            obtain ⟨D7, O7⟩ := P6.out.left hd
            rw [flK_step C hlt2] at O7
            have P7 := hide O7
            clear hd O7 P6
            go_wp2_with fail
            exact ⟨⟨q + 1, by omega, by go_num, _, P7.out⟩, by simp [intOf]; omega⟩
          · have hd2 : decide ((q : Int) < 12) = false := by simp; omega
            have HQ : Hid (flK C q = flK C 12) := by rw [show q = 12 by omega]; exact rfl
            go_wp2_with fail
            have hbl := P6.out.fst.below
            refine (crash_c _ _ _ _ _ _ _ _ _ _ kl tl P6.out.fst.bk P6.out.fst.ct (HKA.out.below hbl) (HTA.out.below hbl) HKL.out HTL.out hk63 ht63 (bools_off P6.out.fst HKA.out) (bools_off P6.out.fst HTA.out) (HFW.out.flK q) (by decide)).mono ?_
            rw [HQ.out]
            rintro e w7 ⟨rfl, hd⟩
            obtain ⟨D8, O8⟩ := P6.out.left hd
            have P8 := hide O8
            clear hd O8 P6 HQ hbl hlt2 hd2
            go_wp2_with fail
            go_loopw [11] (fun y wr => ∃ i : Nat, i ≤ l0 ∧ y = .int .i64 i ∧ Two w wr b D8 (crC kl tl (flK C 12)) cb E C) (fun y _ => l0 - (intOf y).toNat)
            case atStart => exact ⟨0, by omega, rfl, P8.out⟩
            case round =>
              obtain ⟨i, hi, rfl, hT⟩ := hrel
              have P9 := hide hT
              clear hT P8
              by_cases hlt3 : i < l0
              · obtain ⟨x, hx⟩ : ∃ x, ops[i]? = some x := ⟨_, List.getElem?_eq_getElem (by have := HOL.out; omega)⟩
                obtain ⟨bo, oo, rfl, hat, his⟩ := HOP.out.at P9.out.fst.below hx
                have e1 := cell_regrown hat.c1
                have e2 := cell_regrown hat.c2
                have r1 := rd_regrown (d := x.d) (n := x.n) P9.out.fst.bk P9.out.fst.ct
                rw [fl_cr_read, have_same (fl_cr_lost kl tl C)] at r1
                have HX := hide hx
                have hd3 : decide ((i : Int) < (l0 : Int)) = true := by simp; omega
                have hdi : (i : Int) < (l0 : Int) := by omega
                have hni : (0 : Int) ≤ (i : Int) := by omega
                clear hat his hx
                go_wp2_with fail
                refine wp_region_quiet_below (by kernel_rfl) (by kernel_rfl) ?_
                repeat (quiet_step (first | (with_reducible exact r1 _ _)))
                refine wpQuiet_nil ?_
                rintro w8 ⟨pq, hw8⟩
                have hb8 : Below wr.heap.size wr w8 := by rw [hw8]; exact below_regrown _ _ _
                have P10 := hide (P9.out.stay hb8)
                clear e1 e2 r1 hw8 hb8 P9
                obtain ⟨bo', oo', he', hat, his⟩ := HOP.out.at P10.out.fst.below HX.out
                cases he'
                have e1 := cell_regrown hat.c1
                have e2 := cell_regrown hat.c2
                have r1 := rd_regrown (d := x.d) (n := x.n) P10.out.snd.bk P10.out.snd.ct
                clear hat his
                go_wp2_with fail
                refine wp_region_quiet_below (by kernel_rfl) (by kernel_rfl) ?_
                repeat (quiet_step (first | (with_reducible exact r1 _ _)))
                refine wpQuiet_nil ?_
                rintro w9 ⟨pq, hw9⟩
                have hb9 : Below w8.heap.size w8 w9 := by rw [hw9]; exact below_regrown _ _ _
                have P11 := hide (P10.out.stay hb9)
                clear e1 e2 r1 hw9 hb9 P10
                obtain ⟨bo', oo', he', hat, his⟩ := HOP.out.at P11.out.fst.below HX.out
                cases he'
                have e1 := hat.c1
                clear hat his
                go_wp2_with fail
                refine (waits_c _ _ _ _ _ P11.out.fst.bk P11.out.fst.ct).mono ?_
                rw [cr_wait]
                rintro e w10 ⟨rfl, rfl⟩
                go_wp2_with fail
                exact ⟨⟨i + 1, by omega, by go_num, P11.out⟩, by simp [intOf]; omega⟩
              · have hd3 : decide ((i : Int) < (l0 : Int)) = false := by simp; omega
                go_wp2_with fail
                refine (lawLive_any wr).mono ?_
                rintro e w5 ⟨rfl, h5⟩
                have H5 := hide (P9.out.stay h5)
                clear h5
                go_wp2_with fail
                try go_ret
                exact ⟨rfl, H5.out.fst.below⟩
end Go.Proofs.Ytnpioaidbmllkaa
