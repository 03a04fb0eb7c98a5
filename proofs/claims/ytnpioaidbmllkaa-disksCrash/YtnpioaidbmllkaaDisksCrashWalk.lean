/- DisksCrash: for every input the law answers true. -/
import Derived.Test.YtnpioaidbmllkaaDkCrMath
import Derived.StillTailTactics
import Derived.Lib.QuietBelow
namespace Go.Proofs.Ytnpioaidbmllkaa
open Go.RowKit
set_option linter.unusedVariables false
theorem op_kept {w W : World} {x : OpR} (h : Below (w.alloc (.cells #[.int .i64 x.act, .int .i64 x.d, .int .i64 x.n, .string x.s, .slice x.ka x.kn x.kc, .slice x.ta x.tn x.tc] 30)).heap.size (w.alloc (.cells #[.int .i64 x.act, .int .i64 x.d, .int .i64 x.n, .string x.s, .slice x.ka x.kn x.kc, .slice x.ta x.tn x.tc] 30)) W) : W.cell? ⟨w.heap.size, 1, none⟩ = some (.int .i64 x.d) ∧ W.cell? ⟨w.heap.size, 2, none⟩ = some (.int .i64 x.n) := by
  have hb : W.heap[w.heap.size]? = _ := (h.block w.heap.size (by rw [World.size_alloc]; omega)).trans (op_box (w := w) (x := x))
  exact ⟨cell_of_block hb, cell_of_block hb⟩
theorem str_dec (s t : ByteArray) : (s.toList == t.toList) = decide (s = t) := by
  by_cases h : s = t
  · subst h; simp
  · rw [decide_eq_false h, beq_eq_false_iff_ne]
    intro e
    rw [ByteArray.toList_eq, ByteArray.toList_eq] at e
    exact h (ByteArray.ext (Array.toList_inj.1 e))
theorem below_drewN (w : World) (m : Nat) : Below w.heap.size w (w.drewN m) := ⟨rfl, rfl, rfl, Nat.le_refl _, fun _ _ => rfl⟩
set_option maxRecDepth 100000 in
set_option maxHeartbeats 8000000 in
theorem walkDisksCrash (a0 : Option Addr) (l0 c0 : Nat) (a1 : Option Addr) (l1 c1 : Nat) (a2 : Option Addr) (l2 c2 : Nat) (w : World) (h0 : Came 22 w a0 l0 c0) (h1 : Came 22 w a1 l1 c1) (h2 : Came 28 w a2 l2 c2) :
    Calls Try.prog 4 #[.slice a0 l0 c0, .slice a1 l1 c1, .slice a2 l2 c2] w fun e w' => e = .returned (.bool true) ∧ Below w.heap.size w w' := by
  obtain ⟨ops, hol, _, ho63, hops⟩ := came_ops h0
  obtain ⟨lat, hll, _, hl63, hlat⟩ := came_ops h1
  obtain ⟨kl, hkl, _, hk63, hka⟩ := came_bools h2
  have HOP := hide hops
  have HLA := hide hlat
  have HKA := hide hka
  have HOL := hide hol
  have HLL := hide hll
  have HKL := hide hkl
  clear h0 h1 h2 hops hka hlat hol hkl hll
  have key : (20 < l0 ∨ (¬ 20 < l0 ∧ 20 < l1) ∨ (¬ 20 < l0 ∧ ¬ 20 < l1 ∧ 100 < l2)) ∨ (¬ 20 < l0 ∧ ¬ 20 < l1 ∧ ¬ 100 < l2) := by omega
  rcases key with key | ⟨g0, g1, g2⟩
  · rcases key with g0 | ⟨g0, g1⟩ | ⟨g0, g1, g2⟩
    all_goals
      go_enter Try.func4, Try.ntmps4
      go_wp2_with fail
      refine (lawLive_any w).mono ?_
      rintro e w5 ⟨rfl, h5⟩
      have H5 := hide h5
      clear h5
      go_wp2_with fail
      try go_ret
      exact ⟨rfl, H5.out⟩
  · go_enter Try.func4, Try.ntmps4
    go_wp2_with fail
    refine (new_any w).mono ?_
    rintro e w1 ⟨b, rfl, hb, hB1, hb1⟩
    have P1 : Hid (One w w1 b (fun _ => dk0) C0) := by subst hb; exact one_new0 (Below.refl _ w) hB1 hb1
    clear hB1 hb1 hb
    go_wp2_with fail
    go_loopw [8] (fun y wr => ∃ k : Nat, k ≤ l0 ∧ y = .int .i64 k ∧ ∃ D, One w wr b D (wfs C0 (ops.take k))) (fun y _ => l0 - (intOf y).toNat)
    case atStart => exact ⟨0, by omega, rfl, _, P1.out⟩
    case round =>
      obtain ⟨k, hk, rfl, D, hO⟩ := hrel
      have P2 := hide hO
      have HST : Hid (Still (wfs C0 (ops.take k))) := still0.wfs
      clear hO P1
      by_cases hlt : k < l0
      · obtain ⟨x, hx⟩ : ∃ x, ops[k]? = some x := ⟨_, List.getElem?_eq_getElem (by have := HOL.out; omega)⟩
        obtain ⟨bo, oo, rfl, hat, his⟩ := HOP.out.at P2.out.below hx
        have e1 := hat.c1
        have e2 := hat.c2
        have e3 := hat.c3
        have HX := hide hx
        have HS63 := hide his.s63
        have hd1 : decide ((k : Int) < (l0 : Int)) = true := by simp; omega
        have hdi : (k : Int) < (l0 : Int) := by omega
        have hni : (0 : Int) ≤ (k : Int) := by omega
        clear hat his hx
        go_wp2_with fail
        go_still_tail 16, (by kernel_rfl)
        change wpList _ _ _ _ _ wr.drew
        have P3 := hide (P2.out.stay ((Below.refl _ wr).drew))
        clear P2 e1 e2 e3
        generalize wr.drew = w2 at *
        go_wp2_with fail
        refine (write_c _ _ _ _ _ _ _ P3.out.bk P3.out.ct HS63.out HST.out.few (by decide)).mono ?_
        rintro e w3 ⟨rfl, hd⟩
        obtain ⟨D3, O3⟩ := P3.out.go hd
        have P4 := hide O3
        clear hd O3 P3
        obtain ⟨bo', oo', he', hat, his⟩ := HOP.out.at P4.out.below HX.out
        cases he'
        have e1 := hat.c1
        clear hat his
        go_wp2_with fail
        refine (flush_c _ _ _ _ _ P4.out.bk P4.out.ct).mono ?_
        rintro e w4 ⟨rfl, hd⟩
        obtain ⟨D4, O4⟩ := P4.out.go hd
        have P5 : Hid (One w w4 b D4 (wfs C0 (ops.take (k + 1)))) := by rw [wfs_take HX.out]; exact O4
        clear hd O4 P4 e1
        go_wp2_with fail
        exact ⟨⟨k + 1, by omega, by go_num, _, P5.out⟩, by simp [intOf]; omega⟩
      · have hd1 : decide ((k : Int) < (l0 : Int)) = false := by simp; omega
        generalize wfs C0 (ops.take k) = C at *
        go_wp2_with fail
        clear hlt hd1
        refine (copy_c _ _ _ _ P2.out.bk P2.out.ct HST.out.few (by decide)).mono ?_
        rintro e w5 ⟨rfl, E, hB5, hC5, hf5, hb5⟩
        have P5 := hide (P2.out.two hB5 hC5 hf5 hb5)
        clear hB5 hC5 hf5 hb5 P2
        generalize wr.heap.size = cb at *
        go_wp2_with fail
        go_loopw [10] (fun y wr => ∃ q : Nat, q ≤ l1 ∧ y = .int .i64 q ∧ ∃ D, Two w wr b D (wrs C (lat.take q)) cb E C) (fun y _ => l1 - (intOf y).toNat)
        case atStart => exact ⟨0, by omega, rfl, _, P5.out⟩
        case round =>
          obtain ⟨q, hq, rfl, D6, hT⟩ := hrel
          have P6 := hide hT
          clear hT P5
          have HFW : Hid (Few 20 (wrs C (lat.take q))) := by
            have h9 := (HST.out.few).wrs (l := lat.take q)
            rw [List.length_take] at h9
            exact h9.mono (by omega)
          by_cases hlt2 : q < l1
          · obtain ⟨x, hx⟩ : ∃ x, lat[q]? = some x := ⟨_, List.getElem?_eq_getElem (by have := HLL.out; omega)⟩
            obtain ⟨bo, oo, rfl, hat, his⟩ := HLA.out.at P6.out.fst.below hx
            have e1 := hat.c1
            have e2 := hat.c2
            have e3 := hat.c3
            have HX := hide hx
            have HS63 := hide his.s63
            have hd2 : decide ((q : Int) < (l1 : Int)) = true := by simp; omega
            have hdi : (q : Int) < (l1 : Int) := by omega
            have hni : (0 : Int) ≤ (q : Int) := by omega
            clear hat his hx
            go_wp2_with fail
            go_still_tail 16, (by kernel_rfl)
            change wpList _ _ _ _ _ wr.drew
            have P7 := hide (P6.out.stay ((Below.refl _ wr).drew))
            clear P6 e1 e2 e3
            generalize wr.drew = w2 at *
            go_wp2_with fail
            refine (write_c _ _ _ _ _ _ _ P7.out.fst.bk P7.out.fst.ct HS63.out HFW.out (by decide)).mono ?_
            rintro e w3 ⟨rfl, hd⟩
            obtain ⟨D3, O3⟩ := P7.out.left hd
            have P8 : Hid (Two w w3 b D3 (wrs C (lat.take (q + 1))) cb E C) := by rw [wrs_take HX.out]; exact O3
            clear hd O3 P7
            go_wp2_with fail
            exact ⟨⟨q + 1, by omega, by go_num, _, P8.out⟩, by simp [intOf]; omega⟩
          · have hd2 : decide ((q : Int) < (l1 : Int)) = false := by simp; omega
            have HFR : Hid (From C lat (wrs C (lat.take q))) := by
              have h9 := (From.start HST.out).wrs HST.out (l := lat.take q)
              rw [List.nil_append, List.take_of_length_le (by have := HLL.out; omega)] at h9
              rw [List.take_of_length_le (by have := HLL.out; omega)]
              exact h9
            generalize wrs C (lat.take q) = C2 at *
            go_wp2_with fail
            have hbl := P6.out.fst.below
            refine (crash_c _ _ _ _ _ none _ 0 _ 0 kl [] P6.out.fst.bk P6.out.fst.ct (HKA.out.below hbl) (.inl rfl) HKL.out rfl hk63 (by decide) (bools_off P6.out.fst HKA.out) (.inl rfl) HFW.out (by decide)).mono ?_
            rintro e w7 ⟨rfl, hd⟩
            obtain ⟨D8, O8⟩ := P6.out.left hd
            have P8 := hide O8
            clear hd O8 P6 hbl hlt2 hd2
            go_wp2_with fail
            go_loopw [11] (fun y wr => ∃ i : Nat, i ≤ l1 ∧ y = .int .i64 i ∧ Two w wr b D8 (crC kl [] C2) cb E C) (fun y _ => l1 - (intOf y).toNat)
            case atStart => exact ⟨0, by omega, rfl, P8.out⟩
            case round =>
              obtain ⟨i, hi, rfl, hT⟩ := hrel
              have P9 := hide hT
              clear hT P8
              by_cases hlt3 : i < l1
              · obtain ⟨x, hx⟩ : ∃ x, lat[i]? = some x := ⟨_, List.getElem?_eq_getElem (by have := HLL.out; omega)⟩
                obtain ⟨bo, oo, rfl, hat, his⟩ := HLA.out.at P9.out.fst.below hx
                have e0 := hat.c0
                have e1 := hat.c1
                have e2 := hat.c2
                have e3 := hat.c3
                have e4 := hat.c4
                have e5 := hat.c5
                have hd3 : decide ((i : Int) < (l1 : Int)) = true := by simp; omega
                have hdi : (i : Int) < (l1 : Int) := by omega
                have hni : (0 : Int) ≤ (i : Int) := by omega
                have HFA := hide (fnd_all HST.out HFR.out kl x (j := l1) (by have := HLL.out; omega))
                have P10 := hide (P9.out.stay ((Below.refl _ wr).alloc (Nat.le_refl _) (.cells #[.int .i64 x.act, .int .i64 x.d, .int .i64 x.n, .string x.s, .slice x.ka x.kn x.kc, .slice x.ta x.tn x.tc] 30)))
                have HEH : Hid (eHaveC (crC kl [] C2) x.d x.n = eHaveC C x.d x.n) := have_same (C := C) (C' := crC kl [] C2) HFR.out.lost _ _
                clear hat his hx P9
                go_wp2_with fail
                refine (read_c _ _ _ _ _ _ P10.out.fst.bk P10.out.fst.ct).mono ?_
                rw [HEH.out]
                generalize rdC (crC kl [] C2) x.d x.n = sS at *
                rintro e w8 ⟨rfl, h8⟩
                have P11 := hide (P10.out.stay h8)
                have hk8 := op_kept h8
                have H8 := hide h8
                obtain ⟨f1, f2⟩ := hk8
                clear h8 e0 e1 e2 e3 e4 e5
                go_wp2_with fail
                refine (read_c _ _ _ _ _ _ P11.out.snd.bk P11.out.snd.ct).mono ?_
                rintro e w9 ⟨rfl, h9⟩
                have P12 := hide (P11.out.stay h9)
                have h89 := H8.out.trans (h9.mono H8.out.size)
                obtain ⟨f3, f4⟩ := op_kept h89
                have H9 := hide h89
                clear h9 h89 f1 f2 P11 P10 H8
                generalize rdC C x.d x.n = tT at *
                have HF0 := hide (fnd_zero sS tT x lat)
                generalize wr.heap.size = bx at *
                go_wp2_with fail
                go_loopw [17, 18] (fun f y wi => ∃ j : Nat, j ≤ l1 ∧ y = .int .i64 j ∧ f = .bool (fnd sS tT x lat j) ∧ Two w wi b D8 (crC kl [] C2) cb E C ∧ wi.cell? ⟨bx, 1, none⟩ = some (.int .i64 x.d) ∧ wi.cell? ⟨bx, 2, none⟩ = some (.int .i64 x.n)) (fun _ y _ => l1 - (intOf y).toNat)
                case atStart => exact ⟨0, by omega, rfl, by rw [HF0.out, str_dec], P12.out, f3, f4⟩
                case round =>
                  obtain ⟨j, hj, rfl, rfl, hT, f5, f6⟩ := hrel
                  have P13 := hide hT
                  clear hT P12 f3 f4
                  by_cases hlt4 : j < l1
                  · obtain ⟨y, hy⟩ : ∃ y, lat[j]? = some y := ⟨_, List.getElem?_eq_getElem (by have := HLL.out; omega)⟩
                    obtain ⟨bo', oo', he', hat, his⟩ := HLA.out.at P13.out.fst.below hy
                    cases he'
                    have g1 := hat.c1
                    have g2 := hat.c2
                    have g3 := hat.c3
                    have HFS := hide (fnd_step (s := sS) (t := tT) (o := x) hy)
                    have F5 := hide f5
                    have F6 := hide f6
                    have hd4 : decide ((j : Int) < (l1 : Int)) = true := by simp; omega
                    have hdj : (j : Int) < (l1 : Int) := by omega
                    have hnj : (0 : Int) ≤ (j : Int) := by omega
                    clear hat his hy
                    generalize hfj : fnd sS tT x lat j = fj at *
                    clear hfj
                    cases fj
                    · by_cases h1 : y.d = x.d
                      · have b1 : (y.d == x.d) = true := by rw [beq_iff_eq]; exact h1
                        by_cases h2 : y.n = x.n
                        · have b2 : (y.n == x.n) = true := by rw [beq_iff_eq]; exact h2
                          have HR : Hid (fnd sS tT x lat (j + 1) = decide (y.s = sS)) := by
                            have h9 := HFS.out
                            unfold sameOp at h9
                            rw [b1, b2] at h9
                            have h8 : fnd sS tT x lat (j + 1) = decide (y.s = sS) := by simpa using h9
                            exact h8
                          rw [h1] at g1
                          rw [h2] at g2
                          clear h1 h2 b1 b2
                          go_wp2_with fail
                          go_quiet (fail)
                          go_wp2_with fail
                          exact ⟨⟨j + 1, by omega, by go_num, by rw [HR.out, str_dec], P13.out.stay (below_drewN _ _), F5.out, F6.out⟩, by simp [intOf]; omega⟩
                        · have b2 : (y.n == x.n) = false := by rw [beq_eq_false_iff_ne]; exact h2
                          have HR : Hid (fnd sS tT x lat (j + 1) = false) := by
                            have h9 := HFS.out
                            unfold sameOp at h9
                            rw [b1, b2] at h9
                            have h8 : fnd sS tT x lat (j + 1) = false := by simpa using h9
                            exact h8
                          rw [h1] at g1
                          clear h1 h2 b1
                          go_wp2_with fail
                          go_quiet (fail)
                          go_wp2_with fail
                          exact ⟨⟨j + 1, by omega, by go_num, by rw [HR.out], P13.out.stay (below_drewN _ _), F5.out, F6.out⟩, by simp [intOf]; omega⟩
                      · have b1 : (y.d == x.d) = false := by rw [beq_eq_false_iff_ne]; exact h1
                        have HR : Hid (fnd sS tT x lat (j + 1) = false) := by
                          have h9 := HFS.out
                          unfold sameOp at h9
                          rw [b1] at h9
                          have h8 : fnd sS tT x lat (j + 1) = false := by simpa using h9
                          exact h8
                        clear h1
                        go_wp2_with fail
                        go_quiet (fail)
                        go_wp2_with fail
                        exact ⟨⟨j + 1, by omega, by go_num, by rw [HR.out], P13.out.stay (below_drewN _ _), F5.out, F6.out⟩, by simp [intOf]; omega⟩
                    · have HR : Hid (fnd sS tT x lat (j + 1) = true) := (by have h9 := HFS.out; simpa using h9 : fnd sS tT x lat (j + 1) = true)
                      go_wp2_with fail
                      go_quiet (fail)
                      go_wp2_with fail
                      exact ⟨⟨j + 1, by omega, by go_num, by rw [HR.out], P13.out.stay (below_drewN _ _), F5.out, F6.out⟩, by simp [intOf]; omega⟩
                  · have hd4 : decide ((j : Int) < (l1 : Int)) = false := by simp; omega
                    have HJ : Hid (fnd sS tT x lat j = true) := by have := HFA.out; rw [show l1 = j by omega] at this; exact this
                    rw [HJ.out]
                    go_wp2_with fail
                    refine (waits_c _ _ _ _ _ P13.out.fst.bk P13.out.fst.ct).mono ?_
                    rw [cr_wait]
                    rintro e w10 ⟨rfl, rfl⟩
                    go_wp2_with fail
                    exact ⟨⟨i + 1, by omega, by go_num, P13.out⟩, by simp [intOf]; omega⟩
              · have hd3 : decide ((i : Int) < (l1 : Int)) = false := by simp; omega
                go_wp2_with fail
                refine (lawLive_any wr).mono ?_
                rintro e w5 ⟨rfl, h5⟩
                have H5 := hide (P9.out.stay h5)
                clear h5
                go_wp2_with fail
                try go_ret
                exact ⟨rfl, H5.out.fst.below⟩
end Go.Proofs.Ytnpioaidbmllkaa
