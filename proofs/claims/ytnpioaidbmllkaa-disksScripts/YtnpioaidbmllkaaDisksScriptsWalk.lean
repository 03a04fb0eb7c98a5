/- DisksScripts: for every input the law answers true. -/
import Derived.Test.YtnpioaidbmllkaaRfDoes
import Derived.Test.YtnpioaidbmllkaaDisksFlushWalk
namespace Go.Proofs.Ytnpioaidbmllkaa
open Go.RowKit
set_option linter.unusedVariables false
/-- behind the calls of a script -/
def ops (C : Nat → Ct) : List OpR → Nat → Ct
  | [] => C
  | x :: l => ops (opC x C) l
theorem ops_snoc (l : List OpR) (x : OpR) : ∀ C, ops C (l ++ [x]) = opC x (ops C l) := by
  induction l with
  | nil => intro C; rfl
  | cons y l ih => intro C; exact ih _
theorem ops_take {C : Nat → Ct} {l : List OpR} {k : Nat} {x : OpR} (h : l[k]? = some x) : ops C (l.take (k + 1)) = opC x (ops C (l.take k)) := by
  rw [List.take_add_one, h]; exact ops_snoc _ _ _
theorem Few.ops {l : List OpR} : ∀ {N : Nat} {C : Nat → Ct}, Few N C → Few (N + l.length) (ops C l) := by
  induction l with
  | nil => intro N C h; exact h
  | cons x l ih =>
    intro N C h
    have := ih (h.op x)
    rw [List.length_cons, show N + (l.length + 1) = N + 1 + l.length by omega]
    exact this
theorem Tidy.ops {l : List OpR} : ∀ {C : Nat → Ct}, Tidy C → Tidy (ops C l) := by
  induction l with
  | nil => intro C h; exact h
  | cons x l ih => intro C h; exact ih (h.op x)
theorem pair_new {w w1 w2 : World} {b rb : Nat} {v : Value} {R : Nat → Rk} (h1 : One w w1 b (fun _ => dk0) C0) (h2 : NwMid w1 w2 rb v 12 R) : Pair w w2 b (fun _ => dk0) C0 rb v R C0 :=
  ⟨h1.stay h2.below, h2.rbk, fun e he => h2.ct e he, fun q hq => Nat.le_trans h1.below.size (h2.foot q hq), fun q hq hr => by have := h1.bk.lt hq; have := h2.foot q hr; omega⟩
theorem rd_regrownR {rb : Nat} {v : Value} {d n : Int} {R : Nat → Rk} {C : Nat → Ct} {wr : World} (h : RB wr rb v 12 R) (hC : ContR R C) : ∀ q os, Calls Try.prog 16 #[.pointer (some ⟨rb, 0, none⟩), .int .i64 d, .int .i64 n] (Go.Sort.grow (redrawn wr q) os) fun e w'' => e = .returned (.tuple #[.string (rdC C d n), .int .i64 (eHaveC C d n : Nat)]) ∧ ∃ p : Regrown, w'' = Go.Sort.grow (redrawn wr p.d) p.os := fun q os =>
  Calls.regrown_of ((rRead_any rb v R C d n _ (h.below (below_regrown wr q os)) hC).mono fun _ _ hh => ⟨hh.1, hh.2 ▸ Below.refl _ _⟩)
theorem drewN_below (w : World) (m : Nat) : Below w.heap.size w (w.drewN m) := ⟨rfl, rfl, rfl, Nat.le_refl _, fun _ _ => rfl⟩
theorem op_len : (Try.prog.info? 30).map (·.size) = some 6 := by kernel_rfl
set_option maxRecDepth 100000 in
set_option maxHeartbeats 8000000 in
theorem walkDisksScripts (a0 : Option Addr) (l0 c0 : Nat) (w : World) (h0 : Came 22 w a0 l0 c0) :
    Calls Try.prog 3 #[.slice a0 l0 c0] w fun e w' => e = .returned (.bool true) ∧ Below w.heap.size w w' := by
  obtain ⟨os, hol, _, ho63, hops⟩ := came_ops h0
  have HOP := hide hops
  have HOL := hide hol
  clear h0 hops hol
  by_cases g0 : 30 < l0
  · go_enter Try.func3, Try.ntmps3
    go_wp2_with fail
    refine (lawLive_any w).mono ?_
    rintro e w5 ⟨rfl, h5⟩
    have H5 := hide h5
    clear h5
    go_wp2_with fail
    try go_ret
    exact ⟨rfl, H5.out⟩
  · go_enter Try.func3, Try.ntmps3
    go_wp2_with fail
    refine (new_any w).mono ?_
    rintro e w1 ⟨b, rfl, hb, hB1, hb1⟩
    have P1 : Hid (One w w1 b (fun _ => dk0) C0) := by subst hb; exact one_new0 (Below.refl _ w) hB1 hb1
    clear hB1 hb1 hb
    go_wp2_with fail
    refine (rNew_any w1).mono ?_
    rintro e w2 ⟨rb, v, R0, rfl, hM⟩
    have P2 := hide (pair_new P1.out hM)
    clear hM P1
    go_wp2_with fail
    go_loopw [5] (fun y wr => ∃ k : Nat, k ≤ l0 ∧ y = .int .i64 k ∧ ∃ D R, Pair w wr b D (ops C0 (os.take k)) rb v R (ops C0 (os.take k))) (fun y _ => l0 - (intOf y).toNat)
    case atStart => exact ⟨0, by omega, rfl, _, _, P2.out⟩
    case round =>
      obtain ⟨k, hk, rfl, D, R, hP⟩ := hrel
      have P3 := hide hP
      clear hP P2
      by_cases hlt : k < l0
      · obtain ⟨x, hx⟩ : ∃ x, os[k]? = some x := ⟨_, List.getElem?_eq_getElem (by have := HOL.out; omega)⟩
        have hop0 := HOP.out.at (Below.refl _ w) hx
        obtain ⟨bo, oo, ha0, -, his0⟩ := hop0
        subst ha0
        obtain ⟨bo', oo', he', hat, his⟩ := HOP.out.at P3.out.one.below hx
        cases he'
        have HX := hide hx
        have HIS := hide his0
        have e0 := hat.c0
        have e1 := hat.c1
        have e2 := hat.c2
        have e3 := hat.c3
        have e4 := hat.c4
        have e5 := hat.c5
        have s63 := his0.s63
        have k63 := his0.k63
        have t63 := his0.t63
        have hd1 : decide ((k : Int) < (l0 : Int)) = true := by simp; omega
        have hdi : (k : Int) < (l0 : Int) := by omega
        have hni : (0 : Int) ≤ (k : Int) := by omega
        clear hat his his0 hx
        have key : (1000 < x.s.size ∨ (¬ 1000 < x.s.size ∧ 100 < x.kn) ∨ (¬ 1000 < x.s.size ∧ ¬ 100 < x.kn ∧ 100 < x.tn)) ∨ (¬ 1000 < x.s.size ∧ ¬ 100 < x.kn ∧ ¬ 100 < x.tn) := by omega
        rcases key with key | ⟨y0, y1, y2⟩
        · rcases key with y0 | ⟨y0, y1⟩ | ⟨y0, y1, y2⟩
          all_goals
            go_wp2_with fail
            refine (lawLive_any wr).mono ?_
            rintro e w5 ⟨rfl, h5⟩
            have H5 := hide (P3.out.stay h5)
            clear h5 e0 e1 e2 e3 e4 e5
            go_wp2_with fail
            try go_ret
            exact ⟨rfl, H5.out.one.below⟩
        · have HFW : Hid (Few 30 (ops C0 (os.take k))) := by
            have h9 := (few0).ops (l := os.take k)
            rw [List.length_take] at h9
            exact h9.mono (by omega)
          have HTD : Hid (Tidy (ops C0 (os.take k))) := tidy0.ops
          have HNX := hide (ops_take (C := C0) HX.out)
          generalize ops C0 (os.take k) = C at *
          go_wp2_with fail
          refine (does_any w wr b rb v D R C x P3.out HTD.out HFW.out (by decide) HIS.out).mono ?_
          rintro e w3 ⟨rfl, D4, R4, hP4⟩
          have P4 := hide hP4
          have HTD2 := hide (HTD.out.op x)
          clear hP4 P3 e0 e1 e2 e3 e4 e5 HFW HTD
          generalize opC x C = C' at *
          go_wp2_with fail
          refine (live_c _ _ _ _ P4.out.one.bk P4.out.one.ct).mono ?_
          rintro e w4 ⟨u1, rfl, hN1, hb4⟩
          have P5 := hide (P4.out.stay hb4)
          have HN1 := hide hN1
          obtain ⟨a9, c9, hu1⟩ := row_form hN1
          subst hu1
          clear hN1 hb4 P4
          go_wp2_with fail
          refine (rLive_any _ _ _ _ _ P5.out.rbk P5.out.ct).mono ?_
          rintro e w5 ⟨u2, rfl, hN2, hb5⟩
          have P6 := hide (P5.out.stay hb5)
          have HN2 := hide hN2
          have HN3 : Hid (NumsAt w5 w3.heap.size (.slice a9 (lvC C').length c9) (lvC C')) := row_keep HN1.out fun g hg => hb5.block g (row_lt HN1.out hg)
          obtain ⟨a8, c8, hu2⟩ := row_form hN2
          subst hu2
          clear hN2 hb5 P5
          have HLV : Hid ((lvC C').length ≤ 1000000) := by have : (lvC C').length ≤ 12 := thereL_len _ _; show _ ≤ _; omega
          go_wp2_with fail
          refine (ints_same _ _ _ _ (lvC C') _ HN3.out HN2.out HLV.out).mono ?_
          rintro e w6 ⟨rfl, hb6⟩
          have P7 := hide (P6.out.stay hb6)
          clear hb6 P6 HN1 HN2 HN3
          go_wp2_with fail
          go_loopw [6] (fun y wr => ∃ j : Nat, j ≤ k + 1 ∧ y = .int .i64 j ∧ Pair w wr b D4 C' rb v R4 C') (fun y _ => k + 1 - (intOf y).toNat)
          case atStart => exact ⟨0, by omega, rfl, P7.out⟩
          case round =>
            obtain ⟨j, hj, rfl, hP⟩ := hrel
            have P8 := hide hP
            clear hP P7
            by_cases hlt2 : j ≤ k
            · obtain ⟨z, hz⟩ : ∃ z, os[j]? = some z := ⟨_, List.getElem?_eq_getElem (by have := HOL.out; omega)⟩
              obtain ⟨bo', oo', he', hat, his⟩ := HOP.out.at P8.out.one.below hz
              cases he'
              have HZ := hide hz
              have e1 := cell_regrown hat.c1
              have e2 := cell_regrown hat.c2
              have r1 := rd_regrown (d := z.d) (n := z.n) P8.out.one.bk P8.out.one.ct
              have hd2 : decide ((j : Int) ≤ (k : Int)) = true := by simp; omega
              have hjk : (j : Int) ≤ (k : Int) := by omega
              have hjl : (j : Int) < (l0 : Int) := by omega
              have hj0 : (0 : Int) ≤ (j : Int) := by omega
              clear hat his hz
              go_wp2_with fail
              refine wp_region_quiet_below (by kernel_rfl) (by kernel_rfl) ?_
              repeat (quiet_step (first | (with_reducible exact r1 _ _)))
              refine wpQuiet_nil ?_
              rintro w8 ⟨pq, hw8⟩
              have hb8 : Below wr.heap.size wr w8 := by rw [hw8]; exact below_regrown _ _ _
              have P9 := hide (P8.out.stay hb8)
              clear e1 e2 r1 hw8 hb8 P8
              obtain ⟨bo', oo', he', hat, his⟩ := HOP.out.at P9.out.one.below HZ.out
              cases he'
              have e1 := cell_regrown hat.c1
              have e2 := cell_regrown hat.c2
              have r1 := rd_regrownR (d := z.d) (n := z.n) P9.out.rbk P9.out.ct
              clear hat his
              go_wp2_with fail
              refine wp_region_quiet_below (by kernel_rfl) (by kernel_rfl) ?_
              repeat (quiet_step (first | (with_reducible exact r1 _ _)))
              refine wpQuiet_nil ?_
              rintro w9 ⟨pq, hw9⟩
              have hb9 : Below w8.heap.size w8 w9 := by rw [hw9]; exact below_regrown _ _ _
              have P10 := hide (P9.out.stay hb9)
              clear e1 e2 r1 hw9 hb9 P9
              obtain ⟨bo', oo', he', hat, his⟩ := HOP.out.at P10.out.one.below HZ.out
              cases he'
              have e1 := hat.c1
              have q1 : ∀ m, Calls Try.prog 17 #[.pointer (some ⟨b, 0, none⟩), .int .i64 z.d] (w9.drewN m) fun e w' => e = .returned (.int .i64 (wtC C' z.d : Nat)) ∧ ∃ m, w' = w9.drewN m := fun m => Calls.quiet_of_same ((waits_c b z.d _ _ (w9.drewN m) (P10.out.stay (drewN_below w9 m)).one.bk P10.out.one.ct).mono fun _ _ hh => ⟨hh.1, hh.2.symm⟩)
              have q2 : ∀ m, Calls Try.prog 18 #[.pointer (some ⟨rb, 0, none⟩), .int .i64 z.d] (w9.drewN m) fun e w' => e = .returned (.int .i64 (wtC C' z.d : Nat)) ∧ ∃ m, w' = w9.drewN m := fun m => Calls.quiet_of_same ((rWaits_any rb v _ _ z.d (w9.drewN m) (P10.out.stay (drewN_below w9 m)).rbk P10.out.ct HTD2.out).mono fun _ _ hh => ⟨hh.1, hh.2.symm⟩)
              clear hat his
              generalize rdC C' z.d z.n = tS at *
              generalize eHaveC C' z.d z.n = tE at *
              generalize wtC C' z.d = tW at *
              have hs1 : (tS.toList == tS.toList) = true := by simp
              have hs2 : (!(tS.toList == tS.toList)) = false := by simp
              have hs3 : ((tE : Int) != (tE : Int)) = false := by simp
              go_wp2_with fail
              go_quiet (first | (with_reducible exact q1 _) | (with_reducible exact q2 _))
              have P11 := hide (P10.out.stay (drewN_below w9 nq))
              clear e1 q1 q2 hs1 hs2 hs3 P10
              go_wp2_with fail
              exact ⟨⟨j + 1, by omega, by go_num, P11.out⟩, by simp [intOf]; omega⟩
            · have hd2 : decide ((j : Int) ≤ (k : Int)) = false := by simp; omega
              go_wp2_with fail
              exact ⟨⟨k + 1, by omega, by go_num, _, _, by rw [HNX.out]; exact P8.out⟩, by simp [intOf]; omega⟩
      · have hd1 : decide ((k : Int) < (l0 : Int)) = false := by simp; omega
        go_wp2_with fail
        refine (lawLive_any wr).mono ?_
        rintro e w5 ⟨rfl, h5⟩
        have H5 := hide (P3.out.stay h5)
        clear h5
        go_wp2_with fail
        try go_ret
        exact ⟨rfl, H5.out.one.below⟩
end Go.Proofs.Ytnpioaidbmllkaa
