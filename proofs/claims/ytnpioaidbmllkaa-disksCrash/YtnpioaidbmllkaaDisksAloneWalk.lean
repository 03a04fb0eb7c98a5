/- DisksAlone: for every input the law answers true. -/
import Derived.Test.YtnpioaidbmllkaaDkMath
namespace Go.Proofs.Ytnpioaidbmllkaa
open Go.RowKit
set_option linter.unusedVariables false
theorem updC_off {C : Nat → Ct} {d e : Nat} {x : Ct} (h : e ≠ d) : updC C d x e = C e := if_neg h
theorem wr_off {C : Nat → Ct} {d n : Int} {s : ByteArray} {e : Nat} (h : d ≠ (e : Int)) : wrC C d n s e = C e := by
  unfold wrC
  split
  · next hz =>
    obtain ⟨h4, h5, hl⟩ := live_in (have_in (take_in hz).1).1
    exact updC_off (by omega)
  · rfl
theorem sp_off {C : Nat → Ct} {d n : Int} {s : ByteArray} {e : Nat} (h : d ≠ (e : Int)) : spC C d n s e = C e := by
  unfold spC
  split
  · next hz =>
    obtain ⟨h4, h5, hl⟩ := live_in (have_in (take_in hz).1).1
    exact updC_off (by omega)
  · rfl
theorem fl_off {C : Nat → Ct} {d : Int} {e : Nat} (h : d ≠ (e : Int)) : flC C d e = C e := by
  unfold flC
  split
  · next hz =>
    obtain ⟨h4, h5, hl⟩ := live_in hz
    exact updC_off (by omega)
  · rfl
theorem ag_off {C : Nat → Ct} {d : Int} {l : Bool} {e : Nat} (h : d ≠ (e : Int)) : agC C d l e = C e := by
  unfold agC
  split
  · rfl
  · exact updC_off (by omega)
def kept : ByteArray := ⟨#[107, 101, 112, 116]⟩
def ctKept : Ct := ⟨false, secW (fun _ => ByteArray.empty) [(7, kept)], []⟩
theorem kept_is {d : Nat} (hd : d < 12) : eTakeC C0 d 7 kept = 0 ∧ eLiveC (wrC C0 d 7 kept) d = 0 ∧ flC (wrC C0 d 7 kept) d d = ctKept := by
  have h1 : eLiveC C0 (d : Int) = 0 := by unfold eLiveC; rw [if_neg (by omega)]; rfl
  have h2 : eTakeC C0 d 7 kept = 0 := by unfold eTakeC eHaveC; rw [h1]; rfl
  have h3 : (wrC C0 d 7 kept) d = ⟨false, fun _ => ByteArray.empty, [(7, kept)]⟩ := by
    unfold wrC; rw [if_pos h2, Int.toNat_natCast]; unfold updC; rw [if_pos rfl]; rfl
  have h4 : eLiveC (wrC C0 d 7 kept) d = 0 := by unfold eLiveC; rw [if_neg (by omega), Int.toNat_natCast, h3]; rfl
  refine ⟨h2, h4, ?_⟩
  unfold flC; rw [if_pos h4, Int.toNat_natCast]; unfold updC; rw [if_pos rfl, h3]; rfl
theorem kept_read {C : Nat → Ct} {d : Nat} (hd : d < 12) (h : C d = ctKept) : rdC C d 7 = kept ∧ eHaveC C d 7 = 0 := by
  have h1 : eLiveC C (d : Int) = 0 := by unfold eLiveC; rw [if_neg (by omega), Int.toNat_natCast, h]; rfl
  have h2 : eHaveC C d 7 = 0 := by unfold eHaveC; rw [h1]; rfl
  refine ⟨?_, h2⟩
  unfold rdC; rw [if_pos h2, Int.toNat_natCast, h]; rfl
theorem op_box {w : World} {x : OpR} {t : TypeId} : (w.alloc (.cells #[.int .i64 x.act, .int .i64 x.d, .int .i64 x.n, .string x.s, .slice x.ka x.kn x.kc, .slice x.ta x.tn x.tc] t)).heap[w.heap.size]? = some (.cells #[.int .i64 x.act, .int .i64 x.d, .int .i64 x.n, .string x.s, .slice x.ka x.kn x.kc, .slice x.ta x.tn x.tc] t (0, 0)) := heap_alloc_new _ _
set_option maxRecDepth 100000 in
set_option maxHeartbeats 4000000 in
theorem walkDisksAlone (a0 : Option Addr) (l0 c0 : Nat) (dd : Int) (w : World) (h0 : Came 22 w a0 l0 c0) (hdw : (Lit.int .i64 dd).wf = true) :
    Calls Try.prog 5 #[.slice a0 l0 c0, .int .i64 dd] w fun e w' => e = .returned (.bool true) ∧ Below w.heap.size w w' := by
  obtain ⟨ops, hol, _, ho63, hops⟩ := came_ops h0
  have HOP := hide hops
  have HOL := hide hol
  clear h0 hops hol hdw
  have key : (20 < l0 ∨ (¬ 20 < l0 ∧ dd < 0) ∨ (¬ 20 < l0 ∧ ¬ dd < 0 ∧ 11 < dd)) ∨ (¬ 20 < l0 ∧ 0 ≤ dd ∧ dd ≤ 11) := by omega
  rcases key with key | ⟨g0, g1, g2⟩
  · rcases key with g0 | ⟨g0, g1⟩ | ⟨g0, g1, g2⟩
    all_goals
      go_enter Try.func5, Try.ntmps5
      go_wp2_with fail
      refine (lawLive_any w).mono ?_
      rintro e w5 ⟨rfl, h5⟩
      have H5 := hide h5
      clear h5
      go_wp2_with fail
      try go_ret
      exact ⟨rfl, H5.out⟩
  · obtain ⟨dn, rfl⟩ : ∃ dn : Nat, dd = (dn : Int) := ⟨dd.toNat, by omega⟩
    have hdn : dn < 12 := by omega
    have g3 : ¬ (dn : Int) < 0 := by omega
    have g4 : ¬ 11 < (dn : Int) := by omega
    obtain ⟨q1, q2, q3⟩ := kept_is hdn
    have Q1 := hide q1
    have Q2 := hide q2
    have Q3 := hide q3
    clear q1 q2 q3
    go_enter Try.func5, Try.ntmps5
    go_wp2_with fail
    refine (new_any w).mono ?_
    rintro e w1 ⟨b, rfl, hb, hB1, hb1⟩
    have P1 : Hid (One w w1 b (fun _ => dk0) C0) := by subst hb; exact one_new0 (Below.refl _ w) hB1 hb1
    clear hB1 hb1 hb
    go_wp2_with fail
    refine (write_c _ (dn : Int) 7 kept _ _ _ P1.out.bk P1.out.ct (by decide) few0 (by decide)).mono ?_
    rw [Q1.out]
    rintro e w2 ⟨rfl, hd⟩
    obtain ⟨D2, O2⟩ := P1.out.go hd
    have P2 := hide O2
    clear hd O2 P1
    go_wp2_with fail
    refine (flush_c _ (dn : Int) _ _ _ P2.out.bk P2.out.ct).mono ?_
    rw [Q2.out]
    rintro e w3 ⟨rfl, hd⟩
    obtain ⟨D3, O3⟩ := P2.out.go hd
    have P3 := hide O3
    have HF3 : Hid (Few 1 (flC (wrC C0 dn 7 kept) dn)) := (few0.wr dn 7 kept).fl dn
    clear hd O3 P2
    go_wp2_with fail
    go_loopw [6] (fun y wr => ∃ k : Nat, k ≤ l0 ∧ y = .int .i64 k ∧ ∃ D C, One w wr b D C ∧ Few (k + 1) C ∧ C dn = ctKept) (fun y _ => l0 - (intOf y).toNat)
    case atStart => exact ⟨0, by omega, rfl, _, _, P3.out, HF3.out, Q3.out⟩
    case round =>
      obtain ⟨k, hk, rfl, D, C, hO, hF, hK⟩ := hrel
      have P4 := hide hO
      have HF := hide hF
      have HK := hide hK
      clear hO hF hK P3 HF3
      by_cases hlt : k < l0
      · obtain ⟨x, hx⟩ : ∃ x, ops[k]? = some x := ⟨_, List.getElem?_eq_getElem (by have := HOL.out; omega)⟩
        obtain ⟨bo, oo, rfl, hat, his⟩ := HOP.out.at P4.out.below hx
        have e0 := hat.c0
        have e1 := hat.c1
        have e2 := hat.c2
        have e3 := hat.c3
        have e4 := hat.c4
        have e5 := hat.c5
        have HS63 := hide his.s63
        have hd1 : decide ((k : Int) < (l0 : Int)) = true := by simp; omega
        have hdi : (k : Int) < (l0 : Int) := by omega
        have hni : (0 : Int) ≤ (k : Int) := by omega
        clear hat his hx
        have P5 := hide (P4.out.stay ((Below.refl _ wr).alloc (Nat.le_refl _) (.cells #[.int .i64 x.act, .int .i64 x.d, .int .i64 x.n, .string x.s, .slice x.ka x.kn x.kc, .slice x.ta x.tn x.tc] 30)))
        by_cases hsame : x.d = (dn : Int)
        · have hq : (x.d == (dn : Int)) = true := by rw [beq_iff_eq]; exact hsame
          go_wp2_with fail
          rw [hsame] at P5
          exact ⟨⟨k + 1, by omega, by go_num, _, _, P5.out, HF.out.mono (by omega), HK.out⟩, by simp [intOf]; omega⟩
        · have hq : (x.d == (dn : Int)) = false := by rw [beq_eq_false_iff_ne]; exact hsame
          have HNE := hide hsame
          clear hsame
          have kk : x.act = 0 ∨ x.act = 2 ∨ x.act = 4 ∨ x.act = 5 ∨ x.act = 6 ∨ (x.act ≠ 0 ∧ x.act ≠ 2 ∧ x.act ≠ 4 ∧ x.act ≠ 5 ∧ x.act ≠ 6) := by omega
          rcases kk with ha | ha | ha | ha | ha | ⟨n0, n2, n4, n5, n6⟩
          · rw [ha] at e0 P5
            go_wp2_with fail
            refine (write_c _ _ _ _ _ _ _ P5.out.bk P5.out.ct HS63.out HF.out (by omega)).mono ?_
            rintro e w6 ⟨rfl, hd⟩
            obtain ⟨D6, O6⟩ := P5.out.go hd
            have P6 := hide O6
            clear hd O6 P5 P4 e0 e1 e2 e3 e4 e5
            go_wp2_with fail
            exact ⟨⟨k + 1, by omega, by go_num, _, _, P6.out, HF.out.wr _ _ _, by rw [wr_off HNE.out]; exact HK.out⟩, by simp [intOf]; omega⟩
          · rw [ha] at e0 P5
            go_wp2_with fail
            refine (flush_c _ _ _ _ _ P5.out.bk P5.out.ct).mono ?_
            rintro e w6 ⟨rfl, hd⟩
            obtain ⟨D6, O6⟩ := P5.out.go hd
            have P6 := hide O6
            clear hd O6 P5 P4 e0 e1 e2 e3 e4 e5
            go_wp2_with fail
            exact ⟨⟨k + 1, by omega, by go_num, _, _, P6.out, (HF.out.fl _).mono (by omega), by rw [fl_off HNE.out]; exact HK.out⟩, by simp [intOf]; omega⟩
          · rw [ha] at e0 P5
            go_wp2_with fail
            refine (spoil_c _ _ _ _ _ _ _ P5.out.bk P5.out.ct HS63.out).mono ?_
            rintro e w6 ⟨rfl, hd⟩
            obtain ⟨D6, O6⟩ := P5.out.go hd
            have P6 := hide O6
            clear hd O6 P5 P4 e0 e1 e2 e3 e4 e5
            go_wp2_with fail
            exact ⟨⟨k + 1, by omega, by go_num, _, _, P6.out, (HF.out.sp _ _ _).mono (by omega), by rw [sp_off HNE.out]; exact HK.out⟩, by simp [intOf]; omega⟩
          · rw [ha] at e0 P5
            go_wp2_with fail
            refine (lose_c _ _ _ _ _ P5.out.bk P5.out.ct).mono ?_
            rintro e w6 ⟨rfl, hd⟩
            obtain ⟨D6, O6⟩ := P5.out.go hd
            have P6 := hide O6
            clear hd O6 P5 P4 e0 e1 e2 e3 e4 e5
            go_wp2_with fail
            exact ⟨⟨k + 1, by omega, by go_num, _, _, P6.out, (HF.out.ag _ _).mono (by omega), by rw [ag_off HNE.out]; exact HK.out⟩, by simp [intOf]; omega⟩
          · rw [ha] at e0 P5
            go_wp2_with fail
            refine (replace_c _ _ _ _ _ P5.out.bk P5.out.ct).mono ?_
            rintro e w6 ⟨rfl, hd⟩
            obtain ⟨D6, O6⟩ := P5.out.go hd
            have P6 := hide O6
            clear hd O6 P5 P4 e0 e1 e2 e3 e4 e5
            go_wp2_with fail
            exact ⟨⟨k + 1, by omega, by go_num, _, _, P6.out, (HF.out.ag _ _).mono (by omega), by rw [ag_off HNE.out]; exact HK.out⟩, by simp [intOf]; omega⟩
          · have b0 : (x.act == 0) = false := by rw [beq_eq_false_iff_ne]; exact n0
            have b2 : (x.act == 2) = false := by rw [beq_eq_false_iff_ne]; exact n2
            have b4 : (x.act == 4) = false := by rw [beq_eq_false_iff_ne]; exact n4
            have b5 : (x.act == 5) = false := by rw [beq_eq_false_iff_ne]; exact n5
            have b6 : (x.act == 6) = false := by rw [beq_eq_false_iff_ne]; exact n6
            go_wp2_with fail
            exact ⟨⟨k + 1, by omega, by go_num, _, _, P5.out, HF.out.mono (by omega), HK.out⟩, by simp [intOf]; omega⟩
      · have hd1 : decide ((k : Int) < (l0 : Int)) = false := by simp; omega
        obtain ⟨r1, r2⟩ := kept_read hdn HK.out
        have R1 := hide r1
        have R2 := hide r2
        clear r1 r2
        go_wp2_with fail
        refine (read_c _ (dn : Int) 7 _ _ _ P4.out.bk P4.out.ct).mono ?_
        rw [R1.out, R2.out]
        rintro e w5 ⟨rfl, h5⟩
        have P5 := hide (P4.out.stay h5)
        clear h5 P4
        rw [show kept = ⟨#[107, 101, 112, 116]⟩ from rfl]
        go_wp2_with fail
        refine (lawLive_any w5).mono ?_
        rintro e w6 ⟨rfl, h6⟩
        have P6 := hide (P5.out.stay h6)
        clear h6 P5
        go_wp2_with fail
        try go_ret
        exact ⟨rfl, P6.out.below⟩
end Go.Proofs.Ytnpioaidbmllkaa
