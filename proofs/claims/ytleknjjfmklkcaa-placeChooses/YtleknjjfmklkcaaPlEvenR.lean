/- What the document's Even answers. -/
import Derived.Test.YtleknjjfmklkcaaPlEven
namespace Go.Proofs.Ytleknjjfmklkcaa
open Go.RowKit
set_option linter.unusedVariables false
set_option maxRecDepth 100000 in
set_option maxHeartbeats 4000000 in
theorem rEven_no (a al : Option Addr) (n c nl cl : Nat) (l : List Int) (vs : List (List (Int × Int))) (w : World) (hll : l.length = nl) (hnl : nl ≤ 9223372036854775807) (hSl : IntsAt w al l) (hno : evB l = false) :
    Calls Try.prog 16 #[.slice a n c, .slice al nl cl] w (Evened vs l w) := by
  have HX := hide (rLive_any al nl cl l w hll hnl hSl)
  have HN := hide hno
  have HE : Hid (evB l = (liveB l && decide (l.length ≠ 0))) := rfl
  have HLL := hide hll
  clear hll hSl hno
  by_cases h1 : liveB l = true
  · have h0 : nl = 0 := by have := HN.out; rw [HE.out, h1, HLL.out] at this; simpa using this
    have hd : ((nl : Int) == 0) = true := by simp [h0]
    have H0 := hide h0
    clear h0
    go_enter Try.func16, Try.ntmps16
    go_wp2_with (first | (go_at_call 24; refine HX.out.mono ?_; rintro e w' ⟨rfl, hb⟩; have HB0 := hide hb; clear hb; rw [h1]))
    go_returns
    exact even_arg HN.out HB0.out
  · have h1' : liveB l = false := by simpa using h1
    clear h1
    go_enter Try.func16, Try.ntmps16
    go_wp2_with (first | (go_at_call 24; refine HX.out.mono ?_; rintro e w' ⟨rfl, hb⟩; have HB0 := hide hb; clear hb; rw [h1']))
    go_returns
    exact even_arg HN.out HB0.out
set_option maxRecDepth 100000 in
set_option maxHeartbeats 4000000 in
theorem rEven_yes (a al : Option Addr) (n c nl cl : Nat) (l : List Int) (vs : List Vol) (w : World) (hl : vs.length = n) (hn : n ≤ 9223372036854775807) (hS : VolsAt w a vs) (hN : allN (vs.map Vol.ls) ≤ 4611686018427387904) (hll : l.length = nl) (hSl : IntsAt w al l) (hyes : evB l = true) :
    Calls Try.prog 16 #[.slice a n c, .slice al nl cl] w (Evened (vs.map Vol.ls) l w) := by
  obtain ⟨h1, h0⟩ := evB_parts hyes
  have hnl : nl ≤ 12 := by have := live_len h1; omega
  have HX := hide (rLive_any al nl cl l w hll (by omega) hSl)
  have HLD : Hid (∀ w1, Below w.heap.size w w1 → Calls Try.prog 18 #[.slice a n c] w1 (Loaded (vs.map Vol.ls) w1)) := fun w1 hb => rLoad_any a n c vs w1 hl hn (hS.below hb) hN
  have HN := hide hyes
  have HLL := hide hll
  have HSl := hide hSl
  have HLV := hide h1
  have h00 : ¬ nl = 0 := by omega
  have hd : ((nl : Int) == 0) = false := by simp; omega
  have HBN := hide (fun d => Nat.le_trans (ldV_le (vs.map Vol.ls) d) hN)
  clear hll hSl hyes hS hN hl h0
  generalize hvv : vs.map Vol.ls = ws at *
  clear hvv
  rcases HSl.out with q | ⟨b, o, rfl, hbl, hc⟩
  · have := HLL.out; rw [q] at this; simp at this; omega
  have HC := hide hc
  clear hc
  go_enter Try.func16, Try.ntmps16
  go_wp2_with (first | (go_at_call 24; refine HX.out.mono ?_; rintro e w' ⟨rfl, hb⟩; have HB0 := hide hb; clear hb; rw [h1]))
  refine (HLD.out _ HB0.out).mono ?_
  rintro e w1 ⟨g, rfl, hg, hcnt, hb1'⟩
  have hb1 : Below w.heap.size w w1 := HB0.out.trans (hb1'.mono HB0.out.size)
  clear hb1'
  have HCN := hide hcnt
  have HB1 := hide hb1
  have c00 := (hb1.cell (p := ⟨b, o, none⟩) hbl).trans (HC.out 0 _ (getD_at (l := l) (k := 0) (by have := HLL.out; omega)))
  have hp0 : (0 : Int) < (nl : Int) := by omega
  clear hcnt hb1
  generalize hl0 : l.getD 0 0 = d0 at *
  have HL0 := hide hl0
  clear hl0
  go_wp2_with fail
  go_loopw [8, 9, 10] (fun m x y wr => ∃ k : Nat, 1 ≤ k ∧ k ≤ nl ∧ y = .int .i64 k ∧ m = .int .i64 (mostT (ldV ws) l k) ∧ x = .int .i64 (leastT (ldV ws) l k) ∧ CntAt wr g (fun d => ldV ws d) ∧ Below w.heap.size w wr) (fun _ _ y _ => nl - (intOf y).toNat)
  case atStart => exact ⟨1, by omega, by omega, rfl, by rw [← HL0.out, mostT_one _ (by have := HLL.out; omega)], by rw [← HL0.out, leastT_one _ (by have := HLL.out; omega)], HCN.out, HB1.out⟩
  case round =>
    obtain ⟨k, hk1, hk, rfl, rfl, rfl, hcnt, hbl2⟩ := hrel
    have HCr := hide hcnt
    have HBr := hide hbl2
    clear hcnt hbl2 HCN HB1 c00
    obtain ⟨i1, hi1, em⟩ := mostT_in (ldV ws) (l := l) (by have := HLL.out; omega) k
    obtain ⟨i2, hi2, ex⟩ := leastT_in (ldV ws) (l := l) (by have := HLL.out; omega) k
    have lm := live_at HLV.out hi1
    have lx := live_at HLV.out hi2
    rw [← em] at lm
    rw [← ex] at lx
    obtain ⟨m, hm⟩ := Int.eq_ofNat_of_zero_le lm.1
    obtain ⟨x, hx⟩ := Int.eq_ofNat_of_zero_le lx.1
    rw [hm] at lm
    rw [hx] at lx
    have cm := HCr.out.cell (d := m) (by omega)
    have cx := HCr.out.cell (d := x) (by omega)
    have hmi : (m : Int) < 12 := lm.2
    have hxi : (x : Int) < 12 := lx.2
    have hm0 : (0 : Int) ≤ (m : Int) := lm.1
    have hx0 : (0 : Int) ≤ (x : Int) := lx.1
    have bm := HBN.out m
    have bx := HBN.out x
    clear em ex lm lx hi1 hi2
    by_cases hlt : k < nl
    · have hdk : decide ((k : Int) < (nl : Int)) = true := by simp; omega
      have hki : (k : Int) < (nl : Int) := by omega
      have hk0 : (0 : Int) ≤ (k : Int) := by omega
      have HD := hide (getD_at (l := l) (k := k) (by have := HLL.out; omega))
      have ld := live_at HLV.out (i := k) (by have := HLL.out; omega)
      have ck := (HBr.out.cell (p := ⟨b, o + k, none⟩) hbl).trans (HC.out k _ HD.out)
      have HM1 := hide (mostT_succ (ldV ws) HD.out)
      have HX1 := hide (leastT_succ (ldV ws) HD.out)
      rw [hm] at HM1 ⊢
      rw [hx] at HX1 ⊢
      clear HD
      obtain ⟨p, hp⟩ := Int.eq_ofNat_of_zero_le ld.1
      rw [hp] at ld ck HM1 HX1
      have cp := HCr.out.cell (d := p) (by omega)
      have hpi : (p : Int) < 12 := ld.2
      have hp00 : (0 : Int) ≤ (p : Int) := ld.1
      clear ld hp hm hx
      generalize ldV ws (m : Int) = F1 at *
      generalize ldV ws (x : Int) = F2 at *
      generalize ldV ws (p : Int) = F3 at *
      rcases Nat.lt_or_ge F1 F3 with h1 | h1 <;> rcases Nat.lt_or_ge F3 F2 with h2 | h2
      all_goals
        first
          | (have d1 : decide ((F1 : Int) < (F3 : Int)) = true := by simp; omega)
          | (have d1 : decide ((F1 : Int) < (F3 : Int)) = false := by simp; omega)
        first
          | (have d2 : decide ((F3 : Int) < (F2 : Int)) = true := by simp; omega)
          | (have d2 : decide ((F3 : Int) < (F2 : Int)) = false := by simp; omega)
        first
          | (have d3 : decide (F1 < F3) = true := by simp; omega)
          | (have d3 : decide (F1 < F3) = false := by simp; omega)
        first
          | (have d4 : decide (F3 < F2) = true := by simp; omega)
          | (have d4 : decide (F3 < F2) = false := by simp; omega)
        first
          | rw [if_pos (by omega)] at HM1
          | rw [if_neg (by omega)] at HM1
        first
          | rw [if_pos (by omega)] at HX1
          | rw [if_neg (by omega)] at HX1
        go_wp2_with fail
        go_quiet (fail)
        go_wp2_with fail
        go_quiet (fail)
        go_wp2_with fail
        all_goals
          exact ⟨⟨k + 1, by omega, by omega, by go_num, by rw [HM1.out], by rw [HX1.out], cnt_drewN HCr.out _, drawn_below HBr.out _⟩, by simp [intOf]; omega⟩
    · have hdk : decide ((k : Int) < (nl : Int)) = false := by simp; omega
      have HMK : Hid (mostT (ldV ws) l l.length = (m : Int)) := by unfold Hid; rw [← hm]; congr 1; have := HLL.out; omega
      have HXK : Hid (leastT (ldV ws) l l.length = (x : Int)) := by unfold Hid; rw [← hx]; congr 1; have := HLL.out; omega
      rw [hm, hx]
      clear hm hx
      generalize hF1 : ldV ws (m : Int) = F1 at *
      generalize hF2 : ldV ws (x : Int) = F2 at *
      have HF1 := hide hF1
      have HF2 := hide hF2
      clear hF1 hF2
      have hsub : IntKind.i64.wrap ((F2 : Int) + 2) = (F2 : Int) + 2 := by rw [IntKind.wrap_i64]; omega
      go_wp2_with fail
      go_quiet (fail)
      go_wp2_with fail
      go_returns
      refine even_ok HN.out HMK.out HXK.out ?_ (drawn_below HBr.out _)
      rw [HF1.out, HF2.out]
      apply decide_eq_decide.2
      omega
theorem even_any (a al : Option Addr) (n c nl cl : Nat) (l : List Int) (vs : List Vol) (w : World) (hl : vs.length = n) (hn : n ≤ 9223372036854775807) (hS : VolsAt w a vs) (hN : allN (vs.map Vol.ls) ≤ 4611686018427387904) (hll : l.length = nl) (hnl : nl ≤ 9223372036854775807) (hSl : IntsAt w al l) :
    Calls Try.prog 15 #[.slice a n c, .slice al nl cl] w (Evened (vs.map Vol.ls) l w) := by
  by_cases h : evB l = true
  · exact even_yes a al n c nl cl l vs w hl hn hS hN hll hSl h
  · exact even_no a al n c nl cl l _ w hll hnl hSl (by simpa using h)
theorem rEven_any (a al : Option Addr) (n c nl cl : Nat) (l : List Int) (vs : List Vol) (w : World) (hl : vs.length = n) (hn : n ≤ 9223372036854775807) (hS : VolsAt w a vs) (hN : allN (vs.map Vol.ls) ≤ 4611686018427387904) (hll : l.length = nl) (hnl : nl ≤ 9223372036854775807) (hSl : IntsAt w al l) :
    Calls Try.prog 16 #[.slice a n c, .slice al nl cl] w (Evened (vs.map Vol.ls) l w) := by
  by_cases h : evB l = true
  · exact rEven_yes a al n c nl cl l vs w hl hn hS hN hll hSl h
  · exact rEven_no a al n c nl cl l _ w hll hnl hSl (by simpa using h)
end Go.Proofs.Ytleknjjfmklkcaa
