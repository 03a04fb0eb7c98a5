/- What place.Even answers, and the document's. -/
import Derived.Test.YtleknjjfmklkcaaPlLoadR
import Derived.Handy
namespace Go.Proofs.Ytleknjjfmklkcaa
open Go.RowKit
set_option linter.unusedVariables false
def evB (l : List Int) : Bool := liveB l && decide (l.length ≠ 0)
def evM (vs : List (List (Int × Int))) (l : List Int) : Int := if evB l then mostT (ldV vs) l l.length else 0
def evL (vs : List (List (Int × Int))) (l : List Int) : Int := if evB l then leastT (ldV vs) l l.length else 0
def evU (vs : List (List (Int × Int))) (l : List Int) : Bool := if evB l then decide (ldV vs (leastT (ldV vs) l l.length) + 2 ≤ ldV vs (mostT (ldV vs) l l.length)) else false
/-- what Even leaves -/
def Evened (vs : List (List (Int × Int))) (l : List Int) (w : World) (e : Ending) (w' : World) : Prop :=
  e = .returned (.tuple #[.int .i64 (evM vs l), .int .i64 (evL vs l), .bool (evU vs l)]) ∧ Below w.heap.size w w'
theorem even_arg {vs : List (List (Int × Int))} {l : List Int} {w w' : World} (h : evB l = false) (hb : Below w.heap.size w w') : Evened vs l w (.returned (.tuple #[.int .i64 0, .int .i64 0, .bool false])) w' := by
  refine ⟨?_, hb⟩
  unfold evM evL evU; rw [h]; rfl
theorem even_ok {vs : List (List (Int × Int))} {l : List Int} {w w' : World} {m x : Int} {u : Bool} (h : evB l = true) (hm : mostT (ldV vs) l l.length = m) (hx : leastT (ldV vs) l l.length = x) (hu : u = decide (ldV vs x + 2 ≤ ldV vs m)) (hb : Below w.heap.size w w') : Evened vs l w (.returned (.tuple #[.int .i64 m, .int .i64 x, .bool u])) w' := by
  refine ⟨?_, hb⟩
  unfold evM evL evU; rw [h, if_pos rfl, if_pos rfl, if_pos rfl, hm, hx, hu]
theorem evB_parts {l : List Int} (h : evB l = true) : liveB l = true ∧ l.length ≠ 0 := by
  unfold evB at h; rw [Bool.and_eq_true] at h; exact ⟨h.1, by simpa using h.2⟩
set_option maxRecDepth 100000 in
set_option maxHeartbeats 4000000 in
theorem even_no (a al : Option Addr) (n c nl cl : Nat) (l : List Int) (vs : List (List (Int × Int))) (w : World) (hll : l.length = nl) (hnl : nl ≤ 9223372036854775807) (hSl : IntsAt w al l) (hno : evB l = false) :
    Calls Try.prog 15 #[.slice a n c, .slice al nl cl] w (Evened vs l w) := by
  have HX := hide (areLive_any al nl cl l w hll hnl hSl)
  have HN := hide hno
  have HE : Hid (evB l = (liveB l && decide (l.length ≠ 0))) := rfl
  have HLL := hide hll
  clear hll hSl hno
  by_cases h1 : liveB l = true
  · have h0 : nl = 0 := by have := HN.out; rw [HE.out, h1, HLL.out] at this; simpa using this
    have hd : ((nl : Int) == 0) = true := by simp [h0]
    have H0 := hide h0
    clear h0
    go_enter Try.func15, Try.ntmps15
    go_wp2_with (first | (go_at_call 21; refine HX.out.mono ?_; rintro e w' ⟨rfl, rfl⟩; rw [h1]))
    go_returns
    exact even_arg HN.out (Below.refl _ _)
  · have h1' : liveB l = false := by simpa using h1
    clear h1
    go_enter Try.func15, Try.ntmps15
    go_wp2_with (first | (go_at_call 21; refine HX.out.mono ?_; rintro e w' ⟨rfl, rfl⟩; rw [h1']))
    go_returns
    exact even_arg HN.out (Below.refl _ _)
theorem cnt_drewN {w : World} {g : Nat} {F : Nat → Nat} (h : CntAt w g F) (n : Nat) : CntAt (w.drewN n) g F := h
set_option maxRecDepth 100000 in
set_option maxHeartbeats 4000000 in
theorem even_yes (a al : Option Addr) (n c nl cl : Nat) (l : List Int) (vs : List Vol) (w : World) (hl : vs.length = n) (hn : n ≤ 9223372036854775807) (hS : VolsAt w a vs) (hN : allN (vs.map Vol.ls) ≤ 4611686018427387904) (hll : l.length = nl) (hSl : IntsAt w al l) (hyes : evB l = true) :
    Calls Try.prog 15 #[.slice a n c, .slice al nl cl] w (Evened (vs.map Vol.ls) l w) := by
  obtain ⟨h1, h0⟩ := evB_parts hyes
  have hnl : nl ≤ 12 := by have := live_len h1; omega
  have HX := hide (areLive_any al nl cl l w hll (by omega) hSl)
  have HLD := hide (load_any a n c vs w hl hn hS hN)
  have HN := hide hyes
  have HLL := hide hll
  have HSl := hide hSl
  have HLV := hide h1
  have h00 : ¬ nl = 0 := by omega
  have hd : ((nl : Int) == 0) = false := by simp; omega
  have HBN := hide (fun d => Nat.le_trans (ldV_le (vs.map Vol.ls) d) hN)
  clear hll hSl hyes hS hN hl h0
  generalize hvv : vs.map Vol.ls = ws at *
  clear hvv
  rcases HSl.out with q | ⟨b, o, rfl, hbl, hc⟩
  · have := HLL.out; rw [q] at this; simp at this; omega
  have HC := hide hc
  clear hc
  go_enter Try.func15, Try.ntmps15
  go_wp2_with (first | (go_at_call 21; refine HX.out.mono ?_; rintro e w' ⟨rfl, rfl⟩; rw [h1]))
  refine HLD.out.mono ?_
  rintro e w1 ⟨g, rfl, hg, hcnt, hb1⟩
  have HCN := hide hcnt
  have HB1 := hide hb1
  have c00 := (hb1.cell (p := ⟨b, o, none⟩) hbl).trans (HC.out 0 _ (getD_at (l := l) (k := 0) (by have := HLL.out; omega)))
  have hp0 : (0 : Int) < (nl : Int) := by omega
  clear hcnt hb1
  generalize hl0 : l.getD 0 0 = d0 at *
  have HL0 := hide hl0
  clear hl0
  go_wp2_with fail
  go_quiet (fail)
  go_wp2_with fail
  go_loopw [8, 9, 30] (fun m x y wr => ∃ k : Nat, k ≤ nl ∧ y = .int .i64 k ∧ m = .int .i64 (mostT (ldV ws) l k) ∧ x = .int .i64 (leastT (ldV ws) l k) ∧ CntAt wr g (fun d => ldV ws d) ∧ Below w.heap.size w wr) (fun _ _ y _ => nl - (intOf y).toNat)
  case atStart => exact ⟨0, by omega, rfl, by rw [← HL0.out]; rfl, by rw [← HL0.out]; rfl, HCN.out, drawn_below HB1.out _⟩
  case round =>
    obtain ⟨k, hk, rfl, rfl, rfl, hcnt, hbl2⟩ := hrel
    have HCr := hide hcnt
    have HBr := hide hbl2
    clear hcnt hbl2 HCN HB1 c00
    obtain ⟨i1, hi1, em⟩ := mostT_in (ldV ws) (l := l) (by have := HLL.out; omega) k
    obtain ⟨i2, hi2, ex⟩ := leastT_in (ldV ws) (l := l) (by have := HLL.out; omega) k
    have lm := live_at HLV.out hi1
    have lx := live_at HLV.out hi2
    rw [← em] at lm
    rw [← ex] at lx
    obtain ⟨m, hm⟩ := Int.eq_ofNat_of_zero_le lm.1
    obtain ⟨x, hx⟩ := Int.eq_ofNat_of_zero_le lx.1
    rw [hm] at lm
    rw [hx] at lx
    have cm := HCr.out.cell (d := m) (by omega)
    have cx := HCr.out.cell (d := x) (by omega)
    have hmi : (m : Int) < 12 := lm.2
    have hxi : (x : Int) < 12 := lx.2
    have hm0 : (0 : Int) ≤ (m : Int) := lm.1
    have hx0 : (0 : Int) ≤ (x : Int) := lx.1
    have bm := HBN.out m
    have bx := HBN.out x
    clear em ex lm lx hi1 hi2
    by_cases hlt : k < nl
    · have hdk : decide ((k : Int) < (nl : Int)) = true := by simp; omega
      have hki : (k : Int) < (nl : Int) := by omega
      have hk0 : (0 : Int) ≤ (k : Int) := by omega
      have HD := hide (getD_at (l := l) (k := k) (by have := HLL.out; omega))
      have ld := live_at HLV.out (i := k) (by have := HLL.out; omega)
      have ck := (HBr.out.cell (p := ⟨b, o + k, none⟩) hbl).trans (HC.out k _ HD.out)
      have HM1 := hide (mostT_succ (ldV ws) HD.out)
      have HX1 := hide (leastT_succ (ldV ws) HD.out)
      rw [hm] at HM1 ⊢
      rw [hx] at HX1 ⊢
      clear HD
      obtain ⟨p, hp⟩ := Int.eq_ofNat_of_zero_le ld.1
      rw [hp] at ld ck HM1 HX1
      have cp := HCr.out.cell (d := p) (by omega)
      have hpi : (p : Int) < 12 := ld.2
      have hp00 : (0 : Int) ≤ (p : Int) := ld.1
      clear ld hp hm hx
      generalize ldV ws (m : Int) = F1 at *
      generalize ldV ws (x : Int) = F2 at *
      generalize ldV ws (p : Int) = F3 at *
      rcases Nat.lt_or_ge F1 F3 with h1 | h1 <;> rcases Nat.lt_or_ge F3 F2 with h2 | h2
      all_goals
        first
          | (have d1 : decide ((F1 : Int) < (F3 : Int)) = true := by simp; omega)
          | (have d1 : decide ((F1 : Int) < (F3 : Int)) = false := by simp; omega)
        first
          | (have d2 : decide ((F3 : Int) < (F2 : Int)) = true := by simp; omega)
          | (have d2 : decide ((F3 : Int) < (F2 : Int)) = false := by simp; omega)
        first
          | (have d3 : decide (F1 < F3) = true := by simp; omega)
          | (have d3 : decide (F1 < F3) = false := by simp; omega)
        first
          | (have d4 : decide (F3 < F2) = true := by simp; omega)
          | (have d4 : decide (F3 < F2) = false := by simp; omega)
        first
          | rw [if_pos (by omega)] at HM1
          | rw [if_neg (by omega)] at HM1
        first
          | rw [if_pos (by omega)] at HX1
          | rw [if_neg (by omega)] at HX1
        go_wp2_with fail
        go_quiet (fail)
        go_wp2_with fail
        go_quiet (fail)
        go_wp2_with fail
        all_goals
          exact ⟨⟨k + 1, by omega, by go_num, by rw [HM1.out], by rw [HX1.out], cnt_drewN HCr.out _, drawn_below HBr.out _⟩, by simp [intOf]; omega⟩
    · have hdk : decide ((k : Int) < (nl : Int)) = false := by simp; omega
      have HMK : Hid (mostT (ldV ws) l l.length = (m : Int)) := by unfold Hid; rw [← hm]; congr 1; have := HLL.out; omega
      have HXK : Hid (leastT (ldV ws) l l.length = (x : Int)) := by unfold Hid; rw [← hx]; congr 1; have := HLL.out; omega
      rw [hm, hx]
      clear hm hx
      generalize hF1 : ldV ws (m : Int) = F1 at *
      generalize hF2 : ldV ws (x : Int) = F2 at *
      have HF1 := hide hF1
      have HF2 := hide hF2
      clear hF1 hF2
      have hsub : IntKind.i64.wrap ((F1 : Int) - (F2 : Int)) = (F1 : Int) - (F2 : Int) := by rw [IntKind.wrap_i64]; omega
      go_wp2_with fail
      go_quiet (fail)
      go_wp2_with fail
      go_returns
      refine even_ok HN.out HMK.out HXK.out ?_ (drawn_below HBr.out _)
      rw [HF1.out, HF2.out]
      apply decide_eq_decide.2
      omega
end Go.Proofs.Ytleknjjfmklkcaa
