/- What code.invert answers, of a matrix whose columns can all be cleared. -/
import Derived.Test.YteiddjjakemklabCdClear
import Derived.WalkMore
import Derived.Deep.LoopGhost
namespace Go.Proofs.Yteiddjjakemklab
open Go.RowKit
def colStep (S : Cd.Mat × Cd.Mat) (c r : Nat) : Cd.Mat × Cd.Mat :=
  let x := Gf.over 1 (S.1 r c)
  let M2 := Cd.scaleR (Cd.swapR S.1 c r) c x
  let A2 := Cd.scaleR (Cd.swapR S.2 c r) c x
  (Cd.clearTo M2 M2 c 6, Cd.clearTo M2 A2 c 6)
def small (M : Cd.Mat) : Prop := ∀ i j, M i j < 256
/-- how the columns of M are cleared: the pivots R, the two matrices S at the head of each column -/
structure Clears (M : Cd.Mat) (S : Nat → Cd.Mat × Cd.Mat) (R : Nat → Nat) : Prop where
  start : ∀ i j, i < 6 → j < 6 → (S 0).1 i j = M i j ∧ (S 0).2 i j = Cd.unitM i j
  low : ∀ c, c < 6 → c ≤ R c
  high : ∀ c, c < 6 → R c < 6
  zero : ∀ c, c < 6 → ∀ r, c ≤ r → r < R c → (S c).1 r c = 0
  pos : ∀ c, c < 6 → 0 < (S c).1 (R c) c
  step : ∀ c, c < 6 → ∀ i j, i < 6 → j < 6 → (S (c + 1)).1 i j = (colStep (S c) c (R c)).1 i j ∧ (S (c + 1)).2 i j = (colStep (S c) c (R c)).2 i j
  sm : ∀ c, c ≤ 6 → small (S c).1 ∧ small (S c).2
def InRel (w wr : World) (bb : Nat) (S : Cd.Mat × Cd.Mat) : Prop :=
  MatAt wr w.heap.size S.1 ∧ MatAt wr bb S.2 ∧ MatAt wr (w.heap.size + 1) (fun _ _ => 0) ∧ w.heap.size + 1 < bb ∧ Below w.heap.size w wr
theorem InRel.congr {w wr : World} {bb : Nat} {S S' : Cd.Mat × Cd.Mat} (h : InRel w wr bb S) (e : ∀ i j, i < 6 → j < 6 → S'.1 i j = S.1 i j ∧ S'.2 i j = S.2 i j) : InRel w wr bb S' := by
  obtain ⟨h1, h2, h3, h4, h5⟩ := h
  exact ⟨h1.congr fun i j hi hj => (e i j hi hj).1.symm, h2.congr fun i j hi hj => (e i j hi hj).2.symm, h3, h4, h5⟩
theorem below_putRow {w0 w : World} {B b : Nat} (h : Below B w0 w) (hb : B ≤ b) (i : Nat) (r : Nat → Nat) : Below B w0 ((((((w.setCell ⟨b, i * 6, none⟩ (.int .u8 (r 0 : Nat))).setCell ⟨b, i * 6 + 1, none⟩ (.int .u8 (r 1 : Nat))).setCell ⟨b, i * 6 + 2, none⟩ (.int .u8 (r 2 : Nat))).setCell ⟨b, i * 6 + 3, none⟩ (.int .u8 (r 3 : Nat))).setCell ⟨b, i * 6 + 4, none⟩ (.int .u8 (r 4 : Nat))).setCell ⟨b, i * 6 + 5, none⟩ (.int .u8 (r 5 : Nat))) :=
  (((((h.setCell (p := ⟨b, _, none⟩) hb _).setCell (p := ⟨b, _, none⟩) hb _).setCell (p := ⟨b, _, none⟩) hb _).setCell (p := ⟨b, _, none⟩) hb _).setCell (p := ⟨b, _, none⟩) hb _).setCell (p := ⟨b, _, none⟩) hb _
theorem InRel.rowM {w wr : World} {bb : Nat} {M A : Cd.Mat} (h : InRel w wr bb (M, A)) {i : Nat} (hi : i < 6) (r : Nat → Nat) :
    InRel w ((((((wr.setCell ⟨w.heap.size, i * 6, none⟩ (.int .u8 (r 0 : Nat))).setCell ⟨w.heap.size, i * 6 + 1, none⟩ (.int .u8 (r 1 : Nat))).setCell ⟨w.heap.size, i * 6 + 2, none⟩ (.int .u8 (r 2 : Nat))).setCell ⟨w.heap.size, i * 6 + 3, none⟩ (.int .u8 (r 3 : Nat))).setCell ⟨w.heap.size, i * 6 + 4, none⟩ (.int .u8 (r 4 : Nat))).setCell ⟨w.heap.size, i * 6 + 5, none⟩ (.int .u8 (r 5 : Nat))) bb (fun a => if a = i then r else M a, A) := by
  obtain ⟨h1, h2, h3, h4, h5⟩ := h
  exact ⟨h1.putRow hi r, h2.putRowOther (by omega) i r, h3.putRowOther (by omega) i r, h4, below_putRow h5 (Nat.le_refl _) i r⟩
theorem InRel.rowA {w wr : World} {bb : Nat} {M A : Cd.Mat} (h : InRel w wr bb (M, A)) {i : Nat} (hi : i < 6) (r : Nat → Nat) :
    InRel w ((((((wr.setCell ⟨bb, i * 6, none⟩ (.int .u8 (r 0 : Nat))).setCell ⟨bb, i * 6 + 1, none⟩ (.int .u8 (r 1 : Nat))).setCell ⟨bb, i * 6 + 2, none⟩ (.int .u8 (r 2 : Nat))).setCell ⟨bb, i * 6 + 3, none⟩ (.int .u8 (r 3 : Nat))).setCell ⟨bb, i * 6 + 4, none⟩ (.int .u8 (r 4 : Nat))).setCell ⟨bb, i * 6 + 5, none⟩ (.int .u8 (r 5 : Nat))) bb (M, fun a => if a = i then r else A a) := by
  obtain ⟨h1, h2, h3, h4, h5⟩ := h
  exact ⟨h1.putRowOther (by omega) i r, h2.putRow hi r, h3.putRowOther (by omega) i r, h4, below_putRow h5 (by omega) i r⟩
theorem InRel.draws {w wr : World} {bb : Nat} {S : Cd.Mat × Cd.Mat} (h : InRel w wr bb S) (n : Nat) : InRel w (wr.drewN n) bb S := by
  obtain ⟨h1, h2, h3, h4, h5⟩ := h
  exact ⟨h1, h2, h3, h4, below_draws h5 n⟩
theorem InRel.below {w wr w' : World} {bb : Nat} {S : Cd.Mat × Cd.Mat} (h : InRel w wr bb S) (hb : Below wr.heap.size wr w') : InRel w w' bb S := by
  obtain ⟨h1, h2, h3, h4, h5⟩ := h
  exact ⟨h1.below hb h1.lt, h2.below hb h2.lt, h3.below hb h3.lt, h4, h5.trans (hb.mono (by have := h1.lt; omega))⟩
theorem swap_eq (M : Cd.Mat) (k r : Nat) : (fun a => if a = r then M k else if a = k then M r else M a) = Cd.swapR M k r := by
  funext a; unfold Cd.swapR
  by_cases h1 : a = r
  · subst h1
    by_cases h2 : a = k
    · subst h2; simp
    · rw [if_pos rfl, if_neg h2, if_pos rfl]
  · rw [if_neg h1]
    by_cases h2 : a = k
    · rw [if_pos h2, if_pos h2]
    · rw [if_neg h2, if_neg h2, if_neg h1]
theorem scale_eq (M : Cd.Mat) (k x : Nat) : (fun a => if a = k then (fun j => Gf.mul (M k j) x) else M a) = Cd.scaleR M k x := rfl
theorem small_swap {M : Cd.Mat} (h : small M) (k r : Nat) : small (Cd.swapR M k r) := by
  intro i j; unfold Cd.swapR
  split
  · exact h _ _
  · split
    · exact h _ _
    · exact h _ _
theorem small_scale {M : Cd.Mat} (h : small M) (k x : Nat) : small (Cd.scaleR M k x) := by
  intro i j; unfold Cd.scaleR
  split
  · exact Gf.mul_lt _ _
  · exact h _ _
theorem InRel.ofTwo {w w1 w2 : World} {bb : Nat} {S : Cd.Mat × Cd.Mat} {M A : Cd.Mat} {c : Nat} (h : InRel w w1 bb S) (hc : ClRel w1 w2 w.heap.size bb M A c 6) :
    InRel w w2 bb (Cd.clearTo M M c 6, Cd.clearTo M A c 6) := by
  obtain ⟨h1, h2, h3, h4, h5⟩ := h
  obtain ⟨c1, c2, c3⟩ := hc
  refine ⟨c1, c2, ?_, h4, ⟨c3.os.trans h5.os, c3.tape.trans h5.tape, c3.output.trans h5.output, Nat.le_trans h5.size c3.size, fun k hk => ?_⟩⟩
  · have := c3.block _ h3.lt (by omega) (by omega)
    unfold MatAt at *; rw [this]; exact h3
  · exact (c3.block k (by have := h1.lt; omega) (by omega) (by omega)).trans (h5.block k hk)
set_option maxRecDepth 100000 in
set_option maxHeartbeats 4000000 in
theorem invert_any (b : Nat) (M : Cd.Mat) (S : Nat → Cd.Mat × Cd.Mat) (R : Nat → Nat) (w : World) (ht : TabAt w b) (hC : Clears M S R) :
    Calls Try.prog 35 #[.pointer (some ⟨b, 0, none⟩), .agg (matC M)] w fun e w' => e = .returned (.tuple #[.agg (matC (S 6).2), .int .i64 0]) ∧ Below w.heap.size w w' := by
  have HT := hide ht
  have HC := hide hC
  clear ht hC
  go_enter Try.func35, Try.ntmps35
  go_wp2_with fail
  go_step3
  go_wp2_with fail
  refine (unit_any _).mono ?_
  rintro e w1 ⟨rfl, hb⟩
  have q0 : InRel w ((w1.alloc (.cells (matC fun _ _ => 0) 67)).setRow w1.heap.size (matC Cd.unitM)) w1.heap.size (S 0) := by
    have h1 := heap_alloc_new w (.cells (matC M) 67)
    have h2 := heap_alloc_new (w.alloc (.cells (matC M) 67)) (.cells (matC fun _ _ => 0) 67)
    rw [World.size_alloc] at h2
    have hs := hb.size
    simp only [World.size_alloc] at hs
    refine InRel.congr (S := (M, Cd.unitM)) ?_ HC.out.start
    refine ⟨MatAt.putOther (MatAt.alloc (MatAt.below (MatAt.alloc (M := M) h1 _) hb (by simp; omega)) _) (by omega) _, MatAt.put (M := fun _ _ => 0) (heap_alloc_new _ _) _, MatAt.putOther (MatAt.alloc (MatAt.below (M := fun _ _ => 0) h2 hb (by simp)) _) (by omega) _, by omega, ?_⟩
    exact below_setRow (((((Below.refl _ _).alloc (Nat.le_refl _) _).alloc (by simp) _).trans (hb.mono (by simp; omega))).alloc (by omega) _) (by omega) _
  have Q0 := hide q0
  clear q0
  have hz : MatAt (w1.alloc (.cells (matC fun _ _ => 0) 67)) w1.heap.size (fun _ _ => 0) := heap_alloc_new _ _
  have HZ := hide hz
  clear hz
  go_wp2_with (refine wpList_store_row rfl 67 (.tmp 6) (.tmp 11) rfl w1.heap.size (matC Cd.unitM) rfl rfl 67 (matC fun _ _ => 0) HZ.out (mat_info' _) rfl (matC_one _) ?_)
  go_step3
  go_wp2_with fail
  clear HZ hb
  generalize w1.heap.size = bb at *
  go_loopg [12] 6 (fun g y wr => ∃ k : Nat, k + g = 6 ∧ y = .int .i64 k ∧ InRel w wr bb (S k))
  case atStart => exact ⟨0, by omega, rfl, Q0.out⟩
  case round =>
    clear Q0
    obtain ⟨k, hkg, rfl, hrel⟩ := hrel
    have H := hide hrel
    clear hrel
    by_cases hlt : k < 6
    · have hl := HC.out.low k hlt
      have hh := HC.out.high k hlt
      have hd : decide ((k : Int) < 6) = true := by simp; omega
      go_wp2_with fail
      go_loopg [8] (R k - k) (fun g y wr => ∃ r : Nat, k ≤ r ∧ r + g = R k ∧ y = .int .i64 r ∧ InRel w wr bb (S k))
      case atStart => exact ⟨k, by omega, by omega, rfl, H.out⟩
      case round =>
        clear H
        obtain ⟨r, hkr, hrg, rfl, hrel⟩ := hrel
        have hr6 : r < 6 := by omega
        have hx := hrel.1.cell hr6 hlt
        have HTR := hide (HT.out.below hrel.2.2.2.2 HT.out.lt)
        have HR := hide hrel
        clear hrel
        cases gk with
        | succ n =>
          rw [HC.out.zero k hlt r hkr (by omega)] at hx
          go_wp2_with fail
          refine (over_zero b _ _).mono ?_
          rintro e w2 ⟨rfl, rfl⟩
          go_wp2_with fail
          go_roundg n
          case measure => omega
          case rel => exact ⟨r + 1, by omega, by omega, by go_num, HR.out⟩
        | zero =>
          have hR : R k = r := by omega
          have hp := HC.out.pos k hlt
          have hsm := HC.out.sm k (by omega)
          have hst := HC.out.step k hlt
          rw [hR] at hp hst hh
          clear hR hrg hl
          generalize hSk : S k = Sk at *
          obtain ⟨M0, A0⟩ := Sk
          simp only at hp hsm hx
          unfold colStep at hst
          simp only at hst
          have HST := hide hst
          have HSM := hide hsm
          clear hst hsm hSk
          have hpl := HSM.out.1 r k
          generalize hp0 : M0 r k = p at *
          have HP0 := hide hp0
          clear hp0
          go_wp2_with fail
          refine (over_any b 1 p _ HTR.out (by decide) hp hpl).mono ?_
          rintro e w2 ⟨rfl, n2, rfl⟩
          have hxl := Gf.over_lt 1 p
          have HX : Hid (Gf.over 1 p = Gf.over 1 (M0 r k)) := by unfold Hid; rw [HP0.out]
          generalize hx0 : Gf.over 1 p = x at *
          clear hx0 hx hp hpl
          obtain ⟨a0, a1, a2, a3, a4, a5, b0, b1, b2, b3, b4, b5⟩ := HR.out.1.twelve hlt hh (r := M0 k) (s := M0 r) rfl rfl
          have ff := HR.out.1.free
          rcases Nat.eq_or_lt_of_le hkr with rfl | hlt2
          · skip
            go_wp2_with fail
            go_region
            have q1 : InRel w (((((((((((((wr.drewN (n2 + 1)).setCell ⟨w.heap.size, k * 6, none⟩ (.int .u8 (M0 k 0 : Nat))).setCell ⟨w.heap.size, k * 6 + 1, none⟩ (.int .u8 (M0 k 1 : Nat))).setCell ⟨w.heap.size, k * 6 + 2, none⟩ (.int .u8 (M0 k 2 : Nat))).setCell ⟨w.heap.size, k * 6 + 3, none⟩ (.int .u8 (M0 k 3 : Nat))).setCell ⟨w.heap.size, k * 6 + 4, none⟩ (.int .u8 (M0 k 4 : Nat))).setCell ⟨w.heap.size, k * 6 + 5, none⟩ (.int .u8 (M0 k 5 : Nat))).setCell ⟨w.heap.size, k * 6, none⟩ (.int .u8 (M0 k 0 : Nat))).setCell ⟨w.heap.size, k * 6 + 1, none⟩ (.int .u8 (M0 k 1 : Nat))).setCell ⟨w.heap.size, k * 6 + 2, none⟩ (.int .u8 (M0 k 2 : Nat))).setCell ⟨w.heap.size, k * 6 + 3, none⟩ (.int .u8 (M0 k 3 : Nat))).setCell ⟨w.heap.size, k * 6 + 4, none⟩ (.int .u8 (M0 k 4 : Nat))).setCell ⟨w.heap.size, k * 6 + 5, none⟩ (.int .u8 (M0 k 5 : Nat))) bb (Cd.swapR M0 k k, A0) := by rw [← swap_eq]; exact ((HR.out.draws (n2 + 1)).rowM hlt (M0 k)).rowM hlt (M0 k)
            clear a0 a1 a2 a3 a4 a5 b0 b1 b2 b3 b4 b5 ff HR
            generalize (((((((((((((wr.drewN (n2 + 1)).setCell ⟨w.heap.size, k * 6, none⟩ (.int .u8 (M0 k 0 : Nat))).setCell ⟨w.heap.size, k * 6 + 1, none⟩ (.int .u8 (M0 k 1 : Nat))).setCell ⟨w.heap.size, k * 6 + 2, none⟩ (.int .u8 (M0 k 2 : Nat))).setCell ⟨w.heap.size, k * 6 + 3, none⟩ (.int .u8 (M0 k 3 : Nat))).setCell ⟨w.heap.size, k * 6 + 4, none⟩ (.int .u8 (M0 k 4 : Nat))).setCell ⟨w.heap.size, k * 6 + 5, none⟩ (.int .u8 (M0 k 5 : Nat))).setCell ⟨w.heap.size, k * 6, none⟩ (.int .u8 (M0 k 0 : Nat))).setCell ⟨w.heap.size, k * 6 + 1, none⟩ (.int .u8 (M0 k 1 : Nat))).setCell ⟨w.heap.size, k * 6 + 2, none⟩ (.int .u8 (M0 k 2 : Nat))).setCell ⟨w.heap.size, k * 6 + 3, none⟩ (.int .u8 (M0 k 3 : Nat))).setCell ⟨w.heap.size, k * 6 + 4, none⟩ (.int .u8 (M0 k 4 : Nat))).setCell ⟨w.heap.size, k * 6 + 5, none⟩ (.int .u8 (M0 k 5 : Nat))) = w3 at *
            obtain ⟨a0, a1, a2, a3, a4, a5, b0, b1, b2, b3, b4, b5⟩ := q1.2.1.twelve hlt hlt (r := A0 k) (s := A0 k) rfl rfl
            have ff := q1.2.1.free
            have Q1 := hide q1
            clear q1
            go_wp2_with fail
            go_region
            have q2 : InRel w ((((((((((((w3.setCell ⟨bb, k * 6, none⟩ (.int .u8 (A0 k 0 : Nat))).setCell ⟨bb, k * 6 + 1, none⟩ (.int .u8 (A0 k 1 : Nat))).setCell ⟨bb, k * 6 + 2, none⟩ (.int .u8 (A0 k 2 : Nat))).setCell ⟨bb, k * 6 + 3, none⟩ (.int .u8 (A0 k 3 : Nat))).setCell ⟨bb, k * 6 + 4, none⟩ (.int .u8 (A0 k 4 : Nat))).setCell ⟨bb, k * 6 + 5, none⟩ (.int .u8 (A0 k 5 : Nat))).setCell ⟨bb, k * 6, none⟩ (.int .u8 (A0 k 0 : Nat))).setCell ⟨bb, k * 6 + 1, none⟩ (.int .u8 (A0 k 1 : Nat))).setCell ⟨bb, k * 6 + 2, none⟩ (.int .u8 (A0 k 2 : Nat))).setCell ⟨bb, k * 6 + 3, none⟩ (.int .u8 (A0 k 3 : Nat))).setCell ⟨bb, k * 6 + 4, none⟩ (.int .u8 (A0 k 4 : Nat))).setCell ⟨bb, k * 6 + 5, none⟩ (.int .u8 (A0 k 5 : Nat))).drew bb (Cd.swapR M0 k k, Cd.swapR A0 k k) := by rw [← swap_eq A0]; exact ((Q1.out.rowA hlt (A0 k)).rowA hlt (A0 k)).draws 1
            clear a0 a1 a2 a3 a4 a5 b0 b1 b2 b3 b4 b5 ff Q1
            generalize ((((((((((((w3.setCell ⟨bb, k * 6, none⟩ (.int .u8 (A0 k 0 : Nat))).setCell ⟨bb, k * 6 + 1, none⟩ (.int .u8 (A0 k 1 : Nat))).setCell ⟨bb, k * 6 + 2, none⟩ (.int .u8 (A0 k 2 : Nat))).setCell ⟨bb, k * 6 + 3, none⟩ (.int .u8 (A0 k 3 : Nat))).setCell ⟨bb, k * 6 + 4, none⟩ (.int .u8 (A0 k 4 : Nat))).setCell ⟨bb, k * 6 + 5, none⟩ (.int .u8 (A0 k 5 : Nat))).setCell ⟨bb, k * 6, none⟩ (.int .u8 (A0 k 0 : Nat))).setCell ⟨bb, k * 6 + 1, none⟩ (.int .u8 (A0 k 1 : Nat))).setCell ⟨bb, k * 6 + 2, none⟩ (.int .u8 (A0 k 2 : Nat))).setCell ⟨bb, k * 6 + 3, none⟩ (.int .u8 (A0 k 3 : Nat))).setCell ⟨bb, k * 6 + 4, none⟩ (.int .u8 (A0 k 4 : Nat))).setCell ⟨bb, k * 6 + 5, none⟩ (.int .u8 (A0 k 5 : Nat))).drew = w4 at *
            obtain ⟨a0, a1, a2, a3, a4, a5⟩ := q2.1.six hlt (r := Cd.swapR M0 k k k) rfl
            have HT4 := hide (HT.out.below q2.2.2.2.2 HT.out.lt)
            have Q2 := hide q2
            clear q2
            go_wp2_with fail
            refine (scaled_any b x (Cd.swapR M0 k k k) _ HT4.out hxl (fun j _ => small_swap HSM.out.1 k k k j)).mono ?_
            rintro e w5 ⟨rfl, hb5⟩
            have q3 := Q2.out.below hb5
            clear a0 a1 a2 a3 a4 a5 Q2 hb5 HT4
            obtain ⟨a0, a1, a2, a3, a4, a5⟩ := q3.1.six hlt (r := Cd.swapR M0 k k k) rfl
            obtain ⟨b0, b1, b2, b3, b4, b5⟩ := q3.2.1.six hlt (r := Cd.swapR A0 k k k) rfl
            have hbb := q3.2.2.2.1
            have ff := q3.1.free
            have Q3 := hide q3
            clear q3
            simp only [rowC]
            go_wp2_with fail
            have q4 : InRel w ((((((w5.setCell ⟨w.heap.size, k * 6, none⟩ (.int .u8 (Gf.mul (Cd.swapR M0 k k k 0) x : Nat))).setCell ⟨w.heap.size, k * 6 + 1, none⟩ (.int .u8 (Gf.mul (Cd.swapR M0 k k k 1) x : Nat))).setCell ⟨w.heap.size, k * 6 + 2, none⟩ (.int .u8 (Gf.mul (Cd.swapR M0 k k k 2) x : Nat))).setCell ⟨w.heap.size, k * 6 + 3, none⟩ (.int .u8 (Gf.mul (Cd.swapR M0 k k k 3) x : Nat))).setCell ⟨w.heap.size, k * 6 + 4, none⟩ (.int .u8 (Gf.mul (Cd.swapR M0 k k k 4) x : Nat))).setCell ⟨w.heap.size, k * 6 + 5, none⟩ (.int .u8 (Gf.mul (Cd.swapR M0 k k k 5) x : Nat))) bb (Cd.scaleR (Cd.swapR M0 k k) k x, Cd.swapR A0 k k) := by rw [← scale_eq]; exact Q3.out.rowM hlt (fun j => Gf.mul (Cd.swapR M0 k k k j) x)
            clear a0 a1 a2 a3 a4 a5 b0 b1 b2 b3 b4 b5 ff Q3
            generalize ((((((w5.setCell ⟨w.heap.size, k * 6, none⟩ (.int .u8 (Gf.mul (Cd.swapR M0 k k k 0) x : Nat))).setCell ⟨w.heap.size, k * 6 + 1, none⟩ (.int .u8 (Gf.mul (Cd.swapR M0 k k k 1) x : Nat))).setCell ⟨w.heap.size, k * 6 + 2, none⟩ (.int .u8 (Gf.mul (Cd.swapR M0 k k k 2) x : Nat))).setCell ⟨w.heap.size, k * 6 + 3, none⟩ (.int .u8 (Gf.mul (Cd.swapR M0 k k k 3) x : Nat))).setCell ⟨w.heap.size, k * 6 + 4, none⟩ (.int .u8 (Gf.mul (Cd.swapR M0 k k k 4) x : Nat))).setCell ⟨w.heap.size, k * 6 + 5, none⟩ (.int .u8 (Gf.mul (Cd.swapR M0 k k k 5) x : Nat))) = w6 at *
            have HT6 := hide (HT.out.below q4.2.2.2.2 HT.out.lt)
            have Q4 := hide q4
            clear q4
            refine (scaled_any b x (Cd.swapR A0 k k k) _ HT6.out hxl (fun j _ => small_swap HSM.out.2 k k k j)).mono ?_
            rintro e w7 ⟨rfl, hb7⟩
            have q5 := Q4.out.below hb7
            clear Q4 hb7 HT6
            obtain ⟨a0, a1, a2, a3, a4, a5⟩ := q5.2.1.six hlt (r := Cd.swapR A0 k k k) rfl
            have ff := q5.2.1.free
            have Q5 := hide q5
            clear q5
            simp only [rowC]
            go_wp2_with fail
            have q6 : InRel w ((((((w7.setCell ⟨bb, k * 6, none⟩ (.int .u8 (Gf.mul (Cd.swapR A0 k k k 0) x : Nat))).setCell ⟨bb, k * 6 + 1, none⟩ (.int .u8 (Gf.mul (Cd.swapR A0 k k k 1) x : Nat))).setCell ⟨bb, k * 6 + 2, none⟩ (.int .u8 (Gf.mul (Cd.swapR A0 k k k 2) x : Nat))).setCell ⟨bb, k * 6 + 3, none⟩ (.int .u8 (Gf.mul (Cd.swapR A0 k k k 3) x : Nat))).setCell ⟨bb, k * 6 + 4, none⟩ (.int .u8 (Gf.mul (Cd.swapR A0 k k k 4) x : Nat))).setCell ⟨bb, k * 6 + 5, none⟩ (.int .u8 (Gf.mul (Cd.swapR A0 k k k 5) x : Nat))) bb (Cd.scaleR (Cd.swapR M0 k k) k x, Cd.scaleR (Cd.swapR A0 k k) k x) := by rw [← scale_eq (Cd.swapR A0 k k)]; exact Q5.out.rowA hlt (fun j => Gf.mul (Cd.swapR A0 k k k j) x)
            clear a0 a1 a2 a3 a4 a5 ff Q5
            generalize ((((((w7.setCell ⟨bb, k * 6, none⟩ (.int .u8 (Gf.mul (Cd.swapR A0 k k k 0) x : Nat))).setCell ⟨bb, k * 6 + 1, none⟩ (.int .u8 (Gf.mul (Cd.swapR A0 k k k 1) x : Nat))).setCell ⟨bb, k * 6 + 2, none⟩ (.int .u8 (Gf.mul (Cd.swapR A0 k k k 2) x : Nat))).setCell ⟨bb, k * 6 + 3, none⟩ (.int .u8 (Gf.mul (Cd.swapR A0 k k k 3) x : Nat))).setCell ⟨bb, k * 6 + 4, none⟩ (.int .u8 (Gf.mul (Cd.swapR A0 k k k 4) x : Nat))).setCell ⟨bb, k * 6 + 5, none⟩ (.int .u8 (Gf.mul (Cd.swapR A0 k k k 5) x : Nat))) = w8 at *
            have HT8 := hide (HT.out.below q6.2.2.2.2 HT.out.lt)
            have Q6 := hide q6
            clear q6
            refine (clear_any b w.heap.size bb k (Cd.scaleR (Cd.swapR M0 k k) k x) (Cd.scaleR (Cd.swapR A0 k k) k x) _ HT8.out Q6.out.1 Q6.out.2.1 (by have := HT.out.lt; omega) (by have := HT.out.lt; have := Q6.out.2.2.2.1; omega) (by have := Q6.out.2.2.2.1; omega) hlt (small_scale (small_swap HSM.out.1 k k) k x) (small_scale (small_swap HSM.out.2 k k) k x)).mono ?_
            rintro e w9 ⟨rfl, hcl⟩
            have QF : Hid (InRel w w9 bb (S (k + 1))) := by
              exact InRel.congr (Q6.out.ofTwo hcl) HST.out
            clear hcl Q6 HT8
            go_wp2_with fail
            go_roundg (5 - k)
            case measure => omega
            case rel => exact ⟨k + 1, by omega, by go_num, QF.out⟩
          · have hpq : k * 6 + 6 ≤ r * 6 := by omega
            go_wp2_with fail
            go_region
            have q1 : InRel w (((((((((((((wr.drewN (n2 + 1)).setCell ⟨w.heap.size, k * 6, none⟩ (.int .u8 (M0 r 0 : Nat))).setCell ⟨w.heap.size, k * 6 + 1, none⟩ (.int .u8 (M0 r 1 : Nat))).setCell ⟨w.heap.size, k * 6 + 2, none⟩ (.int .u8 (M0 r 2 : Nat))).setCell ⟨w.heap.size, k * 6 + 3, none⟩ (.int .u8 (M0 r 3 : Nat))).setCell ⟨w.heap.size, k * 6 + 4, none⟩ (.int .u8 (M0 r 4 : Nat))).setCell ⟨w.heap.size, k * 6 + 5, none⟩ (.int .u8 (M0 r 5 : Nat))).setCell ⟨w.heap.size, r * 6, none⟩ (.int .u8 (M0 k 0 : Nat))).setCell ⟨w.heap.size, r * 6 + 1, none⟩ (.int .u8 (M0 k 1 : Nat))).setCell ⟨w.heap.size, r * 6 + 2, none⟩ (.int .u8 (M0 k 2 : Nat))).setCell ⟨w.heap.size, r * 6 + 3, none⟩ (.int .u8 (M0 k 3 : Nat))).setCell ⟨w.heap.size, r * 6 + 4, none⟩ (.int .u8 (M0 k 4 : Nat))).setCell ⟨w.heap.size, r * 6 + 5, none⟩ (.int .u8 (M0 k 5 : Nat))) bb (Cd.swapR M0 k r, A0) := by rw [← swap_eq]; exact ((HR.out.draws (n2 + 1)).rowM hlt (M0 r)).rowM hh (M0 k)
            clear a0 a1 a2 a3 a4 a5 b0 b1 b2 b3 b4 b5 ff HR
            generalize (((((((((((((wr.drewN (n2 + 1)).setCell ⟨w.heap.size, k * 6, none⟩ (.int .u8 (M0 r 0 : Nat))).setCell ⟨w.heap.size, k * 6 + 1, none⟩ (.int .u8 (M0 r 1 : Nat))).setCell ⟨w.heap.size, k * 6 + 2, none⟩ (.int .u8 (M0 r 2 : Nat))).setCell ⟨w.heap.size, k * 6 + 3, none⟩ (.int .u8 (M0 r 3 : Nat))).setCell ⟨w.heap.size, k * 6 + 4, none⟩ (.int .u8 (M0 r 4 : Nat))).setCell ⟨w.heap.size, k * 6 + 5, none⟩ (.int .u8 (M0 r 5 : Nat))).setCell ⟨w.heap.size, r * 6, none⟩ (.int .u8 (M0 k 0 : Nat))).setCell ⟨w.heap.size, r * 6 + 1, none⟩ (.int .u8 (M0 k 1 : Nat))).setCell ⟨w.heap.size, r * 6 + 2, none⟩ (.int .u8 (M0 k 2 : Nat))).setCell ⟨w.heap.size, r * 6 + 3, none⟩ (.int .u8 (M0 k 3 : Nat))).setCell ⟨w.heap.size, r * 6 + 4, none⟩ (.int .u8 (M0 k 4 : Nat))).setCell ⟨w.heap.size, r * 6 + 5, none⟩ (.int .u8 (M0 k 5 : Nat))) = w3 at *
            obtain ⟨a0, a1, a2, a3, a4, a5, b0, b1, b2, b3, b4, b5⟩ := q1.2.1.twelve hlt hh (r := A0 k) (s := A0 r) rfl rfl
            have ff := q1.2.1.free
            have Q1 := hide q1
            clear q1
            go_wp2_with fail
            go_region
            have q2 : InRel w ((((((((((((w3.setCell ⟨bb, k * 6, none⟩ (.int .u8 (A0 r 0 : Nat))).setCell ⟨bb, k * 6 + 1, none⟩ (.int .u8 (A0 r 1 : Nat))).setCell ⟨bb, k * 6 + 2, none⟩ (.int .u8 (A0 r 2 : Nat))).setCell ⟨bb, k * 6 + 3, none⟩ (.int .u8 (A0 r 3 : Nat))).setCell ⟨bb, k * 6 + 4, none⟩ (.int .u8 (A0 r 4 : Nat))).setCell ⟨bb, k * 6 + 5, none⟩ (.int .u8 (A0 r 5 : Nat))).setCell ⟨bb, r * 6, none⟩ (.int .u8 (A0 k 0 : Nat))).setCell ⟨bb, r * 6 + 1, none⟩ (.int .u8 (A0 k 1 : Nat))).setCell ⟨bb, r * 6 + 2, none⟩ (.int .u8 (A0 k 2 : Nat))).setCell ⟨bb, r * 6 + 3, none⟩ (.int .u8 (A0 k 3 : Nat))).setCell ⟨bb, r * 6 + 4, none⟩ (.int .u8 (A0 k 4 : Nat))).setCell ⟨bb, r * 6 + 5, none⟩ (.int .u8 (A0 k 5 : Nat))).drew bb (Cd.swapR M0 k r, Cd.swapR A0 k r) := by rw [← swap_eq A0]; exact ((Q1.out.rowA hlt (A0 r)).rowA hh (A0 k)).draws 1
            clear a0 a1 a2 a3 a4 a5 b0 b1 b2 b3 b4 b5 ff Q1
            generalize ((((((((((((w3.setCell ⟨bb, k * 6, none⟩ (.int .u8 (A0 r 0 : Nat))).setCell ⟨bb, k * 6 + 1, none⟩ (.int .u8 (A0 r 1 : Nat))).setCell ⟨bb, k * 6 + 2, none⟩ (.int .u8 (A0 r 2 : Nat))).setCell ⟨bb, k * 6 + 3, none⟩ (.int .u8 (A0 r 3 : Nat))).setCell ⟨bb, k * 6 + 4, none⟩ (.int .u8 (A0 r 4 : Nat))).setCell ⟨bb, k * 6 + 5, none⟩ (.int .u8 (A0 r 5 : Nat))).setCell ⟨bb, r * 6, none⟩ (.int .u8 (A0 k 0 : Nat))).setCell ⟨bb, r * 6 + 1, none⟩ (.int .u8 (A0 k 1 : Nat))).setCell ⟨bb, r * 6 + 2, none⟩ (.int .u8 (A0 k 2 : Nat))).setCell ⟨bb, r * 6 + 3, none⟩ (.int .u8 (A0 k 3 : Nat))).setCell ⟨bb, r * 6 + 4, none⟩ (.int .u8 (A0 k 4 : Nat))).setCell ⟨bb, r * 6 + 5, none⟩ (.int .u8 (A0 k 5 : Nat))).drew = w4 at *
            obtain ⟨a0, a1, a2, a3, a4, a5⟩ := q2.1.six hlt (r := Cd.swapR M0 k r k) rfl
            have HT4 := hide (HT.out.below q2.2.2.2.2 HT.out.lt)
            have Q2 := hide q2
            clear q2
            go_wp2_with fail
            refine (scaled_any b x (Cd.swapR M0 k r k) _ HT4.out hxl (fun j _ => small_swap HSM.out.1 k r k j)).mono ?_
            rintro e w5 ⟨rfl, hb5⟩
            have q3 := Q2.out.below hb5
            clear a0 a1 a2 a3 a4 a5 Q2 hb5 HT4
            obtain ⟨a0, a1, a2, a3, a4, a5⟩ := q3.1.six hlt (r := Cd.swapR M0 k r k) rfl
            obtain ⟨b0, b1, b2, b3, b4, b5⟩ := q3.2.1.six hlt (r := Cd.swapR A0 k r k) rfl
            have hbb := q3.2.2.2.1
            have ff := q3.1.free
            have Q3 := hide q3
            clear q3
            simp only [rowC]
            go_wp2_with fail
            have q4 : InRel w ((((((w5.setCell ⟨w.heap.size, k * 6, none⟩ (.int .u8 (Gf.mul (Cd.swapR M0 k r k 0) x : Nat))).setCell ⟨w.heap.size, k * 6 + 1, none⟩ (.int .u8 (Gf.mul (Cd.swapR M0 k r k 1) x : Nat))).setCell ⟨w.heap.size, k * 6 + 2, none⟩ (.int .u8 (Gf.mul (Cd.swapR M0 k r k 2) x : Nat))).setCell ⟨w.heap.size, k * 6 + 3, none⟩ (.int .u8 (Gf.mul (Cd.swapR M0 k r k 3) x : Nat))).setCell ⟨w.heap.size, k * 6 + 4, none⟩ (.int .u8 (Gf.mul (Cd.swapR M0 k r k 4) x : Nat))).setCell ⟨w.heap.size, k * 6 + 5, none⟩ (.int .u8 (Gf.mul (Cd.swapR M0 k r k 5) x : Nat))) bb (Cd.scaleR (Cd.swapR M0 k r) k x, Cd.swapR A0 k r) := by rw [← scale_eq]; exact Q3.out.rowM hlt (fun j => Gf.mul (Cd.swapR M0 k r k j) x)
            clear a0 a1 a2 a3 a4 a5 b0 b1 b2 b3 b4 b5 ff Q3
            generalize ((((((w5.setCell ⟨w.heap.size, k * 6, none⟩ (.int .u8 (Gf.mul (Cd.swapR M0 k r k 0) x : Nat))).setCell ⟨w.heap.size, k * 6 + 1, none⟩ (.int .u8 (Gf.mul (Cd.swapR M0 k r k 1) x : Nat))).setCell ⟨w.heap.size, k * 6 + 2, none⟩ (.int .u8 (Gf.mul (Cd.swapR M0 k r k 2) x : Nat))).setCell ⟨w.heap.size, k * 6 + 3, none⟩ (.int .u8 (Gf.mul (Cd.swapR M0 k r k 3) x : Nat))).setCell ⟨w.heap.size, k * 6 + 4, none⟩ (.int .u8 (Gf.mul (Cd.swapR M0 k r k 4) x : Nat))).setCell ⟨w.heap.size, k * 6 + 5, none⟩ (.int .u8 (Gf.mul (Cd.swapR M0 k r k 5) x : Nat))) = w6 at *
            have HT6 := hide (HT.out.below q4.2.2.2.2 HT.out.lt)
            have Q4 := hide q4
            clear q4
            refine (scaled_any b x (Cd.swapR A0 k r k) _ HT6.out hxl (fun j _ => small_swap HSM.out.2 k r k j)).mono ?_
            rintro e w7 ⟨rfl, hb7⟩
            have q5 := Q4.out.below hb7
            clear Q4 hb7 HT6
            obtain ⟨a0, a1, a2, a3, a4, a5⟩ := q5.2.1.six hlt (r := Cd.swapR A0 k r k) rfl
            have ff := q5.2.1.free
            have Q5 := hide q5
            clear q5
            simp only [rowC]
            go_wp2_with fail
            have q6 : InRel w ((((((w7.setCell ⟨bb, k * 6, none⟩ (.int .u8 (Gf.mul (Cd.swapR A0 k r k 0) x : Nat))).setCell ⟨bb, k * 6 + 1, none⟩ (.int .u8 (Gf.mul (Cd.swapR A0 k r k 1) x : Nat))).setCell ⟨bb, k * 6 + 2, none⟩ (.int .u8 (Gf.mul (Cd.swapR A0 k r k 2) x : Nat))).setCell ⟨bb, k * 6 + 3, none⟩ (.int .u8 (Gf.mul (Cd.swapR A0 k r k 3) x : Nat))).setCell ⟨bb, k * 6 + 4, none⟩ (.int .u8 (Gf.mul (Cd.swapR A0 k r k 4) x : Nat))).setCell ⟨bb, k * 6 + 5, none⟩ (.int .u8 (Gf.mul (Cd.swapR A0 k r k 5) x : Nat))) bb (Cd.scaleR (Cd.swapR M0 k r) k x, Cd.scaleR (Cd.swapR A0 k r) k x) := by rw [← scale_eq (Cd.swapR A0 k r)]; exact Q5.out.rowA hlt (fun j => Gf.mul (Cd.swapR A0 k r k j) x)
            clear a0 a1 a2 a3 a4 a5 ff Q5
            generalize ((((((w7.setCell ⟨bb, k * 6, none⟩ (.int .u8 (Gf.mul (Cd.swapR A0 k r k 0) x : Nat))).setCell ⟨bb, k * 6 + 1, none⟩ (.int .u8 (Gf.mul (Cd.swapR A0 k r k 1) x : Nat))).setCell ⟨bb, k * 6 + 2, none⟩ (.int .u8 (Gf.mul (Cd.swapR A0 k r k 2) x : Nat))).setCell ⟨bb, k * 6 + 3, none⟩ (.int .u8 (Gf.mul (Cd.swapR A0 k r k 3) x : Nat))).setCell ⟨bb, k * 6 + 4, none⟩ (.int .u8 (Gf.mul (Cd.swapR A0 k r k 4) x : Nat))).setCell ⟨bb, k * 6 + 5, none⟩ (.int .u8 (Gf.mul (Cd.swapR A0 k r k 5) x : Nat))) = w8 at *
            have HT8 := hide (HT.out.below q6.2.2.2.2 HT.out.lt)
            have Q6 := hide q6
            clear q6
            refine (clear_any b w.heap.size bb k (Cd.scaleR (Cd.swapR M0 k r) k x) (Cd.scaleR (Cd.swapR A0 k r) k x) _ HT8.out Q6.out.1 Q6.out.2.1 (by have := HT.out.lt; omega) (by have := HT.out.lt; have := Q6.out.2.2.2.1; omega) (by have := Q6.out.2.2.2.1; omega) hlt (small_scale (small_swap HSM.out.1 k r) k x) (small_scale (small_swap HSM.out.2 k r) k x)).mono ?_
            rintro e w9 ⟨rfl, hcl⟩
            have QF : Hid (InRel w w9 bb (S (k + 1))) := by
              exact InRel.congr (Q6.out.ofTwo hcl) HST.out
            clear hcl Q6 HT8
            go_wp2_with fail
            go_roundg (5 - k)
            case measure => omega
            case rel => exact ⟨k + 1, by omega, by go_num, QF.out⟩
    · obtain rfl : k = 6 := by omega
      go_wp2_with (first
        | (refine wpList_load_row rfl 67 (.tmp 6) rfl bb rfl 67 (matC (S 6).2) (0, 0) _ H.out.2.1 Try.underlying67 rfl (mat_info' _) ?_)
        | (refine wpList_store_row rfl 67 (.tmp 4) (.tmp 73) rfl (w.heap.size + 1) (matC (S 6).2) rfl rfl 67 (matC fun _ _ => 0) H.out.2.2.1 (mat_info' _) rfl (matC_one _) ?_))
      try rw [Exit.noGoto_ret]
      refine bodyPost_ret (res_mat_tmp rfl _ _ (w.heap.size + 1) (S 6).2 rfl (H.out.2.2.1.put _)) rfl ⟨rfl, below_setRow H.out.2.2.2.2 (by omega) _⟩
end Go.Proofs.Yteiddjjakemklab
