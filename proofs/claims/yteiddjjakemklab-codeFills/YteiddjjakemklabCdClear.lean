/- What code.clearColumn does to two matrices. -/
import Derived.Test.YteiddjjakemklabCdUnit
import Derived.StillTactics
import Derived.Laws.Pointers
import Derived.Deep.RegionHeld3
namespace Go.Proofs.Yteiddjjakemklab
open Go.RowKit
theorem MatAt.range {w : World} {b : Nat} {M : Cd.Mat} (h : MatAt w b M) {i : Nat} (hi : i < 6) : w.rangeAt b (i * 6) (rowC (M i)).toList := by
  intro j v hv
  have hj : j < 6 := by have := (List.getElem?_eq_some_iff.1 hv).1; simpa [rowC] using this
  rw [h.cell hi hj]
  have e := rowC_at (M i) hj
  rw [← Array.getElem?_toList, hv] at e
  exact e.symm
theorem MatAt.there {w : World} {b : Nat} {M : Cd.Mat} (h : MatAt w b M) {i : Nat} (hi : i < 6) : w.there b (i * 6) 6 := by
  intro j hj
  rw [h.cell hi hj]
  exact ⟨rfl, h.free _⟩
theorem MatAt.setRowAt {w : World} {b : Nat} {M : Cd.Mat} (h : MatAt w b M) {i : Nat} (hi : i < 6) (r : Nat → Nat) :
    MatAt (w.setCells b (i * 6) (rowC r).toList) b (fun a => if a = i then r else M a) := by
  have e : (rowC r).toList = [.int .u8 (r 0 : Nat), .int .u8 (r 1 : Nat), .int .u8 (r 2 : Nat), .int .u8 (r 3 : Nat), .int .u8 (r 4 : Nat), .int .u8 (r 5 : Nat)] := rfl
  rw [e]
  simp only [World.setCells, Nat.add_assoc]
  have h6 := (((((h.set hi (j := 0) (by omega) (r 0)).set hi (j := 1) (by omega) (r 1)).set hi (j := 2) (by omega) (r 2)).set hi (j := 3) (by omega) (r 3)).set hi (j := 4) (by omega) (r 4)).set hi (j := 5) (by omega) (r 5)
  refine MatAt.congr h6 fun a c _ hc => ?_
  by_cases ea : a = i
  · subst ea
    rcases lt6 hc with rfl | rfl | rfl | rfl | rfl | rfl <;> simp
  · simp [ea]
theorem MatAt.six {w : World} {b : Nat} {M : Cd.Mat} (h : MatAt w b M) {i : Nat} (hi : i < 6) {r : Nat → Nat} (e : M i = r) : w.cell? ⟨b, i * 6, none⟩ = some (.int .u8 (r 0 : Nat)) ∧ w.cell? ⟨b, i * 6 + 1, none⟩ = some (.int .u8 (r 1 : Nat)) ∧ w.cell? ⟨b, i * 6 + 2, none⟩ = some (.int .u8 (r 2 : Nat)) ∧ w.cell? ⟨b, i * 6 + 3, none⟩ = some (.int .u8 (r 3 : Nat)) ∧ w.cell? ⟨b, i * 6 + 4, none⟩ = some (.int .u8 (r 4 : Nat)) ∧ w.cell? ⟨b, i * 6 + 5, none⟩ = some (.int .u8 (r 5 : Nat)) := by
  subst e
  exact ⟨h.cell hi (j := 0) (by omega), h.cell hi (j := 1) (by omega), h.cell hi (j := 2) (by omega), h.cell hi (j := 3) (by omega), h.cell hi (j := 4) (by omega), h.cell hi (j := 5) (by omega)⟩
theorem MatAt.twelve {w : World} {b : Nat} {M : Cd.Mat} (h : MatAt w b M) {k c : Nat} (hk : k < 6) (hc : c < 6) {r s : Nat → Nat} (e : M k = r) (e' : M c = s) : w.cell? ⟨b, k * 6, none⟩ = some (.int .u8 (r 0 : Nat)) ∧ w.cell? ⟨b, k * 6 + 1, none⟩ = some (.int .u8 (r 1 : Nat)) ∧ w.cell? ⟨b, k * 6 + 2, none⟩ = some (.int .u8 (r 2 : Nat)) ∧ w.cell? ⟨b, k * 6 + 3, none⟩ = some (.int .u8 (r 3 : Nat)) ∧ w.cell? ⟨b, k * 6 + 4, none⟩ = some (.int .u8 (r 4 : Nat)) ∧ w.cell? ⟨b, k * 6 + 5, none⟩ = some (.int .u8 (r 5 : Nat)) ∧ w.cell? ⟨b, c * 6, none⟩ = some (.int .u8 (s 0 : Nat)) ∧ w.cell? ⟨b, c * 6 + 1, none⟩ = some (.int .u8 (s 1 : Nat)) ∧ w.cell? ⟨b, c * 6 + 2, none⟩ = some (.int .u8 (s 2 : Nat)) ∧ w.cell? ⟨b, c * 6 + 3, none⟩ = some (.int .u8 (s 3 : Nat)) ∧ w.cell? ⟨b, c * 6 + 4, none⟩ = some (.int .u8 (s 4 : Nat)) ∧ w.cell? ⟨b, c * 6 + 5, none⟩ = some (.int .u8 (s 5 : Nat)) := by
  obtain ⟨a0, a1, a2, a3, a4, a5⟩ := h.six hk e
  exact ⟨a0, a1, a2, a3, a4, a5, h.six hc e'⟩
theorem MatAt.putRow {w : World} {b : Nat} {M : Cd.Mat} (h : MatAt w b M) {i : Nat} (hi : i < 6) (r : Nat → Nat) :
    MatAt ((((((w.setCell ⟨b, i * 6, none⟩ (.int .u8 (r 0 : Nat))).setCell ⟨b, i * 6 + 1, none⟩ (.int .u8 (r 1 : Nat))).setCell ⟨b, i * 6 + 2, none⟩ (.int .u8 (r 2 : Nat))).setCell ⟨b, i * 6 + 3, none⟩ (.int .u8 (r 3 : Nat))).setCell ⟨b, i * 6 + 4, none⟩ (.int .u8 (r 4 : Nat))).setCell ⟨b, i * 6 + 5, none⟩ (.int .u8 (r 5 : Nat))) b (fun a => if a = i then r else M a) := by
  have h6 := (((((h.set hi (j := 0) (by omega) (r 0)).set hi (j := 1) (by omega) (r 1)).set hi (j := 2) (by omega) (r 2)).set hi (j := 3) (by omega) (r 3)).set hi (j := 4) (by omega) (r 4)).set hi (j := 5) (by omega) (r 5)
  refine MatAt.congr h6 fun a c _ hc => ?_
  by_cases ea : a = i
  · subst ea
    rcases lt6 hc with rfl | rfl | rfl | rfl | rfl | rfl <;> simp
  · simp [ea]
theorem MatAt.putRowOther {w : World} {b g : Nat} {M : Cd.Mat} (h : MatAt w b M) (hne : b ≠ g) (i : Nat) (r : Nat → Nat) : MatAt ((((((w.setCell ⟨g, i * 6, none⟩ (.int .u8 (r 0 : Nat))).setCell ⟨g, i * 6 + 1, none⟩ (.int .u8 (r 1 : Nat))).setCell ⟨g, i * 6 + 2, none⟩ (.int .u8 (r 2 : Nat))).setCell ⟨g, i * 6 + 3, none⟩ (.int .u8 (r 3 : Nat))).setCell ⟨g, i * 6 + 4, none⟩ (.int .u8 (r 4 : Nat))).setCell ⟨g, i * 6 + 5, none⟩ (.int .u8 (r 5 : Nat))) b M :=
  (((((h.other (a := ⟨g, _, none⟩) hne _).other (a := ⟨g, _, none⟩) hne _).other (a := ⟨g, _, none⟩) hne _).other (a := ⟨g, _, none⟩) hne _).other (a := ⟨g, _, none⟩) hne _).other (a := ⟨g, _, none⟩) hne _
/-- only blocks bm and bb, and new ones, have turned -/
structure Two (bm bb : Nat) (w w' : World) : Prop where
  os : w'.os = w.os
  tape : w'.tape = w.tape
  output : w'.output = w.output
  size : w.heap.size ≤ w'.heap.size
  block : ∀ k, k < w.heap.size → k ≠ bm → k ≠ bb → w'.heap[k]? = w.heap[k]?
theorem Two.refl (bm bb : Nat) (w : World) : Two bm bb w w := ⟨rfl, rfl, rfl, Nat.le_refl _, fun _ _ _ _ => rfl⟩
theorem Two.below {bm bb : Nat} {w w1 w2 : World} (h : Two bm bb w w1) (hb : Below w1.heap.size w1 w2) : Two bm bb w w2 :=
  ⟨hb.os.trans h.os, hb.tape.trans h.tape, hb.output.trans h.output, Nat.le_trans h.size hb.size, fun k hk h1 h2 => (hb.block k (Nat.lt_of_lt_of_le hk h.size)).trans (h.block k hk h1 h2)⟩
theorem Two.drew {bm bb : Nat} {w w1 : World} (h : Two bm bb w w1) : Two bm bb w w1.drew := ⟨h.os, h.tape, h.output, h.size, h.block⟩
theorem Two.setCell {bm bb : Nat} {w w1 : World} (h : Two bm bb w w1) {p : Addr} (hp : p.block = bm ∨ p.block = bb ∨ w.heap.size ≤ p.block) (v : Value) : Two bm bb w (w1.setCell p v) :=
  ⟨h.os, h.tape, h.output, by simpa [World.setCell] using h.size, fun k hk h1 h2 => (Below.heap_setCell _ _ _ _ (by omega)).trans (h.block k hk h1 h2)⟩
theorem Two.putRow {bm bb : Nat} {w w1 : World} (h : Two bm bb w w1) {g : Nat} (hg : g = bm ∨ g = bb) (i : Nat) (r : Nat → Nat) : Two bm bb w ((((((w1.setCell ⟨g, i * 6, none⟩ (.int .u8 (r 0 : Nat))).setCell ⟨g, i * 6 + 1, none⟩ (.int .u8 (r 1 : Nat))).setCell ⟨g, i * 6 + 2, none⟩ (.int .u8 (r 2 : Nat))).setCell ⟨g, i * 6 + 3, none⟩ (.int .u8 (r 3 : Nat))).setCell ⟨g, i * 6 + 4, none⟩ (.int .u8 (r 4 : Nat))).setCell ⟨g, i * 6 + 5, none⟩ (.int .u8 (r 5 : Nat))) := by
  have hg' : g = bm ∨ g = bb ∨ w.heap.size ≤ g := by omega
  exact (((((h.setCell (p := ⟨g, _, none⟩) hg' _).setCell (p := ⟨g, _, none⟩) hg' _).setCell (p := ⟨g, _, none⟩) hg' _).setCell (p := ⟨g, _, none⟩) hg' _).setCell (p := ⟨g, _, none⟩) hg' _).setCell (p := ⟨g, _, none⟩) hg' _
theorem TabAt.two {w w' : World} {b bm bb : Nat} (h : TabAt w b) (ht : Two bm bb w w') (h1 : b ≠ bm) (h2 : b ≠ bb) : TabAt w' b := by
  have := ht.block b h.lt h1 h2
  unfold TabAt at *; rw [this]; exact h
def ClRel (w wr : World) (bm bb : Nat) (M A : Cd.Mat) (c k : Nat) : Prop := MatAt wr bm (Cd.clearTo M M c k) ∧ MatAt wr bb (Cd.clearTo M A c k) ∧ Two bm bb w wr
theorem clearTo_old (M A : Cd.Mat) (c k i : Nat) (h : k ≤ i ∨ i = c) : Cd.clearTo M A c k i = A i := by unfold Cd.clearTo; rw [if_neg (by omega)]
theorem clearTo_skip (M A : Cd.Mat) (c : Nat) : Cd.clearTo M A c (c + 1) = Cd.clearTo M A c c := by
  funext i; unfold Cd.clearTo
  by_cases h : i < c ∧ i ≠ c
  · rw [if_pos h, if_pos (by omega)]
  · rw [if_neg h, if_neg (by omega)]
theorem clearTo_step (M A : Cd.Mat) {c k : Nat} (h : k ≠ c) : Cd.clearTo M A c (k + 1) = fun a => if a = k then (fun j => A k j ^^^ Gf.mul (A c j) (M k c)) else Cd.clearTo M A c k a := by
  funext i; unfold Cd.clearTo
  by_cases e : i = k
  · subst e; rw [if_pos (by omega), if_pos rfl]
  · rw [if_neg e]
    by_cases g : i < k ∧ i ≠ c
    · rw [if_pos g, if_pos (by omega)]
    · rw [if_neg g, if_neg (by omega)]
set_option maxRecDepth 100000 in
set_option maxHeartbeats 8000000 in
theorem clear_any (b bm bb c : Nat) (M A : Cd.Mat) (w : World) (ht : TabAt w b) (hM : MatAt w bm M) (hA : MatAt w bb A) (h1 : b ≠ bm) (h2 : b ≠ bb) (h3 : bm ≠ bb) (hc : c < 6)
    (bM : ∀ i j, M i j < 256) (bA : ∀ i j, A i j < 256) :
    Calls Try.prog 38 #[.pointer (some ⟨b, 0, none⟩), .pointer (some ⟨bm, 0, none⟩), .pointer (some ⟨bb, 0, none⟩), .int .i64 (c : Int)] w
      fun e w' => e = .returned (.tuple #[]) ∧ ClRel w w' bm bb M A c 6 := by
  have HT := hide ht
  have HBM := hide bM
  have HBA := hide bA
  have H1 := hide h1
  have H2 := hide h2
  have H3 := hide h3
  have HI : Hid (ClRel w w bm bb M A c 0) := ⟨hM.congr fun i j _ _ => by rw [clearTo_old _ _ _ _ _ (by omega)], hA.congr fun i j _ _ => by rw [clearTo_old _ _ _ _ _ (by omega)], Two.refl _ _ _⟩
  clear ht hM hA bM bA h1 h2 h3
  go_enter Try.func38, Try.ntmps38
  go_wp2_with fail
  go_loopw [10] (fun y wr => ∃ k : Nat, k ≤ 6 ∧ y = .int .i64 k ∧ ClRel w wr bm bb M A c k) (fun y _ => 6 - (intOf y).toNat)
  case atStart => exact ⟨0, by omega, rfl, HI.out⟩
  case round =>
    clear HI
    obtain ⟨k, hk, rfl, hrel⟩ := hrel
    by_cases hlt : k < 6
    · by_cases he : k = c
      · subst he
        have H := hide hrel
        clear hrel
        go_wp2_with fail
        go_roundw
        case rel => exact ⟨k + 1, by omega, by go_num, by have h := H.out; unfold ClRel at *; rw [clearTo_skip, clearTo_skip]; exact h⟩
        case measure => simp [intOf]; omega
      · have hne : ((k : Int) == (c : Int)) = false := by simp; omega
        have hne' : (k == c) = false := by simp; omega
        have hx : wr.cell? ⟨bm, k * 6 + c, none⟩ = some (.int .u8 (M k c : Nat)) := by
          have := hrel.1.cell hlt hc; rwa [clearTo_old _ _ _ _ _ (by omega)] at this
        have r1 := hrel.1.twelve hlt hc (r := M k) (s := M c) (clearTo_old _ _ _ _ _ (by omega)) (clearTo_old _ _ _ _ _ (by omega))
        obtain ⟨a0, a1, a2, a3, a4, a5, b0, b1, b2, b3, b4, b5⟩ := r1
        have HTW := hide (HT.out.two hrel.2.2 H1.out H2.out)
        have HR := hide hrel
        have HN := hide he
        clear hrel he
        have hk0 : (0 : Int) ≤ (k : Int) := Int.natCast_nonneg _
        have hk8 : (k : Int) < 6 := by omega
        have hc0 : (0 : Int) ≤ (c : Int) := Int.natCast_nonneg _
        have hc8 : (c : Int) < 6 := by omega
        go_wp2_with fail
        go_region_with (first | (go_at_call 37; refine (scaled_any b (M k c) (M c) _ (by exact HTW.out.drew) (HBM.out _ _) (fun j _ => HBM.out _ _)).mono ?_; rintro e w1 ⟨rfl, hb1⟩; have hm1 : MatAt w1 bm (Cd.clearTo M M c k) := MatAt.below (w := wr.drew) HR.out.1 hb1 HR.out.1.lt; obtain ⟨e0, e1, e2, e3, e4, e5⟩ := hm1.six hlt (r := M k) (clearTo_old _ _ _ _ _ (by omega))) | (go_at_call 39; refine (added_any (M k) (fun j => Gf.mul (M c j) (M k c)) _ (fun j _ => HBM.out _ _) (fun j _ => Gf.mul_lt _ _)).mono ?_; rintro e w2 ⟨rfl, hb2⟩; have hm2 : MatAt w2 bm (Cd.clearTo M M c k) := hm1.below hb2 hm1.lt; obtain ⟨g0, g1, g2, g3, g4, g5⟩ := hm2.six hlt (r := M k) (clearTo_old _ _ _ _ _ (by omega)); have f2 := hm2.free; simp only [rowC]))
        all_goals
          have q1 : MatAt ((((((w2.setCell ⟨bm, k * 6, none⟩ (.int .u8 (M k 0 ^^^ Gf.mul (M c 0) (M k c) : Nat))).setCell ⟨bm, k * 6 + 1, none⟩ (.int .u8 (M k 1 ^^^ Gf.mul (M c 1) (M k c) : Nat))).setCell ⟨bm, k * 6 + 2, none⟩ (.int .u8 (M k 2 ^^^ Gf.mul (M c 2) (M k c) : Nat))).setCell ⟨bm, k * 6 + 3, none⟩ (.int .u8 (M k 3 ^^^ Gf.mul (M c 3) (M k c) : Nat))).setCell ⟨bm, k * 6 + 4, none⟩ (.int .u8 (M k 4 ^^^ Gf.mul (M c 4) (M k c) : Nat))).setCell ⟨bm, k * 6 + 5, none⟩ (.int .u8 (M k 5 ^^^ Gf.mul (M c 5) (M k c) : Nat))) bm (Cd.clearTo M M c (k + 1)) := by rw [clearTo_step M M HN.out]; exact hm2.putRow hlt (fun j => M k j ^^^ Gf.mul (M c j) (M k c))
          have q0 : Two bm bb w w2 := ((HR.out.2.2.drew).below hb1).below hb2
          have q2 : MatAt ((((((w2.setCell ⟨bm, k * 6, none⟩ (.int .u8 (M k 0 ^^^ Gf.mul (M c 0) (M k c) : Nat))).setCell ⟨bm, k * 6 + 1, none⟩ (.int .u8 (M k 1 ^^^ Gf.mul (M c 1) (M k c) : Nat))).setCell ⟨bm, k * 6 + 2, none⟩ (.int .u8 (M k 2 ^^^ Gf.mul (M c 2) (M k c) : Nat))).setCell ⟨bm, k * 6 + 3, none⟩ (.int .u8 (M k 3 ^^^ Gf.mul (M c 3) (M k c) : Nat))).setCell ⟨bm, k * 6 + 4, none⟩ (.int .u8 (M k 4 ^^^ Gf.mul (M c 4) (M k c) : Nat))).setCell ⟨bm, k * 6 + 5, none⟩ (.int .u8 (M k 5 ^^^ Gf.mul (M c 5) (M k c) : Nat))) bb (Cd.clearTo M A c k) := MatAt.putRowOther (MatAt.below (MatAt.below (w := wr.drew) HR.out.2.1 hb1 HR.out.2.1.lt) hb2 (Nat.lt_of_lt_of_le HR.out.2.1.lt hb1.size)) (Ne.symm H3.out) k (fun j => M k j ^^^ Gf.mul (M c j) (M k c))
          have q3 : Two bm bb w ((((((w2.setCell ⟨bm, k * 6, none⟩ (.int .u8 (M k 0 ^^^ Gf.mul (M c 0) (M k c) : Nat))).setCell ⟨bm, k * 6 + 1, none⟩ (.int .u8 (M k 1 ^^^ Gf.mul (M c 1) (M k c) : Nat))).setCell ⟨bm, k * 6 + 2, none⟩ (.int .u8 (M k 2 ^^^ Gf.mul (M c 2) (M k c) : Nat))).setCell ⟨bm, k * 6 + 3, none⟩ (.int .u8 (M k 3 ^^^ Gf.mul (M c 3) (M k c) : Nat))).setCell ⟨bm, k * 6 + 4, none⟩ (.int .u8 (M k 4 ^^^ Gf.mul (M c 4) (M k c) : Nat))).setCell ⟨bm, k * 6 + 5, none⟩ (.int .u8 (M k 5 ^^^ Gf.mul (M c 5) (M k c) : Nat))) := q0.putRow (.inl rfl) k (fun j => M k j ^^^ Gf.mul (M c j) (M k c))
          clear q0 hm2 hm1 hb1 hb2 f2 e0 e1 e2 e3 e4 e5 g0 g1 g2 g3 g4 g5 a0 a1 a2 a3 a4 a5 b0 b1 b2 b3 b4 b5 hx
          generalize ((((((w2.setCell ⟨bm, k * 6, none⟩ (.int .u8 (M k 0 ^^^ Gf.mul (M c 0) (M k c) : Nat))).setCell ⟨bm, k * 6 + 1, none⟩ (.int .u8 (M k 1 ^^^ Gf.mul (M c 1) (M k c) : Nat))).setCell ⟨bm, k * 6 + 2, none⟩ (.int .u8 (M k 2 ^^^ Gf.mul (M c 2) (M k c) : Nat))).setCell ⟨bm, k * 6 + 3, none⟩ (.int .u8 (M k 3 ^^^ Gf.mul (M c 3) (M k c) : Nat))).setCell ⟨bm, k * 6 + 4, none⟩ (.int .u8 (M k 4 ^^^ Gf.mul (M c 4) (M k c) : Nat))).setCell ⟨bm, k * 6 + 5, none⟩ (.int .u8 (M k 5 ^^^ Gf.mul (M c 5) (M k c) : Nat))) = w3 at *
          have HTV := hide (HT.out.two q3 H1.out H2.out)
          obtain ⟨a0, a1, a2, a3, a4, a5, b0, b1, b2, b3, b4, b5⟩ := q2.twelve hlt hc (r := A k) (s := A c) (clearTo_old _ _ _ _ _ (by omega)) (clearTo_old _ _ _ _ _ (by omega))
          have Q1 := hide q1
          have Q2 := hide q2
          have Q3 := hide q3
          clear q1 q2 q3
          go_wp2_with fail
          go_region_with (first | (go_at_call 37; refine (scaled_any b (M k c) (A c) _ (by exact HTV.out.drew) (HBM.out _ _) (fun j _ => HBA.out _ _)).mono ?_; rintro e w4 ⟨rfl, hb4⟩; have hm4 : MatAt w4 bb (Cd.clearTo M A c k) := MatAt.below (w := w3.drew) Q2.out hb4 Q2.out.lt; obtain ⟨e0, e1, e2, e3, e4, e5⟩ := hm4.six hlt (r := A k) (clearTo_old _ _ _ _ _ (by omega))) | (go_at_call 39; refine (added_any (A k) (fun j => Gf.mul (A c j) (M k c)) _ (fun j _ => HBA.out _ _) (fun j _ => Gf.mul_lt _ _)).mono ?_; rintro e w5 ⟨rfl, hb5⟩; have hm5 : MatAt w5 bb (Cd.clearTo M A c k) := hm4.below hb5 hm4.lt; obtain ⟨g0, g1, g2, g3, g4, g5⟩ := hm5.six hlt (r := A k) (clearTo_old _ _ _ _ _ (by omega)); have f2 := hm5.free; simp only [rowC]))
          all_goals
            have q1 : MatAt ((((((w5.setCell ⟨bb, k * 6, none⟩ (.int .u8 (A k 0 ^^^ Gf.mul (A c 0) (M k c) : Nat))).setCell ⟨bb, k * 6 + 1, none⟩ (.int .u8 (A k 1 ^^^ Gf.mul (A c 1) (M k c) : Nat))).setCell ⟨bb, k * 6 + 2, none⟩ (.int .u8 (A k 2 ^^^ Gf.mul (A c 2) (M k c) : Nat))).setCell ⟨bb, k * 6 + 3, none⟩ (.int .u8 (A k 3 ^^^ Gf.mul (A c 3) (M k c) : Nat))).setCell ⟨bb, k * 6 + 4, none⟩ (.int .u8 (A k 4 ^^^ Gf.mul (A c 4) (M k c) : Nat))).setCell ⟨bb, k * 6 + 5, none⟩ (.int .u8 (A k 5 ^^^ Gf.mul (A c 5) (M k c) : Nat))) bb (Cd.clearTo M A c (k + 1)) := by rw [clearTo_step M A HN.out]; exact hm5.putRow hlt (fun j => A k j ^^^ Gf.mul (A c j) (M k c))
            have q0 : Two bm bb w w5 := ((Q3.out.drew).below hb4).below hb5
            have q2 : MatAt ((((((w5.setCell ⟨bb, k * 6, none⟩ (.int .u8 (A k 0 ^^^ Gf.mul (A c 0) (M k c) : Nat))).setCell ⟨bb, k * 6 + 1, none⟩ (.int .u8 (A k 1 ^^^ Gf.mul (A c 1) (M k c) : Nat))).setCell ⟨bb, k * 6 + 2, none⟩ (.int .u8 (A k 2 ^^^ Gf.mul (A c 2) (M k c) : Nat))).setCell ⟨bb, k * 6 + 3, none⟩ (.int .u8 (A k 3 ^^^ Gf.mul (A c 3) (M k c) : Nat))).setCell ⟨bb, k * 6 + 4, none⟩ (.int .u8 (A k 4 ^^^ Gf.mul (A c 4) (M k c) : Nat))).setCell ⟨bb, k * 6 + 5, none⟩ (.int .u8 (A k 5 ^^^ Gf.mul (A c 5) (M k c) : Nat))) bm (Cd.clearTo M M c (k + 1)) := MatAt.putRowOther (MatAt.below (MatAt.below (w := w3.drew) Q1.out hb4 Q1.out.lt) hb5 (Nat.lt_of_lt_of_le Q1.out.lt hb4.size)) H3.out k (fun j => A k j ^^^ Gf.mul (A c j) (M k c))
            have q3 : Two bm bb w ((((((w5.setCell ⟨bb, k * 6, none⟩ (.int .u8 (A k 0 ^^^ Gf.mul (A c 0) (M k c) : Nat))).setCell ⟨bb, k * 6 + 1, none⟩ (.int .u8 (A k 1 ^^^ Gf.mul (A c 1) (M k c) : Nat))).setCell ⟨bb, k * 6 + 2, none⟩ (.int .u8 (A k 2 ^^^ Gf.mul (A c 2) (M k c) : Nat))).setCell ⟨bb, k * 6 + 3, none⟩ (.int .u8 (A k 3 ^^^ Gf.mul (A c 3) (M k c) : Nat))).setCell ⟨bb, k * 6 + 4, none⟩ (.int .u8 (A k 4 ^^^ Gf.mul (A c 4) (M k c) : Nat))).setCell ⟨bb, k * 6 + 5, none⟩ (.int .u8 (A k 5 ^^^ Gf.mul (A c 5) (M k c) : Nat))) := q0.putRow (.inr rfl) k (fun j => A k j ^^^ Gf.mul (A c j) (M k c))
            clear q0 hm5 hm4 hb4 hb5 f2 e0 e1 e2 e3 e4 e5 g0 g1 g2 g3 g4 g5 a0 a1 a2 a3 a4 a5 b0 b1 b2 b3 b4 b5
            generalize ((((((w5.setCell ⟨bb, k * 6, none⟩ (.int .u8 (A k 0 ^^^ Gf.mul (A c 0) (M k c) : Nat))).setCell ⟨bb, k * 6 + 1, none⟩ (.int .u8 (A k 1 ^^^ Gf.mul (A c 1) (M k c) : Nat))).setCell ⟨bb, k * 6 + 2, none⟩ (.int .u8 (A k 2 ^^^ Gf.mul (A c 2) (M k c) : Nat))).setCell ⟨bb, k * 6 + 3, none⟩ (.int .u8 (A k 3 ^^^ Gf.mul (A c 3) (M k c) : Nat))).setCell ⟨bb, k * 6 + 4, none⟩ (.int .u8 (A k 4 ^^^ Gf.mul (A c 4) (M k c) : Nat))).setCell ⟨bb, k * 6 + 5, none⟩ (.int .u8 (A k 5 ^^^ Gf.mul (A c 5) (M k c) : Nat))) = w6 at *
            have QQ : Hid (ClRel w w6 bm bb M A c (k + 1)) := ⟨q2, q1, q3⟩
            clear q1 q2 q3
            go_wp2_with fail
            go_roundw
            case rel => exact ⟨k + 1, by omega, by go_num, QQ.out⟩
            case measure => simp [intOf]; omega
    · go_wp2_with fail
      obtain rfl : k = 6 := by omega
      go_end0
      exact ⟨rfl, hrel⟩
end Go.Proofs.Yteiddjjakemklab
