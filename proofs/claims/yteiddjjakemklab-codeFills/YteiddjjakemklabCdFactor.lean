/- What code.Factor and code.factors answer. -/
import Derived.Test.YteiddjjakemklabCdMath
import Derived.Test.YteiddjjakemklabGfRead
namespace Go.Proofs.Yteiddjjakemklab
open Go.RowKit
theorem quiet_of {P : Program} {f : FuncId} {args : Array Value} {w : World} {Q : Ending → Prop} (h : Calls P f args w fun e w' => Q e ∧ w = w') : Calls P f args w fun e w' => Q e ∧ ∃ n, w' = w.drewN n :=
  h.mono fun _ _ h => ⟨h.1, 0, h.2.symm⟩
set_option maxRecDepth 100000 in
set_option maxHeartbeats 400000 in
theorem factor_one (b i : Nat) (w : World) (hi : i < 6) :
    Calls Try.prog 8 #[.pointer (some ⟨b, 0, none⟩), .int .i64 (i : Int), .int .i64 (i : Int)] w fun e w' => e = .returned (.tuple #[.int .u8 1, .int .i64 0]) ∧ w = w' := by
  go_enter Try.func8, Try.ntmps8
  go_wp2
  go_ret2
  exact ⟨rfl, rfl⟩
set_option maxRecDepth 100000 in
set_option maxHeartbeats 400000 in
theorem factor_none (b i j : Nat) (w : World) (hi : i < 6) (hj : j < 6) (hne : i ≠ j) :
    Calls Try.prog 8 #[.pointer (some ⟨b, 0, none⟩), .int .i64 (i : Int), .int .i64 (j : Int)] w fun e w' => e = .returned (.tuple #[.int .u8 0, .int .i64 0]) ∧ w = w' := by
  have h1 : ((i : Int) == (j : Int)) = false := by simp; omega
  have h2 : (i == j) = false := by simp; omega
  clear hne
  go_enter Try.func8, Try.ntmps8
  go_wp2
  go_ret2
  exact ⟨rfl, rfl⟩
set_option maxRecDepth 100000 in
set_option maxHeartbeats 400000 in
theorem factor_parity (b i j : Nat) (w : World) (ht : TabAt w b) (h6 : 6 ≤ i) (hi : i < 9) (hj : j < 6) :
    Calls Try.prog 8 #[.pointer (some ⟨b, 0, none⟩), .int .i64 (i : Int), .int .i64 (j : Int)] w fun e w' => e = .returned (.tuple #[.int .u8 (Cd.fac i j : Nat), .int .i64 0]) ∧ ∃ n, w' = w.drewN n := by
  have h1 : ((i : Int) == (j : Int)) = false := by simp; omega
  have h2 : (i == j) = false := by simp; omega
  have hx := Cd.xor_small hi hj
  have hp := Cd.xor_pos hi hj h6
  have e := i64_xor_nat i j (by omega) (by omega)
  have HF : Hid (Gf.over 1 (i ^^^ j) = Cd.fac i j) := by unfold Cd.fac Hid; rw [if_neg (by omega)]
  have HT := hide ht
  clear ht
  go_enter Try.func8, Try.ntmps8
  go_wp2_with fail
  refine (over_any b 1 (i ^^^ j) _ HT.out (by decide) hp hx).mono ?_
  rintro e w' ⟨he, n, rfl⟩
  rw [HF.out] at he; subst he
  go_wp2_with fail
  go_ret2
  exact ⟨rfl, n, rfl⟩
theorem factor_any (b i j : Nat) (w : World) (ht : TabAt w b) (hi : i < 9) (hj : j < 6) :
    Calls Try.prog 8 #[.pointer (some ⟨b, 0, none⟩), .int .i64 (i : Int), .int .i64 (j : Int)] w fun e w' => e = .returned (.tuple #[.int .u8 (Cd.fac i j : Nat), .int .i64 0]) ∧ ∃ n, w' = w.drewN n := by
  by_cases h6 : i < 6
  · by_cases h : i = j
    · subst h
      have : Cd.fac i i = 1 := by unfold Cd.fac; rw [if_pos h6, if_pos rfl]
      rw [this]; exact quiet_of (factor_one b i w h6)
    · have : Cd.fac i j = 0 := by unfold Cd.fac; rw [if_pos h6, if_neg h]
      rw [this]; exact quiet_of (factor_none b i j w h6 hj h)
  · exact factor_parity b i j w ht (by omega) hi hj
/-- a row of six numbers in memory -/
def rowC (r : Nat → Nat) : Array Value := #[.int .u8 (r 0 : Nat), .int .u8 (r 1 : Nat), .int .u8 (r 2 : Nat), .int .u8 (r 3 : Nat), .int .u8 (r 4 : Nat), .int .u8 (r 5 : Nat)]
theorem rowC_at (r : Nat → Nat) {j : Nat} (hj : j < 6) : (rowC r)[j]? = some (.int .u8 (r j : Nat)) := by
  have : j = 0 ∨ j = 1 ∨ j = 2 ∨ j = 3 ∨ j = 4 ∨ j = 5 := by omega
  rcases this with rfl | rfl | rfl | rfl | rfl | rfl <;> rfl
theorem rowC_set (r : Nat → Nat) {k : Nat} (hk : k < 6) (x : Nat) : (rowC r).setIfInBounds k (.int .u8 (x : Nat)) = rowC (fun j => if j = k then x else r j) := by
  have : k = 0 ∨ k = 1 ∨ k = 2 ∨ k = 3 ∨ k = 4 ∨ k = 5 := by omega
  rcases this with rfl | rfl | rfl | rfl | rfl | rfl <;> rfl
theorem rowC_congr {r r' : Nat → Nat} (h : ∀ j, j < 6 → r j = r' j) : rowC r = rowC r' := by
  unfold rowC; rw [h 0 (by omega), h 1 (by omega), h 2 (by omega), h 3 (by omega), h 4 (by omega), h 5 (by omega)]
def RowAt (w : World) (b : Nat) (r : Nat → Nat) : Prop := w.heap[b]? = some (.cells (rowC r) 52 (0, 0))
theorem RowAt.cells {w : World} {b : Nat} {r : Nat → Nat} (h : RowAt w b r) :
    w.cell? ⟨b, 0, none⟩ = some (.int .u8 (r 0 : Nat)) ∧ w.cell? ⟨b, 1, none⟩ = some (.int .u8 (r 1 : Nat)) ∧ w.cell? ⟨b, 2, none⟩ = some (.int .u8 (r 2 : Nat)) ∧
    w.cell? ⟨b, 3, none⟩ = some (.int .u8 (r 3 : Nat)) ∧ w.cell? ⟨b, 4, none⟩ = some (.int .u8 (r 4 : Nat)) ∧ w.cell? ⟨b, 5, none⟩ = some (.int .u8 (r 5 : Nat)) :=
  ⟨(cell_of_block h).trans rfl, (cell_of_block h).trans rfl, (cell_of_block h).trans rfl, (cell_of_block h).trans rfl, (cell_of_block h).trans rfl, (cell_of_block h).trans rfl⟩
theorem RowAt.cell {w : World} {b : Nat} {r : Nat → Nat} (h : RowAt w b r) {j : Nat} (hj : j < 6) : w.cell? ⟨b, j, none⟩ = some (.int .u8 (r j : Nat)) := (cell_of_block h).trans (rowC_at r hj)
theorem RowAt.free {w : World} {b : Nat} {r : Nat → Nat} (h : RowAt w b r) (j : Nat) : w.frozen? ⟨b, j, none⟩ = false := free_of_block h
theorem RowAt.set {w : World} {b : Nat} {r : Nat → Nat} (h : RowAt w b r) {k : Nat} (hk : k < 6) (x : Nat) : RowAt (w.setCell ⟨b, k, none⟩ (.int .u8 (x : Nat))) b (fun j => if j = k then x else r j) := by
  unfold RowAt; rw [block_setCell _ h, rowC_set r hk]
theorem RowAt.other {w : World} {b : Nat} {r : Nat → Nat} (h : RowAt w b r) {a : Addr} (hne : b ≠ a.block) (u : Value) : RowAt (w.setCell a u) b r := by
  unfold RowAt at *; rw [Below.heap_setCell _ _ _ _ hne]; exact h
theorem RowAt.congr {w : World} {b : Nat} {r r' : Nat → Nat} (h : RowAt w b r) (e : ∀ j, j < 6 → r j = r' j) : RowAt w b r' := by
  unfold RowAt at *; rw [← rowC_congr e]; exact h
theorem RowAt.alloc {w : World} {b : Nat} {r : Nat → Nat} (h : RowAt w b r) (o : Obj) : RowAt (w.alloc o) b r := by
  unfold RowAt at *; rw [Below.heap_alloc _ _ _ (lt_of_block h)]; exact h
theorem RowAt.below {w w' : World} {b B : Nat} {r : Nat → Nat} (h : RowAt w b r) (hb : Below B w w') (hB : b < B) : RowAt w' b r := by
  unfold RowAt at *; rw [hb.block b hB]; exact h
theorem RowAt.drewN {w : World} {b : Nat} {r : Nat → Nat} (h : RowAt w b r) (n : Nat) : RowAt (w.drewN n) b r := h
theorem row_put {w : World} {b : Nat} {r0 : Nat → Nat} (h : RowAt w b r0) (r : Nat → Nat) :
    RowAt ((((((w.setCell ⟨b, 0, none⟩ (.int .u8 (r 0 : Nat))).setCell ⟨b, 1, none⟩ (.int .u8 (r 1 : Nat))).setCell ⟨b, 2, none⟩ (.int .u8 (r 2 : Nat))).setCell ⟨b, 3, none⟩ (.int .u8 (r 3 : Nat))).setCell ⟨b, 4, none⟩ (.int .u8 (r 4 : Nat))).setCell ⟨b, 5, none⟩ (.int .u8 (r 5 : Nat))) b r := by
  have h6 := (((((h.set (k := 0) (by omega) (r 0)).set (k := 1) (by omega) (r 1)).set (k := 2) (by omega) (r 2)).set (k := 3) (by omega) (r 3)).set (k := 4) (by omega) (r 4)).set (k := 5) (by omega) (r 5)
  refine h6.congr fun j hj => ?_
  have : j = 0 ∨ j = 1 ∨ j = 2 ∨ j = 3 ∨ j = 4 ∨ j = 5 := by omega
  rcases this with rfl | rfl | rfl | rfl | rfl | rfl <;> rfl
theorem row_put_below {w0 w : World} {B b : Nat} (h : Below B w0 w) (hb : B ≤ b) (r : Nat → Nat) :
    Below B w0 ((((((w.setCell ⟨b, 0, none⟩ (.int .u8 (r 0 : Nat))).setCell ⟨b, 1, none⟩ (.int .u8 (r 1 : Nat))).setCell ⟨b, 2, none⟩ (.int .u8 (r 2 : Nat))).setCell ⟨b, 3, none⟩ (.int .u8 (r 3 : Nat))).setCell ⟨b, 4, none⟩ (.int .u8 (r 4 : Nat))).setCell ⟨b, 5, none⟩ (.int .u8 (r 5 : Nat))) :=
  (((((h.setCell (p := ⟨b, 0, none⟩) hb _).setCell (p := ⟨b, 1, none⟩) hb _).setCell (p := ⟨b, 2, none⟩) hb _).setCell (p := ⟨b, 3, none⟩) hb _).setCell (p := ⟨b, 4, none⟩) hb _).setCell (p := ⟨b, 5, none⟩) hb _
theorem row_info : (Try.prog.info? 52).map (·.size) = some 6 := by kernel_rfl
theorem rowC_size (r : Nat → Nat) : (rowC r).size = 6 := rfl
theorem res_row_tmp {fn : Func} {p u : Tmp} (h : fn.results = #[.cell p 52, .tmp u]) (tmps : Array Value) (w : World) (g : Nat) (r : Nat → Nat)
    (hp : tmps.getD p undef = .pointer (some ⟨g, 0, none⟩)) (hr : RowAt w g r) : (results fn tmps).run Try.prog w = .ok (.tuple #[.agg (rowC r), tmps.getD u undef]) w := by
  rw [results_cell_tmp h, hp]
  simp [asAddr, run_loadVar_row w g 52 52 (rowC r) (0, 0) _ hr Try.underlying52 rfl row_info]
theorem res_row {fn : Func} {p : Tmp} (h : fn.results = #[.cell p 52]) (tmps : Array Value) (w : World) (g : Nat) (r : Nat → Nat)
    (hp : tmps.getD p undef = .pointer (some ⟨g, 0, none⟩)) (hr : RowAt w g r) : (results fn tmps).run Try.prog w = .ok (.agg (rowC r)) w :=
  results_cell_row h tmps w g 52 (rowC r) (0, 0) _ hp hr Try.underlying52 rfl row_info
def FacRel (w wr : World) (i k : Nat) : Prop := RowAt wr w.heap.size (fun _ => 0) ∧ RowAt wr (w.heap.size + 1) (fun j => if j < k then Cd.fac i j else 0) ∧ Below w.heap.size w wr
theorem facRel_step {w wr : World} {i k : Nat} (hk : k < 6) (h : FacRel w wr i k) (n : Nat) :
    FacRel w ((wr.drewN n).setCell ⟨w.heap.size + 1, k, none⟩ (.int .u8 (Cd.fac i k : Nat))) i (k + 1) := by
  obtain ⟨h1, h2, h3⟩ := h
  have h3' : Below w.heap.size w (wr.drewN n) := ⟨h3.os, h3.tape, h3.output, h3.size, h3.block⟩
  refine ⟨(h1.drewN n).other (by simp) _, ((h2.drewN n).set hk _).congr fun j _ => ?_, h3'.setCell (by simp) _⟩
  by_cases e : j = k
  · subst e; rw [if_pos rfl, if_pos (by omega)]
  · rw [if_neg e]
    by_cases c : j < k
    · rw [if_pos c, if_pos (by omega)]
    · rw [if_neg c, if_neg (by omega)]
set_option maxRecDepth 100000 in
set_option maxHeartbeats 400000 in
theorem factors_any (b i : Nat) (w : World) (ht : TabAt w b) (hi : i < 9) :
    Calls Try.prog 24 #[.pointer (some ⟨b, 0, none⟩), .int .i64 (i : Int)] w fun e w' => e = .returned (.tuple #[.agg (rowC (Cd.fac i)), .int .i64 0]) ∧ Below w.heap.size w w' := by
  go_enter Try.func24, Try.ntmps24
  go_wp2_with fail
  go_loopw [10] (fun x wr => ∃ k : Nat, k ≤ 6 ∧ x = .int .i64 k ∧ FacRel w wr i k) (fun x _ => 6 - (intOf x).toNat)
  case atStart =>
    have h1 := heap_alloc_new w (.cells (rowC fun _ => 0) 52)
    refine ⟨0, by omega, rfl, ?_, ?_, ((Below.refl _ _).alloc (Nat.le_refl _) _).alloc (by simp) _⟩
    · exact RowAt.alloc (r := fun _ => 0) h1 _
    · have h2 := heap_alloc_new (w.alloc (.cells (rowC fun _ => 0) 52)) (.cells (rowC fun _ => 0) 52)
      rw [World.size_alloc] at h2
      exact h2
  case round =>
    obtain ⟨k, hk, rfl, hrel⟩ := hrel
    have htr : TabAt wr b := ht.below hrel.2.2 ht.lt
    by_cases hlt : k < 6
    · have hc := hrel.2.1.cell hlt
      have hf := hrel.2.1.free k
      have H := hide hrel
      have HT := hide htr
      clear hrel htr ht
      go_wp2_with fail
      refine (factor_any b i k _ HT.out hi hlt).mono ?_
      rintro e w' ⟨rfl, n, rfl⟩
      go_wp2_with fail
      go_roundw
      case rel => exact ⟨k + 1, by omega, by go_num, facRel_step hlt H.out n⟩
      case measure => simp [intOf]; omega
    · obtain rfl : k = 6 := by omega
      obtain ⟨c0, c1, c2, c3, c4, c5⟩ := hrel.1.cells
      have f0 := hrel.1.free
      obtain ⟨d0, d1, d2, d3, d4, d5⟩ := hrel.2.1.cells
      have H := hide hrel
      clear hrel
      go_wp2_with fail
      clear c0 c1 c2 c3 c4 c5 d0 d1 d2 d3 d4 d5 f0
      refine bodyPost_ret (res_row_tmp rfl _ _ w.heap.size (Cd.fac i) rfl (row_put H.out.1 (Cd.fac i))) rfl ⟨rfl, ?_⟩
      exact row_put_below H.out.2.2 (Nat.le_refl _) (Cd.fac i)
end Go.Proofs.Yteiddjjakemklab
