/- Matrices of six rows in memory; what code.unit answers. -/
import Derived.Test.YteiddjjakemklabCdRows
import Derived.Deep.MidRow
import Derived.Laws.CopyOwn
namespace Go.Proofs.Yteiddjjakemklab
open Go.RowKit
def matC (M : Cd.Mat) : Array Value := #[.int .u8 (M 0 0 : Nat), .int .u8 (M 0 1 : Nat), .int .u8 (M 0 2 : Nat), .int .u8 (M 0 3 : Nat), .int .u8 (M 0 4 : Nat), .int .u8 (M 0 5 : Nat), .int .u8 (M 1 0 : Nat), .int .u8 (M 1 1 : Nat), .int .u8 (M 1 2 : Nat), .int .u8 (M 1 3 : Nat), .int .u8 (M 1 4 : Nat), .int .u8 (M 1 5 : Nat), .int .u8 (M 2 0 : Nat), .int .u8 (M 2 1 : Nat), .int .u8 (M 2 2 : Nat), .int .u8 (M 2 3 : Nat), .int .u8 (M 2 4 : Nat), .int .u8 (M 2 5 : Nat), .int .u8 (M 3 0 : Nat), .int .u8 (M 3 1 : Nat), .int .u8 (M 3 2 : Nat), .int .u8 (M 3 3 : Nat), .int .u8 (M 3 4 : Nat), .int .u8 (M 3 5 : Nat), .int .u8 (M 4 0 : Nat), .int .u8 (M 4 1 : Nat), .int .u8 (M 4 2 : Nat), .int .u8 (M 4 3 : Nat), .int .u8 (M 4 4 : Nat), .int .u8 (M 4 5 : Nat), .int .u8 (M 5 0 : Nat), .int .u8 (M 5 1 : Nat), .int .u8 (M 5 2 : Nat), .int .u8 (M 5 3 : Nat), .int .u8 (M 5 4 : Nat), .int .u8 (M 5 5 : Nat)]
theorem lt6 {i : Nat} (h : i < 6) : i = 0 ∨ i = 1 ∨ i = 2 ∨ i = 3 ∨ i = 4 ∨ i = 5 := by omega
theorem matC_at (M : Cd.Mat) {i j : Nat} (hi : i < 6) (hj : j < 6) : (matC M)[i * 6 + j]? = some (.int .u8 (M i j : Nat)) := by
  rcases lt6 hi with rfl | rfl | rfl | rfl | rfl | rfl <;> rcases lt6 hj with rfl | rfl | rfl | rfl | rfl | rfl <;> rfl
theorem matC_set (M : Cd.Mat) {i j : Nat} (hi : i < 6) (hj : j < 6) (x : Nat) : (matC M).setIfInBounds (i * 6 + j) (.int .u8 (x : Nat)) = matC (fun a c => if a = i ∧ c = j then x else M a c) := by
  rcases lt6 hi with rfl | rfl | rfl | rfl | rfl | rfl <;> rcases lt6 hj with rfl | rfl | rfl | rfl | rfl | rfl <;> rfl
theorem matC_congr {M M' : Cd.Mat} (h : ∀ i j, i < 6 → j < 6 → M i j = M' i j) : matC M = matC M' := by
  unfold matC
  rw [h 0 0 (by omega) (by omega), h 0 1 (by omega) (by omega), h 0 2 (by omega) (by omega), h 0 3 (by omega) (by omega), h 0 4 (by omega) (by omega), h 0 5 (by omega) (by omega), h 1 0 (by omega) (by omega), h 1 1 (by omega) (by omega), h 1 2 (by omega) (by omega), h 1 3 (by omega) (by omega), h 1 4 (by omega) (by omega), h 1 5 (by omega) (by omega), h 2 0 (by omega) (by omega), h 2 1 (by omega) (by omega), h 2 2 (by omega) (by omega), h 2 3 (by omega) (by omega), h 2 4 (by omega) (by omega), h 2 5 (by omega) (by omega), h 3 0 (by omega) (by omega), h 3 1 (by omega) (by omega), h 3 2 (by omega) (by omega), h 3 3 (by omega) (by omega), h 3 4 (by omega) (by omega), h 3 5 (by omega) (by omega), h 4 0 (by omega) (by omega), h 4 1 (by omega) (by omega), h 4 2 (by omega) (by omega), h 4 3 (by omega) (by omega), h 4 4 (by omega) (by omega), h 4 5 (by omega) (by omega), h 5 0 (by omega) (by omega), h 5 1 (by omega) (by omega), h 5 2 (by omega) (by omega), h 5 3 (by omega) (by omega), h 5 4 (by omega) (by omega), h 5 5 (by omega) (by omega)]
theorem matC_size (M : Cd.Mat) : (matC M).size = 36 := rfl
def MatAt (w : World) (b : Nat) (M : Cd.Mat) : Prop := w.heap[b]? = some (.cells (matC M) 67 (0, 0))
theorem MatAt.cell {w : World} {b : Nat} {M : Cd.Mat} (h : MatAt w b M) {i j : Nat} (hi : i < 6) (hj : j < 6) : w.cell? ⟨b, i * 6 + j, none⟩ = some (.int .u8 (M i j : Nat)) := (cell_of_block h).trans (matC_at M hi hj)
theorem MatAt.free {w : World} {b : Nat} {M : Cd.Mat} (h : MatAt w b M) (j : Nat) : w.frozen? ⟨b, j, none⟩ = false := free_of_block h
theorem MatAt.congr {w : World} {b : Nat} {M M' : Cd.Mat} (h : MatAt w b M) (e : ∀ i j, i < 6 → j < 6 → M i j = M' i j) : MatAt w b M' := by
  unfold MatAt at *; rw [← matC_congr e]; exact h
theorem MatAt.set {w : World} {b : Nat} {M : Cd.Mat} (h : MatAt w b M) {i j : Nat} (hi : i < 6) (hj : j < 6) (x : Nat) :
    MatAt (w.setCell ⟨b, i * 6 + j, none⟩ (.int .u8 (x : Nat))) b (fun a c => if a = i ∧ c = j then x else M a c) := by
  unfold MatAt; rw [block_setCell _ h, matC_set M hi hj]
theorem MatAt.other {w : World} {b : Nat} {M : Cd.Mat} (h : MatAt w b M) {a : Addr} (hne : b ≠ a.block) (u : Value) : MatAt (w.setCell a u) b M := by
  unfold MatAt at *; rw [Below.heap_setCell _ _ _ _ hne]; exact h
theorem MatAt.alloc {w : World} {b : Nat} {M : Cd.Mat} (h : MatAt w b M) (o : Obj) : MatAt (w.alloc o) b M := by
  unfold MatAt at *; rw [Below.heap_alloc _ _ _ (lt_of_block h)]; exact h
theorem MatAt.below {w w' : World} {b B : Nat} {M : Cd.Mat} (h : MatAt w b M) (hb : Below B w w') (hB : b < B) : MatAt w' b M := by
  unfold MatAt at *; rw [hb.block b hB]; exact h
theorem MatAt.drewN {w : World} {b : Nat} {M : Cd.Mat} (h : MatAt w b M) (n : Nat) : MatAt (w.drewN n) b M := h
theorem MatAt.lt {w : World} {b : Nat} {M : Cd.Mat} (h : MatAt w b M) : b < w.heap.size := lt_of_block h
theorem MatAt.put {w : World} {b : Nat} {M : Cd.Mat} (h : MatAt w b M) (M' : Cd.Mat) : MatAt (w.setRow b (matC M')) b M' := setRow_heap w b _ _ _ _ h
theorem MatAt.putOther {w : World} {b g : Nat} {M : Cd.Mat} (h : MatAt w b M) (hne : b ≠ g) (cs : Array Value) : MatAt (w.setRow g cs) b M := by
  unfold MatAt at *; rw [setRow_other _ _ _ _ hne]; exact h
theorem mat_info : (Try.prog.info? 67).map (·.size) = some 36 := by kernel_rfl
theorem matC_one (M : Cd.Mat) : (matC M).all (·.oneCell') = true := by simp [matC, Value.oneCell']
theorem mat_info' (M : Cd.Mat) : (Try.prog.info? 67).map (·.size) = some (matC M).size := mat_info
theorem row_info' (r : Nat → Nat) : (Try.prog.info? 52).map (·.size) = some (rowC r).size := row_info
theorem rowC_one (r : Nat → Nat) : (rowC r).all (·.oneCell') = true := by simp [rowC, Value.oneCell']
theorem res_mat {fn : Func} {p : Tmp} (h : fn.results = #[.cell p 67]) (tmps : Array Value) (w : World) (g : Nat) (M : Cd.Mat)
    (hp : tmps.getD p undef = .pointer (some ⟨g, 0, none⟩)) (hr : MatAt w g M) : (results fn tmps).run Try.prog w = .ok (.agg (matC M)) w :=
  results_cell_row h tmps w g 67 (matC M) (0, 0) _ hp hr Try.underlying67 rfl mat_info
theorem res_mat_tmp {fn : Func} {p u : Tmp} (h : fn.results = #[.cell p 67, .tmp u]) (tmps : Array Value) (w : World) (g : Nat) (M : Cd.Mat)
    (hp : tmps.getD p undef = .pointer (some ⟨g, 0, none⟩)) (hr : MatAt w g M) : (results fn tmps).run Try.prog w = .ok (.tuple #[.agg (matC M), tmps.getD u undef]) w := by
  rw [results_cell_tmp h, hp]
  simp [asAddr, run_loadVar_row w g 67 67 (matC M) (0, 0) _ hr Try.underlying67 rfl mat_info]
def UnRel (w wr : World) (k : Nat) : Prop := MatAt wr w.heap.size (fun _ _ => 0) ∧ MatAt wr (w.heap.size + 1) (fun i j => if i = j ∧ i < k then 1 else 0) ∧ Below w.heap.size w wr
theorem unRel_step {w wr : World} {k : Nat} (hk : k < 6) (h : UnRel w wr k) : UnRel w (wr.setCell ⟨w.heap.size + 1, k * 6 + k, none⟩ (.int .u8 1)) (k + 1) := by
  obtain ⟨h1, h2, h3⟩ := h
  refine ⟨h1.other (by simp) _, (h2.set hk hk 1).congr fun i j _ _ => ?_, h3.setCell (by simp) _⟩
  by_cases e : i = k ∧ j = k
  · rw [if_pos e, if_pos (by omega)]
  · rw [if_neg e]
    by_cases c : i = j ∧ i < k
    · rw [if_pos c, if_pos (by omega)]
    · rw [if_neg c, if_neg (by omega)]
set_option maxRecDepth 100000 in
set_option maxHeartbeats 1000000 in
theorem unit_any (w : World) :
    Calls Try.prog 36 #[] w fun e w' => e = .returned (.agg (matC Cd.unitM)) ∧ Below w.heap.size w w' := by
  go_enter Try.func36, Try.ntmps36
  go_wp2_with fail
  go_loopw [3] (fun y wr => ∃ k : Nat, k ≤ 6 ∧ y = .int .i64 k ∧ UnRel w wr k) (fun y _ => 6 - (intOf y).toNat)
  case atStart =>
    have h1 := heap_alloc_new w (.cells (matC fun _ _ => 0) 67)
    have h2 := heap_alloc_new (w.alloc (.cells (matC fun _ _ => 0) 67)) (.cells (matC fun _ _ => 0) 67)
    rw [World.size_alloc] at h2
    refine ⟨0, by omega, rfl, ?_, ?_, ((Below.refl _ _).alloc (Nat.le_refl _) _).alloc (by simp) _⟩
    · exact MatAt.alloc (M := fun _ _ => 0) h1 _
    · exact MatAt.congr (M := fun _ _ => 0) h2 fun i j _ _ => by rw [if_neg (by omega)]
  case round =>
    obtain ⟨k, hk, rfl, hrel⟩ := hrel
    by_cases hlt : k < 6
    · have hc := hrel.2.1.cell hlt hlt
      have hf := hrel.2.1.free
      have H := hide hrel
      clear hrel
      go_wp2_with fail
      go_roundw
      case rel => exact ⟨k + 1, by omega, by go_num, unRel_step hlt H.out⟩
      case measure => simp [intOf]; omega
    · obtain rfl : k = 6 := by omega
      obtain ⟨h1, h2, h3⟩ := hrel
      have h2' := h2.congr (M' := Cd.unitM) fun i j hi _ => by unfold Cd.unitM; by_cases e : i = j
                                                               · rw [if_pos e, if_pos (by omega)]
                                                               · rw [if_neg e, if_neg (by omega)]
      have H1 := hide h1
      have H2 := hide h2'
      have H3 := hide h3
      clear h1 h2 h2' h3
      go_wp2_with (first
        | (refine wpList_load_row rfl 67 (.tmp 1) rfl (w.heap.size + 1) rfl 67 (matC Cd.unitM) (0, 0) _ H2.out Try.underlying67 rfl (mat_info' _) ?_)
        | (refine wpList_store_row rfl 67 (.tmp 0) (.tmp 11) rfl w.heap.size (matC Cd.unitM) rfl rfl 67 (matC fun _ _ => 0) H1.out (mat_info' _) rfl (matC_one _) ?_))
      refine bodyPost_ret (res_mat rfl _ _ w.heap.size Cd.unitM rfl (H1.out.put _)) rfl ⟨rfl, below_setRow H3.out (Nat.le_refl _) _⟩
end Go.Proofs.Yteiddjjakemklab
