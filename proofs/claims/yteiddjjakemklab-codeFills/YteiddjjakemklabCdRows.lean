/- What code.scaled and code.added answer. -/
import Derived.Test.YteiddjjakemklabCdFactor
import Derived.Laws.BitsAllLaws
import Derived.RegionTactic
import Derived.ChangeAlike
import Derived.BigRegion
namespace Go.Proofs.Yteiddjjakemklab
open Go.RowKit
def ScRel (w wr : World) (r : Nat → Nat) (x k : Nat) : Prop := RowAt wr w.heap.size (fun j => if j < k then Gf.mul (r j) x else r j) ∧ RowAt wr (w.heap.size + 1) (fun _ => 0) ∧ Below w.heap.size w wr
theorem step_row {f g : Nat → Nat} (k j : Nat) : (if j = k then f k else if j < k then f j else g j) = if j < k + 1 then f j else g j := by
  by_cases e : j = k
  · subst e; rw [if_pos rfl, if_pos (by omega)]
  · rw [if_neg e]
    by_cases c : j < k
    · rw [if_pos c, if_pos (by omega)]
    · rw [if_neg c, if_neg (by omega)]
theorem below_draws {B : Nat} {a w : World} (h : Below B a w) (n : Nat) : Below B a (w.drewN n) := ⟨h.os, h.tape, h.output, h.size, h.block⟩
theorem scRel_step {w wr : World} {r : Nat → Nat} {x k : Nat} (hk : k < 6) (h : ScRel w wr r x k) (n : Nat) :
    ScRel w ((wr.drewN n).setCell ⟨w.heap.size, k, none⟩ (.int .u8 (Gf.mul (r k) x : Nat))) r x (k + 1) := by
  obtain ⟨h1, h2, h3⟩ := h
  exact ⟨((h1.drewN n).set hk _).congr fun j _ => step_row (f := fun j => Gf.mul (r j) x) k j, (h2.drewN n).other (by simp) _, (below_draws h3 n).setCell (by simp) _⟩
set_option maxRecDepth 100000 in
set_option maxHeartbeats 400000 in
theorem scaled_any (b x : Nat) (r : Nat → Nat) (w : World) (ht : TabAt w b) (hx : x < 256) (hr : ∀ j, j < 6 → r j < 256) :
    Calls Try.prog 37 #[.pointer (some ⟨b, 0, none⟩), .agg (rowC r), .int .u8 (x : Int)] w fun e w' => e = .returned (.agg (rowC fun j => Gf.mul (r j) x)) ∧ Below w.heap.size w w' := by
  have HR := hide hr
  clear hr
  go_enter Try.func37, Try.ntmps37
  go_wp2_with fail
  go_loopw [8] (fun y wr => ∃ k : Nat, k ≤ 6 ∧ y = .int .i64 k ∧ ScRel w wr r x k) (fun y _ => 6 - (intOf y).toNat)
  case atStart =>
    have h1 := heap_alloc_new w (.cells (rowC r) 52)
    refine ⟨0, by omega, rfl, ?_, ?_, ((Below.refl _ _).alloc (Nat.le_refl _) _).alloc (by simp) _⟩
    · exact RowAt.alloc (r := fun j => if j < 0 then Gf.mul (r j) x else r j) h1 _
    · have h2 := heap_alloc_new (w.alloc (.cells (rowC r) 52)) (.cells (rowC fun _ => 0) 52)
      rw [World.size_alloc] at h2
      exact h2
  case round =>
    obtain ⟨k, hk, rfl, hrel⟩ := hrel
    have htr : TabAt wr b := ht.below hrel.2.2 ht.lt
    by_cases hlt : k < 6
    · have hc : wr.cell? ⟨w.heap.size, k, none⟩ = some (.int .u8 (r k : Nat)) := by have := hrel.1.cell hlt; rwa [if_neg (by omega)] at this
      have hf := hrel.1.free k
      have H := hide hrel
      have HT := hide htr
      clear hrel htr ht
      go_wp2_with fail
      refine (times_any b (r k) x _ HT.out (HR.out k hlt) hx).mono ?_
      rintro e w' ⟨rfl, n, rfl⟩
      go_wp2_with fail
      go_roundw
      case rel => exact ⟨k + 1, by omega, by go_num, scRel_step hlt H.out n⟩
      case measure => simp [intOf]; omega
    · obtain rfl : k = 6 := by omega
      obtain ⟨c0, c1, c2, c3, c4, c5⟩ := hrel.2.1.cells
      have f0 := hrel.2.1.free
      obtain ⟨d0, d1, d2, d3, d4, d5⟩ := hrel.1.cells
      have H := hide hrel
      clear hrel
      go_wp2_with fail
      clear c0 c1 c2 c3 c4 c5 d0 d1 d2 d3 d4 d5 f0
      refine bodyPost_ret (res_row rfl _ _ (w.heap.size + 1) (fun j => Gf.mul (r j) x) rfl (row_put H.out.2.1 (fun j => Gf.mul (r j) x))) rfl ⟨rfl, ?_⟩
      exact row_put_below H.out.2.2 (by omega) (fun j => Gf.mul (r j) x)
def AdRel (w wr : World) (r s : Nat → Nat) (k : Nat) : Prop :=
  RowAt wr w.heap.size (fun j => if j < k then r j ^^^ s j else r j) ∧ RowAt wr (w.heap.size + 1) s ∧ RowAt wr (w.heap.size + 2) (fun _ => 0) ∧ Below w.heap.size w wr
theorem adRel_step {w wr : World} {r s : Nat → Nat} {k : Nat} (hk : k < 6) (h : AdRel w wr r s k) (hr : r k < 256) (hs : s k < 256) :
    AdRel w ((wr.setCell ⟨w.heap.size, k, none⟩ (.int .u8 (bits .xor .u8 (r k : Nat) (s k : Nat)))).drew) r s (k + 1) := by
  obtain ⟨h1, h2, h3, h4⟩ := h
  rw [u8_xor_nat _ _ hr hs]
  exact ⟨((h1.drewN 1).set hk _).congr fun j _ => step_row (f := fun j => r j ^^^ s j) k j, (h2.drewN 1).other (by simp) _, (h3.drewN 1).other (by simp) _, (below_draws h4 1).setCell (by simp) _⟩
set_option maxRecDepth 100000 in
set_option maxHeartbeats 400000 in
theorem added_any (r s : Nat → Nat) (w : World) (hr : ∀ j, j < 6 → r j < 256) (hs : ∀ j, j < 6 → s j < 256) :
    Calls Try.prog 39 #[.agg (rowC r), .agg (rowC s)] w fun e w' => e = .returned (.agg (rowC fun j => r j ^^^ s j)) ∧ Below w.heap.size w w' := by
  have HR := hide hr
  have HS := hide hs
  clear hr hs
  go_enter Try.func39, Try.ntmps39
  go_wp2_with fail
  go_loopw [6] (fun y wr => ∃ k : Nat, k ≤ 6 ∧ y = .int .i64 k ∧ AdRel w wr r s k) (fun y _ => 6 - (intOf y).toNat)
  case atStart =>
    have h1 := heap_alloc_new w (.cells (rowC r) 52)
    have h2 := heap_alloc_new (w.alloc (.cells (rowC r) 52)) (.cells (rowC s) 52)
    rw [World.size_alloc] at h2
    have h3 := heap_alloc_new ((w.alloc (.cells (rowC r) 52)).alloc (.cells (rowC s) 52)) (.cells (rowC fun _ => 0) 52)
    rw [World.size_alloc, World.size_alloc] at h3
    refine ⟨0, by omega, rfl, ?_, ?_, h3, (((Below.refl _ _).alloc (Nat.le_refl _) _).alloc (by simp) _).alloc (by simp; omega) _⟩
    · exact (RowAt.alloc (r := fun j => if j < 0 then r j ^^^ s j else r j) h1 _).alloc _
    · exact RowAt.alloc (r := s) h2 _
  case round =>
    obtain ⟨k, hk, rfl, hrel⟩ := hrel
    by_cases hlt : k < 6
    · have hc : wr.cell? ⟨w.heap.size, k, none⟩ = some (.int .u8 (r k : Nat)) := by have := hrel.1.cell hlt; rwa [if_neg (by omega)] at this
      have hf := hrel.1.free k
      have hc2 := hrel.2.1.cell hlt
      have H := hide hrel
      clear hrel
      go_wp2_with fail
      go_region
      all_goals go_wp2_with fail
      go_roundw
      case rel => exact ⟨k + 1, by omega, by go_num, adRel_step hlt H.out (HR.out k hlt) (HS.out k hlt)⟩
      case measure => simp [intOf]; omega
    · obtain rfl : k = 6 := by omega
      obtain ⟨c0, c1, c2, c3, c4, c5⟩ := hrel.2.2.1.cells
      have f0 := hrel.2.2.1.free
      obtain ⟨d0, d1, d2, d3, d4, d5⟩ := hrel.1.cells
      have H := hide hrel
      clear hrel
      go_wp2_with fail
      clear c0 c1 c2 c3 c4 c5 d0 d1 d2 d3 d4 d5 f0
      refine bodyPost_ret (res_row rfl _ _ (w.heap.size + 2) (fun j => r j ^^^ s j) rfl (row_put H.out.2.2.1 (fun j => r j ^^^ s j))) rfl ⟨rfl, ?_⟩
      exact row_put_below H.out.2.2.2 (by omega) (fun j => r j ^^^ s j)
end Go.Proofs.Yteiddjjakemklab
