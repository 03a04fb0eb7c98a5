/- What field.double and field.New do: New lays one new block, the table. -/
import Derived.Test.YteiddjjakemklabGfTab
namespace Go.Proofs.Yteiddjjakemklab
open Go.RowKit
theorem i64_xor_nat (a b : Nat) (ha : a < 4611686018427387904) (hb : b < 4611686018427387904) : bits .xor .i64 (a : Int) (b : Int) = ((a ^^^ b : Nat) : Int) := by
  have hx : a ^^^ b < 2 ^ 62 := Nat.xor_lt_two_pow (by omega) (by omega)
  have h1 : (BitVec.ofInt 64 (a : Int)).toNat = a := by
    rw [BitVec.ofInt_natCast, BitVec.toNat_ofNat]; exact Nat.mod_eq_of_lt (by omega)
  have h2 : (BitVec.ofInt 64 (b : Int)).toNat = b := by
    rw [BitVec.ofInt_natCast, BitVec.toNat_ofNat]; exact Nat.mod_eq_of_lt (by omega)
  show IntKind.i64.wrap ((BitVec.ofInt 64 (a : Int) ^^^ BitVec.ofInt 64 (b : Int)).toNat : Int) = _
  rw [BitVec.toNat_xor, h1, h2, IntKind.wrap_i64]
  omega
theorem ret_int {k : IntKind} {a b : Int} (h : a = b) : Ending.returned (.int k a) = .returned (.int k b) := by rw [h]
theorem dbl_big {x : Nat} (h : x < 256) (c : 255 < (x : Int) * 2) : bits .xor .i64 ((x : Int) * 2) 285 = ((Gf.dbl x : Nat) : Int) := by
  have := i64_xor_nat (x * 2) 285 (by omega) (by omega)
  rw [show ((x : Int) * 2) = ((x * 2 : Nat) : Int) from by omega, show (285 : Int) = ((285 : Nat) : Int) from rfl, this]
  unfold Gf.dbl; rw [if_pos (by omega)]
theorem dbl_small {x : Nat} (c : (x : Int) * 2 ≤ 255) : (x : Int) * 2 = ((Gf.dbl x : Nat) : Int) := by
  unfold Gf.dbl; rw [if_neg (by omega)]; omega
set_option maxHeartbeats 400000 in
theorem double_any (x : Nat) (w : World) (h1 : x < 256) :
    Calls Try.prog 20 #[.int .i64 (x : Int)] w fun e w' => e = .returned (.int .i64 (Gf.dbl x : Nat)) ∧ w = w' := by
  go_enter Try.func20, Try.ntmps20
  go_wp2
  · go_ret; exact ⟨ret_int (dbl_big h1 (by assumption)), rfl⟩
  · go_ret; exact ⟨ret_int (dbl_small (by assumption)), rfl⟩
theorem zero_info : (Try.prog.info? 48).map (fun i => i.zero) = some (some (.agg tabZero)) := by kernel_rfl
theorem zero_table (w : World) : Sem.run Try.prog (zeroValue 48) w = .ok (.agg tabZero) w := by
  have h := zero_info
  cases hi : Try.prog.info? 48 with
  | none => rw [hi] at h; cases h
  | some i =>
    rw [hi] at h
    have hz : i.zero = some (.agg tabZero) := by simpa using h
    simp [zeroValue, typeInfo, hi, hz]
theorem xk_lt (k : Nat) : xk k < 256 := by
  unfold xk; split
  · exact Gf.pw_lt_any _
  · decide
theorem xk_succ {k : Nat} (h : k < 255) : Gf.dbl (xk k) = xk (k + 1) := by
  unfold xk; rw [if_pos h]
  by_cases e : k = 254
  · subst e; rw [if_neg (by omega)]; exact Gf.dbl_last
  · rw [if_pos (by omega)]; exact Gf.dbl_pw (by omega)
def NewRel (w : World) (wr : World) (k : Nat) : Prop := wr.heap[w.heap.size]? = some (.cells (tabK k) 48 (0, 0)) ∧ Below w.heap.size w wr
theorem newRel_step {w wr : World} {k : Nat} (hk : k < 255) (h : NewRel w wr k) :
    NewRel w ((wr.setCell ⟨w.heap.size, k, none⟩ (.int .u8 (xk k : Nat))).setCell ⟨w.heap.size, 255 + xk k, none⟩ (.int .u8 (k : Nat))) (k + 1) := by
  obtain ⟨h1, h2⟩ := h
  refine ⟨?_, (h2.setCell (Nat.le_refl _) _).setCell (Nat.le_refl _) _⟩
  rw [block_setCell _ (block_setCell _ h1)]
  have : xk k = Gf.pw k := by unfold xk; rw [if_pos hk]
  rw [this]; rfl
set_option maxRecDepth 100000 in
set_option maxHeartbeats 400000 in
theorem new_any (w : World) :
    Calls Try.prog 7 #[] w fun e w' => e = .returned (.pointer (some ⟨w.heap.size, 0, none⟩)) ∧ TabAt w' w.heap.size ∧ Below w.heap.size w w' := by
  have hz := zero_table
  go_enter Try.func7, Try.ntmps7
  go_wp2
  go_loopw [2, 5] (fun x i wr => ∃ k : Nat, k ≤ 255 ∧ i = .int .i64 k ∧ x = .int .i64 (xk k : Nat) ∧ NewRel w wr k) (fun _ i _ => 255 - (intOf i).toNat)
  case atStart => exact ⟨0, Nat.zero_le _, rfl, rfl, heap_alloc_new _ _, (Below.refl _ _).alloc (Nat.le_refl _) _⟩
  case round =>
    obtain ⟨k, hk, rfl, rfl, hrel⟩ := hrel
    clear hz
    by_cases hlt : k < 255
    · have hx := xk_lt k
      have hb := hrel.1
      have hc1 : wr.cell? ⟨w.heap.size, k, none⟩ = some (.int .u8 0) := by
        rw [cell_of_block hb, tabK_low k (by omega) k hlt]; simp
      have hf1 : ∀ i, wr.frozen? ⟨w.heap.size, i, none⟩ = false := fun i => free_of_block hb
      obtain ⟨v2, hc2⟩ : ∃ v, wr.cell? ⟨w.heap.size, 255 + xk k, none⟩ = some v := ⟨_, (cell_of_block hb).trans (tabK_high k (by omega) _ hx)⟩
      clear hb
      have H := hide hrel
      clear hrel
      go_wp2_with fail
      refine (double_any _ _ hx).mono ?_
      rintro e w1 ⟨rfl, rfl⟩
      go_wp2_with fail
      go_roundw
      case rel => exact ⟨k + 1, by omega, by go_num, by rw [xk_succ hlt], newRel_step hlt H.out⟩
      case measure => simp [intOf]; omega
    · go_wp2_with fail
      go_ret
      have : k = 255 := by omega
      subst this
      exact ⟨rfl, hrel⟩
end Go.Proofs.Yteiddjjakemklab
