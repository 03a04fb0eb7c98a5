/- The law FieldEach returns true at every input, and writes nothing that was there. -/
import Derived.Test.YteiddjjakemklaaGfLive
import Derived.OpenShut
namespace Go.Proofs.Yteiddjjakemklaa
open Go.RowKit
def seenZ : Array Value := Array.replicate 256 (.bool false)
def seenK (n : Int) : Nat → Array Value
  | 0 => seenZ
  | i + 1 => (seenK n i).setIfInBounds (Gf.pwI (n + i)) (.bool true)
theorem seenK_size (n : Int) (i : Nat) : (seenK n i).size = 256 := by
  induction i with
  | zero => simp [seenK, seenZ]
  | succ i ih => simp [seenK, ih]
theorem seenK_no (n : Int) : ∀ (i x : Nat), x < 256 → (∀ j, j < i → Gf.pwI (n + j) ≠ x) → (seenK n i)[x]? = some (.bool false) := by
  intro i
  induction i with
  | zero => intro x hx _; simp [seenK, seenZ, Array.getElem?_replicate]; omega
  | succ i ih =>
    intro x hx h
    simp only [seenK, Array.getElem?_setIfInBounds]
    rw [if_neg (h i (by omega))]
    exact ih x hx fun j hj => h j (by omega)
theorem seenK_next (n : Int) {i : Nat} (hi : i < 255) : (seenK n i)[Gf.pwI (n + i)]? = some (.bool false) := by
  refine seenK_no n i _ (Gf.pwI_lt _) fun j hj e => ?_
  have := Gf.pwI_inj e
  omega
def EachRel (w1 wr : World) (n : Int) (i : Nat) : Prop := wr.heap[w1.heap.size]? = some (.cells (seenK n i) 4 (0, 0)) ∧ Below w1.heap.size w1 wr
theorem eachRel_step {w1 wr : World} {n : Int} {i : Nat} (h : EachRel w1 wr n i) : EachRel w1 (wr.setCell ⟨w1.heap.size, Gf.pwI (n + i), none⟩ (.bool true)) n (i + 1) := by
  obtain ⟨h1, h2⟩ := h
  exact ⟨block_setCell _ h1, h2.setCell (Nat.le_refl _) _⟩
theorem bool_info : (Try.prog.info? 4).map (fun i => (i.zero, i.size, i.bytes)) = some (some (.bool false), 1, 1) := by kernel_rfl
theorem made_seen : madeCells (Value.bool false).cells (Int.toNat 256 * 1) = seenZ := by kernel_rfl
theorem make_seen (w : World) : (Instr.makeSlice 36 (.int .i64 256) (.int .i64 256)).run Try.prog w = .ok (.slice (some ⟨w.heap.size, 0, none⟩) 256 256) (w.alloc (.cells seenZ 4)) := by
  obtain ⟨i0, hi, hz0, hz1, hz2⟩ := info_parts bool_info
  have h := run_make (P := Try.prog) w 36 4 i0 (.bool false) Try.underlying36 hi hz0 .i64 .i64 256 256 (by omega) (by omega) (by rw [hz2]; omega) (by omega)
  rw [hz1] at h
  rw [h, made_seen]
  rfl
set_option maxRecDepth 100000 in
set_option maxHeartbeats 1000000 in
theorem walkFieldEach (n : Int) (w : World) (_ : (Lit.int .i64 n).wf = true) :
    Calls Try.prog 9 #[.int .i64 n] w fun e w' => e = .returned (.bool true) ∧ Below w.heap.size w w' := by
  by_cases h1 : n < -1152921504606846976
  · go_enter Try.func9, Try.ntmps9
    go_wp2_with fail
    refine (live_any _).mono ?_
    rintro e w2 ⟨rfl, hb2⟩
    go_wp2_with fail
    go_ret
    exact ⟨rfl, hb2⟩
  by_cases h2 : 1152921504606846976 < n
  · have h1' : -1152921504606846976 ≤ n := by omega
    clear h1
    go_enter Try.func9, Try.ntmps9
    go_wp2_with fail
    refine (live_any _).mono ?_
    rintro e w2 ⟨rfl, hb2⟩
    go_wp2_with fail
    go_ret
    exact ⟨rfl, hb2⟩
  have h1' : -1152921504606846976 ≤ n := by omega
  have h2' : n ≤ 1152921504606846976 := by omega
  clear h1 h2
  go_enter Try.func9, Try.ntmps9
  go_wp2_with fail
  refine (new_any _).mono ?_
  rintro e w1 ⟨rfl, ht, hbel⟩
  have hmk := make_seen
  go_wp2_with fail
  clear hmk
  go_loopw [5] (fun i wr => ∃ k : Nat, k ≤ 255 ∧ i = .int .i64 k ∧ EachRel w1 wr n k) (fun i _ => 255 - (intOf i).toNat)
  case atStart => exact ⟨0, Nat.zero_le _, rfl, heap_alloc_new _ _, (Below.refl _ _).alloc (Nat.le_refl _) _⟩
  case round =>
    obtain ⟨k, hk, rfl, hrel⟩ := hrel
    have htr : TabAt wr w.heap.size := ht.below hrel.2 ht.lt
    have HT := hide ht
    clear ht
    by_cases hlt : k < 255
    · have hc : wr.cell? ⟨w1.heap.size, Gf.pwI (n + k), none⟩ = some (.bool false) := (cell_of_block hrel.1).trans (seenK_next n hlt)
      have hf : wr.frozen? ⟨w1.heap.size, Gf.pwI (n + k), none⟩ = false := free_of_block hrel.1
      have hx := Gf.pwI_lt (n + k)
      have hx0 := Gf.pwI_pos (n + k)
      have hne : ((Gf.pwI (n + k) : Int) == 0) = false := by simp; omega
      have H := hide hrel
      have HTR := hide htr
      clear hrel htr
      go_wp2_with fail
      refine (power_any _ _ _ HTR.out).mono ?_
      rintro e w2 ⟨rfl, rfl⟩
      go_wp2_with fail
      go_roundw
      case rel => exact ⟨k + 1, by omega, by go_num, eachRel_step H.out⟩
      case measure => simp [intOf]; omega
    · have H := hide hrel
      clear hrel
      go_wp2_with fail
      refine (power_any _ _ _ htr).mono ?_
      rintro e w2 ⟨he, rfl⟩
      rw [Gf.pwI_congr (show (n + 255) % 255 = n % 255 by omega)] at he; subst he
      go_wp2_with fail
      refine (power_any _ _ _ htr).mono ?_
      rintro e w2 ⟨rfl, rfl⟩
      go_wp2_with fail
      refine (live_any _).mono ?_
      rintro e w2 ⟨rfl, hb2⟩
      go_wp2_with fail
      go_ret
      exact ⟨rfl, (hbel.trans (H.out.2.mono hbel.size)).trans (hb2.mono (Nat.le_trans hbel.size H.out.2.size))⟩
end Go.Proofs.Yteiddjjakemklaa
