/- What the document's Number, Text answer. What the document's reader answers. What the calls of the document's reader answer. -/
import Derived.Test.YtlpibpkbgmcclaaGreatDoorPkReaderX
import Derived.OwnWalk
namespace Go.Proofs.YtlpibpkbgmcclaaGreatDoor
open Go.RowKit
theorem one_at (x b : Nat) (w : World) (h : w.cell? ⟨b, 0, none⟩ = some (.int .u8 (x : Int))) : (convert 57 9 (.slice (some ⟨b, 0, none⟩) 1 1)).run Tryz.prog w = .ok (.string (mkS 1 fun _ => x)) w := by
  refine run_convert_bytes_arg w 57 5 Tryz.underlying57 Tryz.underlying5 b 0 1 1 _ (by simp) (fun i hi => ?_) 9 Tryz.underlying9
  obtain rfl : i = 0 := by omega
  rw [Nat.zero_add, h]
  rfl
theorem after_one {w w1 : World} {x : Nat} (h : Below (w.alloc (.cells #[.int .u8 (x : Int)] 5)).drew.heap.size (w.alloc (.cells #[.int .u8 (x : Int)] 5)).drew w1) : w1.cell? ⟨w.heap.size, 0, none⟩ = some (.int .u8 (x : Int)) :=
  cell_of_block (c := #[.int .u8 (x : Int)]) ((h.block w.heap.size (by show _ < (w.alloc _).heap.size; rw [World.size_alloc]; exact Nat.lt_succ_self _)).trans (heap_alloc_new _ _))
theorem below_one {w w1 : World} {o : Obj} (h : Below (w.alloc o).drew.heap.size (w.alloc o).drew w1) : Below w.heap.size w w1 :=
  ((Below.refl _ _).alloc (Nat.le_refl _) o).drew.trans (h.mono (by show _ ≤ (w.alloc o).heap.size; rw [World.size_alloc]; exact Nat.le_succ _))
theorem one_string (x : Nat) (w : World) : (convert 57 9 (.slice (some ⟨w.heap.size, 0, none⟩) 1 1)).run Tryz.prog (w.alloc (.cells #[.int .u8 (x : Int)] 5)) = .ok (.string (mkS 1 fun _ => x)) (w.alloc (.cells #[.int .u8 (x : Int)] 5)) :=
  one_at x _ _ (cell_of_block (c := #[.int .u8 (x : Int)]) (heap_alloc_new _ _))
set_option maxRecDepth 100000 in
set_option maxHeartbeats 2000000 in
theorem most_any (w : World) : Calls Tryz.prog 78 #[] w fun e w' => e = .returned (.int .i64 72057594037927935) ∧ w = w' := by
  go_enter Tryz.func78, Tryz.ntmps78
  go_wp2_with fail
  go_ret
  exact ⟨rfl, rfl⟩
set_option maxRecDepth 100000 in
set_option maxHeartbeats 2000000 in
theorem refNum_none (n : Int) (w : World) (h : n < 0 ∨ 72057594037927935 < n) :
    Calls Tryz.prog 60 #[.int .i64 n] w fun e w' => e = .returned (.string ByteArray.empty) ∧ Below w.heap.size w w' := by
  rcases h with h | h
  · go_enter Tryz.func60, Tryz.ntmps60
    go_wp2_with fail
    go_ret
    exact ⟨rfl, Below.refl _ _⟩
  · have h0 : decide (n < 0) = false := by simp; omega
    go_enter Tryz.func60, Tryz.ntmps60
    go_wp2_with fail
    refine (most_any w).mono ?_
    rintro e w1 ⟨rfl, rfl⟩
    go_wp2_with fail
    go_ret
    exact ⟨rfl, Below.refl _ _⟩
set_option maxRecDepth 100000 in
set_option maxHeartbeats 2000000 in
theorem refNum_one (n : Nat) (w : World) (hn : n < 128) :
    Calls Tryz.prog 60 #[.int .i64 (n : Int)] w fun e w' => e = .returned (.string (numS n)) ∧ Below w.heap.size w w' := by
  have h0 : decide ((n : Int) < 0) = false := by simp
  have HN := hide (numS_one hn)
  have hcv := one_string n w
  go_enter Tryz.func60, Tryz.ntmps60
  go_wp2_with fail
  refine (most_any w).mono ?_
  rintro e w1 ⟨rfl, rfl⟩
  go_wp2_with fail
  go_ret
  exact ⟨ret_str HN.out.symm, (Below.refl _ _).alloc (Nat.le_refl _) _⟩
set_option maxRecDepth 100000 in
set_option maxHeartbeats 4000000 in
theorem refNum_step (n : Nat) (hn : 128 ≤ n) (hl : n < 72057594037927936) (ih : ∀ w : World, Calls Tryz.prog 60 #[.int .i64 ((n / 128 : Nat) : Int)] w fun e w' => e = .returned (.string (numS (n / 128))) ∧ Below w.heap.size w w') (w : World) :
    Calls Tryz.prog 60 #[.int .i64 (n : Int)] w fun e w' => e = .returned (.string (numS n)) ∧ Below w.heap.size w w' := by
  have h0 : decide ((n : Int) < 0) = false := by simp
  have HN := hide (numS_cons hn)
  have HIH := hide ih
  clear ih
  have hz := numS_size (n / 128)
  have hz8 := nlen_top (n := n / 128) (by omega)
  have hz1 : (mkS 1 fun _ => 128 + n % 128).size = 1 := mkS_size _ _
  have hw1 : IntKind.i64.wrap (128 + (n : Int).tmod 128) = ((128 + n % 128 : Nat) : Int) := by
    rw [Int.tmod_eq_emod_of_nonneg (by omega), IntKind.wrap_i64]; omega
  have hw2 : IntKind.u8.wrap ((128 + n % 128 : Nat) : Int) = ((128 + n % 128 : Nat) : Int) := by rw [IntKind.wrap_u8]; omega
  have hw3 : IntKind.i64.wrap ((n : Int) / 128) = ((n / 128 : Nat) : Int) := by rw [IntKind.wrap_i64]; omega
  have hlt : decide ((n : Int) < 128) = false := by simp; omega
  generalize numS (n / 128) = T at *
  generalize 128 + n % 128 = X at *
  generalize n / 128 = Q at *
  have hcv : (convert 57 9 (.slice (some ⟨w.heap.size, 0, none⟩) 1 1)).run Tryz.prog (w.alloc (.cells #[.int .u8 (X : Int)] 5)).drew = .ok (.string (mkS 1 fun _ => X)) (w.alloc (.cells #[.int .u8 (X : Int)] 5)).drew := one_string X w.drew
  go_enter Tryz.func60, Tryz.ntmps60
  go_wp2_with fail
  refine (most_any w).mono ?_
  rintro e w1 ⟨rfl, rfl⟩
  go_wp2_with fail
  go_region_with (first | (go_at_call 60; refine (HIH.out _).mono ?_; rintro e w1 ⟨rfl, hb1⟩; have HB1 := hide hb1; clear hb1; have hcv1 := one_string X w1; first | (have hcv2 := one_at X w.heap.size w1 (after_one HB1.out)) | skip))
  all_goals
    go_wp2_with fail
    go_ret
    first
    | exact ⟨ret_str HN.out.symm, below_one HB1.out⟩
    | exact ⟨ret_str HN.out.symm, ((Below.refl _ _).drew.trans HB1.out).alloc HB1.out.size _⟩
theorem refNum_nat (n : Nat) (hl : n < 72057594037927936) (w : World) : Calls Tryz.prog 60 #[.int .i64 (n : Int)] w fun e w' => e = .returned (.string (numS n)) ∧ Below w.heap.size w w' := by
  induction n using Nat.strongRecOn generalizing w with
  | _ n ih =>
    by_cases h : n < 128
    · exact refNum_one n w h
    · exact refNum_step n (by omega) hl (fun w => ih (n / 128) (by omega) (by omega) w) w
theorem refNum_any (n : Int) (w : World) :
    Calls Tryz.prog 60 #[.int .i64 n] w fun e w' => e = .returned (.string (numI n)) ∧ Below w.heap.size w w' := by
  unfold numI
  by_cases h : n < 0 ∨ 72057594037927935 < n
  · rw [if_pos h]; exact refNum_none n w h
  · rw [if_neg h]
    obtain ⟨k, rfl⟩ : ∃ k : Nat, n = (k : Int) := ⟨n.toNat, by omega⟩
    exact refNum_nat k (by omega) w
set_option maxRecDepth 100000 in
set_option maxHeartbeats 2000000 in
theorem refText_any (s : ByteArray) (w : World) (hs : s.size ≤ 1000000) : Calls Tryz.prog 47 #[.string s] w fun e w' => e = .returned (.string (textS s)) ∧ Below w.heap.size w w' := by
  have HT : Hid (textS s = numS s.size ++ s) := rfl
  have hz := numS_size s.size
  have hz8 := nlen_top (n := s.size) (by omega)
  go_enter Tryz.func47, Tryz.ntmps47
  go_wp2_with fail
  refine (refNum_nat s.size (by omega) w).mono ?_
  rintro e w1 ⟨rfl, hb1⟩
  have HB1 := hide hb1
  clear hb1
  generalize numS s.size = N at *
  go_wp2_with fail
  go_ret
  exact ⟨ret_str HT.out.symm, HB1.out⟩
end Go.Proofs.YtlpibpkbgmcclaaGreatDoor
namespace Go.Proofs.YtlpibpkbgmcclaaGreatDoor
open Go.RowKit
/-- memory is as it was -/
structure Sm (w w' : World) : Prop where
  os : w'.os = w.os
  tape : w'.tape = w.tape
  output : w'.output = w.output
  heap : w'.heap = w.heap
theorem Sm.refl (w : World) : Sm w w := ⟨rfl, rfl, rfl, rfl⟩
theorem Sm.drew (w : World) : Sm w w.drew := ⟨rfl, rfl, rfl, rfl⟩
theorem Sm.but {w w' : World} (h : Sm w w') (b : Nat) : But b w w' := ⟨h.os, h.tape, h.output, by rw [h.heap], fun k _ => by rw [h.heap]⟩
theorem RdAt.sm {w w' : World} {b : Nat} {t : TypeId} {s : ByteArray} {e : Nat} (h : RdAt w b t s e) (k : Sm w w') : RdAt w' b t s e := by unfold RdAt; rw [k.heap]; exact h
theorem ret_three {a b : Int} {s t : ByteArray} {c d : Int} (h : a = b) (k : s = t) (l : c = d) : Ending.returned (.tuple #[.int .i64 a, .string s, .int .i64 c]) = .returned (.tuple #[.int .i64 b, .string t, .int .i64 d]) := by rw [h, k, l]
theorem rN_bad {s : ByteArray} {e : Nat} (h : rE s = e + 1) : (0 : Int) = ((rN s : Nat) : Int) := by unfold rN; rw [if_neg (by omega)]; rfl
theorem rR_bad {s : ByteArray} {e : Nat} (h : rE s = e + 1) : ByteArray.empty = rR s := by unfold rR; rw [if_neg (by omega)]
theorem add_step {x c k : Nat} (hx : x < 128 ^ k) (hk : k < 8) : wrap64 ((x : Int) + wrap64 ((c : Int) % 128 * 2 ^ (7 * k))) = ((x + c % 128 * 128 ^ k : Nat) : Int) := by
  have h1 := grp_lt (c := c) hk
  have h2 : (128 : Nat) ^ k ≤ 128 ^ 7 := Nat.pow_le_pow_right (by decide) (by omega)
  rw [grp_int hk]; unfold wrap64; omega
end Go.Proofs.YtlpibpkbgmcclaaGreatDoor
namespace Go.Proofs.YtlpibpkbgmcclaaGreatDoor
open Go.RowKit
end Go.Proofs.YtlpibpkbgmcclaaGreatDoor
