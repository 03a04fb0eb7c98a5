/- What the document's Number, Text answer. What the document's reader answers. What the calls of the document's reader answer. -/
import Derived.Test.YtlpibpkbgmcclaaDoorPkReaderX
import Derived.OwnWalk
namespace Go.Proofs.YtlpibpkbgmcclaaDoor
open Go.RowKit
theorem one_at (x b : Nat) (w : World) (h : w.cell? ⟨b, 0, none⟩ = some (.int .u8 (x : Int))) : (convert 48 9 (.slice (some ⟨b, 0, none⟩) 1 1)).run Tryd.prog w = .ok (.string (mkS 1 fun _ => x)) w := by
  refine run_convert_bytes_arg w 48 5 Tryd.underlying48 Tryd.underlying5 b 0 1 1 _ (by simp) (fun i hi => ?_) 9 Tryd.underlying9
  obtain rfl : i = 0 := by omega
  rw [Nat.zero_add, h]
  rfl
theorem after_one {w w1 : World} {x : Nat} (h : Below (w.alloc (.cells #[.int .u8 (x : Int)] 5)).drew.heap.size (w.alloc (.cells #[.int .u8 (x : Int)] 5)).drew w1) : w1.cell? ⟨w.heap.size, 0, none⟩ = some (.int .u8 (x : Int)) :=
  cell_of_block (c := #[.int .u8 (x : Int)]) ((h.block w.heap.size (by show _ < (w.alloc _).heap.size; rw [World.size_alloc]; exact Nat.lt_succ_self _)).trans (heap_alloc_new _ _))
theorem below_one {w w1 : World} {o : Obj} (h : Below (w.alloc o).drew.heap.size (w.alloc o).drew w1) : Below w.heap.size w w1 :=
  ((Below.refl _ _).alloc (Nat.le_refl _) o).drew.trans (h.mono (by show _ ≤ (w.alloc o).heap.size; rw [World.size_alloc]; exact Nat.le_succ _))
theorem one_string (x : Nat) (w : World) : (convert 48 9 (.slice (some ⟨w.heap.size, 0, none⟩) 1 1)).run Tryd.prog (w.alloc (.cells #[.int .u8 (x : Int)] 5)) = .ok (.string (mkS 1 fun _ => x)) (w.alloc (.cells #[.int .u8 (x : Int)] 5)) :=
  one_at x _ _ (cell_of_block (c := #[.int .u8 (x : Int)]) (heap_alloc_new _ _))
end Go.Proofs.YtlpibpkbgmcclaaDoor
namespace Go.Proofs.YtlpibpkbgmcclaaDoor
open Go.RowKit
/-- memory is as it was -/
structure Sm (w w' : World) : Prop where
  os : w'.os = w.os
  tape : w'.tape = w.tape
  output : w'.output = w.output
  heap : w'.heap = w.heap
theorem Sm.refl (w : World) : Sm w w := ⟨rfl, rfl, rfl, rfl⟩
theorem Sm.drew (w : World) : Sm w w.drew := ⟨rfl, rfl, rfl, rfl⟩
theorem Sm.but {w w' : World} (h : Sm w w') (b : Nat) : But b w w' := ⟨h.os, h.tape, h.output, by rw [h.heap], fun k _ => by rw [h.heap]⟩
theorem RdAt.sm {w w' : World} {b : Nat} {t : TypeId} {s : ByteArray} {e : Nat} (h : RdAt w b t s e) (k : Sm w w') : RdAt w' b t s e := by unfold RdAt; rw [k.heap]; exact h
theorem ret_three {a b : Int} {s t : ByteArray} {c d : Int} (h : a = b) (k : s = t) (l : c = d) : Ending.returned (.tuple #[.int .i64 a, .string s, .int .i64 c]) = .returned (.tuple #[.int .i64 b, .string t, .int .i64 d]) := by rw [h, k, l]
theorem rN_bad {s : ByteArray} {e : Nat} (h : rE s = e + 1) : (0 : Int) = ((rN s : Nat) : Int) := by unfold rN; rw [if_neg (by omega)]; rfl
theorem rR_bad {s : ByteArray} {e : Nat} (h : rE s = e + 1) : ByteArray.empty = rR s := by unfold rR; rw [if_neg (by omega)]
theorem add_step {x c k : Nat} (hx : x < 128 ^ k) (hk : k < 8) : wrap64 ((x : Int) + wrap64 ((c : Int) % 128 * 2 ^ (7 * k))) = ((x + c % 128 * 128 ^ k : Nat) : Int) := by
  have h1 := grp_lt (c := c) hk
  have h2 : (128 : Nat) ^ k ≤ 128 ^ 7 := Nat.pow_le_pow_right (by decide) (by omega)
  rw [grp_int hk]; unfold wrap64; omega
end Go.Proofs.YtlpibpkbgmcclaaDoor
namespace Go.Proofs.YtlpibpkbgmcclaaDoor
open Go.RowKit
end Go.Proofs.YtlpibpkbgmcclaaDoor
