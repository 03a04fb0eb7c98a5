/- What the document's reader answers. -/
import Derived.Test.YtlpibpkbgmcclaaDoorPkRefNum
import Derived.OwnWalk
namespace Go.Proofs.YtlpibpkbgmcclaaDoor
open Go.RowKit
/-- memory is as it was -/
structure Sm (w w' : World) : Prop where
  os : w'.os = w.os
  tape : w'.tape = w.tape
  output : w'.output = w.output
  heap : w'.heap = w.heap
theorem Sm.refl (w : World) : Sm w w := ⟨rfl, rfl, rfl, rfl⟩
theorem Sm.drew (w : World) : Sm w w.drew := ⟨rfl, rfl, rfl, rfl⟩
theorem Sm.but {w w' : World} (h : Sm w w') (b : Nat) : But b w w' := ⟨h.os, h.tape, h.output, by rw [h.heap], fun k _ => by rw [h.heap]⟩
theorem RdAt.sm {w w' : World} {b : Nat} {t : TypeId} {s : ByteArray} {e : Nat} (h : RdAt w b t s e) (k : Sm w w') : RdAt w' b t s e := by unfold RdAt; rw [k.heap]; exact h
theorem ret_three {a b : Int} {s t : ByteArray} {c d : Int} (h : a = b) (k : s = t) (l : c = d) : Ending.returned (.tuple #[.int .i64 a, .string s, .int .i64 c]) = .returned (.tuple #[.int .i64 b, .string t, .int .i64 d]) := by rw [h, k, l]
theorem rN_bad {s : ByteArray} {e : Nat} (h : rE s = e + 1) : (0 : Int) = ((rN s : Nat) : Int) := by unfold rN; rw [if_neg (by omega)]; rfl
theorem rR_bad {s : ByteArray} {e : Nat} (h : rE s = e + 1) : ByteArray.empty = rR s := by unfold rR; rw [if_neg (by omega)]
theorem add_step {x c k : Nat} (hx : x < 128 ^ k) (hk : k < 8) : wrap64 ((x : Int) + wrap64 ((c : Int) % 128 * 2 ^ (7 * k))) = ((x + c % 128 * 128 ^ k : Nat) : Int) := by
  have h1 := grp_lt (c := c) hk
  have h2 : (128 : Nat) ^ k ≤ 128 ^ 7 := Nat.pow_le_pow_right (by decide) (by omega)
  rw [grp_int hk]; unfold wrap64; omega
end Go.Proofs.YtlpibpkbgmcclaaDoor
