/- A reader in memory; what its parts answer. -/
import Derived.Test.YtlpibpkbgmcclaaDoorPkNum
namespace Go.Proofs.YtlpibpkbgmcclaaDoor
open Go.RowKit
/-- but for one block the world is as it was -/
structure But (b : Nat) (w w' : World) : Prop where
  os : w'.os = w.os
  tape : w'.tape = w.tape
  output : w'.output = w.output
  size : w'.heap.size = w.heap.size
  block : ∀ k, k ≠ b → w'.heap[k]? = w.heap[k]?
theorem But.refl (b : Nat) (w : World) : But b w w := ⟨rfl, rfl, rfl, rfl, fun _ _ => rfl⟩
theorem But.trans {b : Nat} {u v w : World} (h : But b u v) (k : But b v w) : But b u w := ⟨k.os.trans h.os, k.tape.trans h.tape, k.output.trans h.output, k.size.trans h.size, fun i hi => (k.block i hi).trans (h.block i hi)⟩
theorem But.set {b o : Nat} {a w : World} (h : But b a w) (u : Value) : But b a (w.setCell ⟨b, o, none⟩ u) :=
  h.trans ⟨rfl, rfl, rfl, by simp [World.setCell], fun _ hk => Below.heap_setCell _ _ _ _ hk⟩
theorem But.below {b B : Nat} {a w : World} (h : But b a w) (hB : B ≤ b) : Below B a w := ⟨h.os, h.tape, h.output, by rw [h.size]; exact Nat.le_refl _, fun k hk => h.block k (by omega)⟩
/-- a reader of the type t in block b: what is left, and the error -/
def RdAt (w : World) (b : Nat) (t : TypeId) (s : ByteArray) (e : Nat) : Prop := w.heap[b]? = some (.cells #[.string s, .int .i64 (e : Int)] t (0, 0))
theorem RdAt.left {w : World} {b : Nat} {t : TypeId} {s : ByteArray} {e : Nat} (h : RdAt w b t s e) : w.cell? ⟨b, 0, none⟩ = some (.string s) := cell_of_block h
theorem RdAt.err {w : World} {b : Nat} {t : TypeId} {s : ByteArray} {e : Nat} (h : RdAt w b t s e) : w.cell? ⟨b, 1, none⟩ = some (.int .i64 (e : Int)) := cell_of_block h
theorem RdAt.free {w : World} {b : Nat} {t : TypeId} {s : ByteArray} {e : Nat} (h : RdAt w b t s e) (p : Nat) : w.frozen? ⟨b, p, none⟩ = false := free_of_block h
theorem RdAt.setLeft {w : World} {b : Nat} {t : TypeId} {s : ByteArray} {e : Nat} (h : RdAt w b t s e) (s' : ByteArray) : RdAt (w.setCell ⟨b, 0, none⟩ (.string s')) b t s' e := block_setCell _ h
theorem RdAt.setErr {w : World} {b : Nat} {t : TypeId} {s : ByteArray} {e : Nat} (h : RdAt w b t s e) (e' : Nat) : RdAt (w.setCell ⟨b, 1, none⟩ (.int .i64 (e' : Int))) b t s e' := block_setCell _ h
theorem RdAt.but {w w' : World} {b c : Nat} {t : TypeId} {s : ByteArray} {e : Nat} (h : RdAt w b t s e) (hb : But c w w') (hne : b ≠ c) : RdAt w' b t s e := (hb.block b hne).trans h
theorem RdAt.below {w w' : World} {b B : Nat} {t : TypeId} {s : ByteArray} {e : Nat} (h : RdAt w b t s e) (hb : Below B w w') (hB : b < B) : RdAt w' b t s e := (hb.block b hB).trans h
theorem RdAt.lt {w : World} {b : Nat} {t : TypeId} {s : ByteArray} {e : Nat} (h : RdAt w b t s e) : b < w.heap.size := lt_of_block h
theorem sz_next {s : ByteArray} {k : Nat} (hk : k ≤ stop (bt s)) (h8 : k < 8) (h : 128 ≤ bt s k) : k + 1 ≤ stop (bt s) := by
  by_cases c : k = stop (bt s)
  · have := stop_end (f := bt s) (by omega); rw [← c] at this; omega
  · omega
theorem sz_last {s : ByteArray} {k : Nat} (hk : k ≤ stop (bt s)) (h : bt s k < 128) : stop (bt s) = k := by
  by_cases c : k < stop (bt s)
  · have := stop_more c; omega
  · omega
theorem e_cut {s : ByteArray} {k : Nat} (hk : k ≤ stop (bt s)) (h8 : k < 8) (hs : s.size ≤ k) : rE s = 3 := by
  have := stop_size s
  unfold rE; rw [if_neg (by omega), if_pos (by omega)]
theorem e_form {s : ByteArray} (h : 8 ≤ stop (bt s)) : rE s = 4 := by
  have := stop_le (bt s)
  unfold rE; rw [if_pos (by omega)]
theorem e_zero {s : ByteArray} {k : Nat} (hk : k ≤ stop (bt s)) (h8 : k < 8) (hs : k < s.size) (h0 : bt s k = 0) (h : 0 < k) : rE s = 4 := by
  have := sz_last hk (by omega)
  unfold rE; rw [this, if_neg (by omega), if_neg (by omega), if_pos ⟨h0, h⟩]
theorem e_ok {s : ByteArray} {k : Nat} (hk : k ≤ stop (bt s)) (h8 : k < 8) (hs : k < s.size) (hl : bt s k < 128) (h : k = 0 ∨ bt s k ≠ 0) : rE s = 0 ∧ stop (bt s) = k := by
  have := sz_last hk hl
  refine ⟨?_, this⟩
  unfold rE; rw [this, if_neg (by omega), if_neg (by omega), if_neg (by rintro ⟨h0, h1⟩; rcases h with h | h <;> omega)]
/-- what numberSize tells -/
def szK (s : ByteArray) : Nat := if rE s = 0 then stop (bt s) + 1 else 0
theorem ret_two {a b c d : Int} (h : a = b) (k : c = d) : Ending.returned (.tuple #[.int .i64 a, .int .i64 c]) = .returned (.tuple #[.int .i64 b, .int .i64 d]) := by rw [h, k]
theorem szK_bad {s : ByteArray} {e : Nat} (h : rE s = e + 1) : (0 : Int) = ((szK s : Nat) : Int) := by unfold szK; rw [if_neg (by omega)]; rfl
theorem i64_or_nat (a b : Nat) (ha : a < 9223372036854775808) (hb : b < 9223372036854775808) : bits .or .i64 (a : Int) (b : Int) = ((a ||| b : Nat) : Int) := by
  have hx : a ||| b < 2 ^ 63 := Nat.or_lt_two_pow (by omega) (by omega)
  show IntKind.i64.wrap ((BitVec.ofInt 64 (a : Int) ||| BitVec.ofInt 64 (b : Int)).toNat : Int) = _
  rw [BitVec.toNat_or, ofInt_u64 a (by omega), ofInt_u64 b (by omega), IntKind.wrap_i64]
  omega
theorem pow7 (k : Nat) : (2 : Nat) ^ (7 * k) = 128 ^ k := by rw [Nat.pow_mul]
theorem grp_lt {c k : Nat} (hk : k < 8) : c % 128 * 128 ^ k < 72057594037927936 := by
  have h1 : c % 128 * 128 ^ k ≤ 127 * 128 ^ k := Nat.mul_le_mul_right _ (by omega)
  have h2 : (128 : Nat) ^ k ≤ 128 ^ 7 := Nat.pow_le_pow_right (by decide) (by omega)
  omega
theorem grp_int {c k : Nat} (hk : k < 8) : wrap64 ((c : Int) % 128 * 2 ^ (7 * k)) = ((c % 128 * 128 ^ k : Nat) : Int) := by
  have e : (c : Int) % 128 * 2 ^ (7 * k) = ((c % 128 * 128 ^ k : Nat) : Int) := by rw [← pow7]; simp
  have := grp_lt (c := c) hk
  rw [e]; unfold wrap64; omega
theorem or_step {x c k : Nat} (hx : x < 128 ^ k) (hk : k < 8) : bits .or .i64 (x : Int) (wrap64 ((c : Int) % 128 * 2 ^ (7 * k))) = ((x + c % 128 * 128 ^ k : Nat) : Int) := by
  have h1 := grp_lt (c := c) hk
  have h2 : (128 : Nat) ^ k ≤ 128 ^ 7 := Nat.pow_le_pow_right (by decide) (by omega)
  rw [grp_int hk, i64_or_nat _ _ (by omega) (by omega), ← pow7, Nat.or_comm, ← Nat.shiftLeft_eq, ← Nat.shiftLeft_add_eq_or_of_lt (by rw [pow7]; exact hx), Nat.add_comm]
end Go.Proofs.YtlpibpkbgmcclaaDoor
