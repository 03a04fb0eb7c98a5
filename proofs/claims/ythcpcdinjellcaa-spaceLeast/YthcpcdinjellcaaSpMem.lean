/- A space in one block; who changes what. -/
import Derived.Test.YthcpcdinjellcaaRow
import Derived.Test.YthcpcdinjellcaaSpMath
namespace Go.Proofs.Ythcpcdinjellcaa
open Go.RowKit
set_option linter.unusedVariables false
def SpAt (w : World) (b : Nat) (B : Nat → Bool) : Prop := FnAt w b 53 576 (fun p => .bool (B p))
theorem SpAt.cell {w : World} {b : Nat} {B : Nat → Bool} (h : SpAt w b B) {p : Nat} (hp : p < 576) : w.cell? ⟨b, p, none⟩ = some (.bool (B p)) := FnAt.cell h hp
theorem SpAt.fr {w : World} {b : Nat} {B : Nat → Bool} (h : SpAt w b B) (p : Nat) : w.frozen? ⟨b, p, none⟩ = false := FnAt.free h p
theorem SpAt.lt {w : World} {b : Nat} {B : Nat → Bool} (h : SpAt w b B) : b < w.heap.size := FnAt.lt h
theorem SpAt.congr {w : World} {b : Nat} {B C : Nat → Bool} (h : SpAt w b B) (e : ∀ p, p < 576 → B p = C p) : SpAt w b C := FnAt.congr h fun p hp => by rw [e p hp]
theorem SpAt.set {w : World} {b : Nat} {B : Nat → Bool} (h : SpAt w b B) (p : Nat) (v : Bool) : SpAt (w.setCell ⟨b, p, none⟩ (.bool v)) b (setB B p v) :=
  FnAt.congr (FnAt.set h p _) fun q hq => by unfold setB; by_cases e : q = p <;> simp [e]
/-- nothing below was changed but in block b -/
structure Bu (b : Nat) (w w' : World) : Prop where
  os : w'.os = w.os
  tape : w'.tape = w.tape
  output : w'.output = w.output
  size : w.heap.size ≤ w'.heap.size
  blk : ∀ k, k < w.heap.size → k ≠ b → w'.heap[k]? = w.heap[k]?
theorem Bu.refl (b : Nat) (w : World) : Bu b w w := ⟨rfl, rfl, rfl, Nat.le_refl _, fun _ _ _ => rfl⟩
theorem Bu.trans {b : Nat} {u v w : World} (h : Bu b u v) (k : Bu b v w) : Bu b u w := ⟨k.os.trans h.os, k.tape.trans h.tape, k.output.trans h.output, Nat.le_trans h.size k.size, fun i hi hn => (k.blk i (Nat.lt_of_lt_of_le hi h.size) hn).trans (h.blk i hi hn)⟩
theorem Bu.of_below {b : Nat} {w w' : World} (h : Below w.heap.size w w') : Bu b w w' := ⟨h.os, h.tape, h.output, h.size, fun k hk _ => h.block k hk⟩
theorem Bu.set {b : Nat} (w : World) (p : Nat) (v : Value) : Bu b w (w.setCell ⟨b, p, none⟩ v) := ⟨rfl, rfl, rfl, by simp [World.setCell], fun k hk hn => Below.heap_setCell _ _ _ _ hn⟩
theorem Bu.below {b B : Nat} {u v w : World} (h : Bu b v w) (hb : Below B u v) (hB : B ≤ v.heap.size) (hbb : B ≤ b) : Below B u w :=
  ⟨h.os.trans hb.os, h.tape.trans hb.tape, h.output.trans hb.output, Nat.le_trans hb.size h.size, fun k hk => (h.blk k (by omega) (by omega)).trans (hb.block k hk)⟩
theorem SpAt.below {w w' : World} {b : Nat} {B : Nat → Bool} (h : SpAt w b B) (hb : Below w.heap.size w w') : SpAt w' b B := FnAt.below h hb h.lt
theorem sp_info : (Try.prog.info? 53).map (fun i => i.zero) = some (some (.agg (fnC 576 fun _ => .bool false))) := by kernel_rfl
theorem zero_space (w : World) : Sem.run Try.prog (zeroValue 53) w = .ok (.agg (fnC 576 fun _ => .bool false)) w := by
  have h := sp_info
  cases hi : Try.prog.info? 53 with
  | none => rw [hi] at h; cases h
  | some i =>
    rw [hi] at h
    have hz : i.zero = some (.agg (fnC 576 fun _ => .bool false)) := by simpa using h
    simp [zeroValue, typeInfo, hi, hz]
set_option maxRecDepth 100000 in
theorem new_any (w : World) : Calls Try.prog 10 #[] w fun e w' => e = .returned (.pointer (some ⟨w.heap.size, 0, none⟩)) ∧ SpAt w' w.heap.size (fun _ => false) ∧ Below w.heap.size w w' := by
  have hz := zero_space
  go_enter Try.func10, Try.ntmps10
  go_wp2_with fail
  try go_ret
  exact ⟨rfl, heap_alloc_new w _, (Below.refl _ _).alloc (Nat.le_refl _) _⟩
set_option maxRecDepth 100000 in
theorem of_no (p : Option Addr) (d : Int) (w : World) (h : p = none ∨ okD d = false) : Calls Try.prog 26 #[.pointer p, .int .i64 d] w fun e w' => e = .returned (.pointer none) ∧ w = w' := by
  cases p with
  | none =>
    go_enter Try.func26, Try.ntmps26
    go_wp2_with fail
    try go_ret
    exact ⟨rfl, rfl⟩
  | some p =>
    have hd : okD d = false := by rcases h with q | q; cases q; exact q
    have hn : ¬ (0 ≤ d ∧ d < 12) := fun q => by rw [okD_iff.2 q] at hd; cases hd
    clear h hd
    by_cases h0 : d < 0
    · have q0 : decide (d < 0) = true := by simpa using h0
      go_enter Try.func26, Try.ntmps26
      go_wp2_with fail
      try go_ret
      exact ⟨rfl, rfl⟩
    · have q0 : decide (d < 0) = false := by simpa using h0
      have q1 : decide (12 ≤ d) = true := by simp; omega
      go_enter Try.func26, Try.ntmps26
      go_wp2_with fail
      try go_ret
      exact ⟨rfl, rfl⟩
set_option maxRecDepth 100000 in
theorem of_yes (b d : Nat) (w : World) (hd : d < 12) : Calls Try.prog 26 #[.pointer (some ⟨b, 0, none⟩), .int .i64 (d : Int)] w fun e w' => e = .returned (.pointer (some ⟨b, d * 48, none⟩)) ∧ w = w' := by
  have q0 : decide ((d : Int) < 0) = false := by simp
  have q1 : decide ((12 : Int) ≤ (d : Int)) = false := by simp; omega
  have hi : (d : Int) < 12 := by omega
  go_enter Try.func26, Try.ntmps26
  go_wp2_with fail
  try go_ret
  exact ⟨by simp, rfl⟩
end Go.Proofs.Ythcpcdinjellcaa
