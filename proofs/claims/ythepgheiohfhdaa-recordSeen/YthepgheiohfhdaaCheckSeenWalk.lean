/- The law CheckSeen returns true at every input, and writes nothing that was there. -/
import Derived.Test.YthepgheiohfhdaaCheckEndsWalk
import Derived.Laws.IdiomStrings
namespace Go.Proofs.Ythepgheiohfhdaa
open Go.RowKit
/-- bytes that lie from a block's first cell on, and may be written -/
def BsAt (w : World) (b L : Nat) (f : Nat → Nat) : Prop := b < w.heap.size ∧ ∀ p, p < L → w.cell? ⟨b, p, none⟩ = some (.int .u8 (f p : Nat)) ∧ w.frozen? ⟨b, p, none⟩ = false
theorem BsAt.congr {w : World} {b L : Nat} {f g : Nat → Nat} (h : BsAt w b L f) (e : ∀ p, p < L → f p = g p) : BsAt w b L g := ⟨h.1, fun p hp => by rw [← e p hp]; exact h.2 p hp⟩
theorem bs_new (w : World) (s : ByteArray) (cap : Nat) (t : TypeId) : BsAt (w.drew.alloc (.cells (bytesRow s cap) t ((bytesRow s cap).size, (bytesRow s cap).size + 1))) w.heap.size s.size (bt s) := by
  refine ⟨by show _ < (w.drew.alloc _).heap.size; rw [World.size_alloc]; exact Nat.lt_succ_self _, fun p hp => ⟨?_, ?_⟩⟩
  · have h := World.cell?_alloc_mark w.drew (bytesRow s cap) t ((bytesRow s cap).size, (bytesRow s cap).size + 1) p
    rw [show w.drew.heap.size = w.heap.size from rfl] at h
    rw [h, bytesRow_at s cap p hp, ← bt_eq hp]
    rfl
  · have h := World.frozen?_alloc_mark w.drew (bytesRow s cap) t (bytesRow s cap).size ((bytesRow s cap).size + 1) p
    rw [show w.drew.heap.size = w.heap.size from rfl] at h
    rw [h]
    have : s.size ≤ (bytesRow s cap).size := by unfold bytesRow; simp
    simp; omega
/-- bytes of which the first j of four were turned -/
def trn (f : Nat → Nat) (k v j p : Nat) : Nat := if k ≤ p ∧ p < k + j then f p ^^^ Cr.by4 v (p - k) else f p
theorem trn_zero (f : Nat → Nat) (k v p : Nat) : trn f k v 0 p = f p := by unfold trn; rw [if_neg (by omega)]
theorem trn_at (f : Nat → Nat) (k v j : Nat) : trn f k v j (k + j) = f (k + j) := by unfold trn; rw [if_neg (by omega)]
theorem trn_step (f : Nat → Nat) (k v j p : Nat) : (if p = k + j then f (k + j) ^^^ Cr.by4 v j else trn f k v j p) = trn f k v (j + 1) p := by
  unfold trn
  by_cases e : p = k + j
  · subst e; rw [if_pos rfl, if_pos (by omega), Nat.add_sub_cancel_left]
  · rw [if_neg e]
    by_cases c : k ≤ p ∧ p < k + j
    · rw [if_pos c, if_pos (by omega)]
    · rw [if_neg c, if_neg (by omega)]
theorem BsAt.set {w : World} {b L : Nat} {f : Nat → Nat} (h : BsAt w b L f) (q x : Nat) (hq : q < L) : BsAt (w.setCell ⟨b, q, none⟩ (.int .u8 (x : Nat))) b L (fun p => if p = q then x else f p) := by
  refine ⟨by simpa [World.setCell] using h.1, fun p hp => ⟨?_, ?_⟩⟩
  · by_cases e : p = q
    · subst e; simp only [if_pos]; exact World.cell?_setCell_same _ _ _ (h.2 p hp).1
    · simp only [if_neg e]
      rw [World.cell?_setCell_other _ _ _ _ (by simp <;> omega)]
      exact (h.2 p hp).1
  · rw [World.frozen?_setCell]; exact (h.2 p hp).2
theorem BsAt.string {w : World} {b L cap : Nat} {f : Nat → Nat} (h : BsAt w b L f) : (convert 51 9 (.slice (some ⟨b, 0, none⟩) L cap)).run Try.prog w = .ok (.string (mkS L f)) w := by
  refine run_convert_bytes_arg w 51 5 Try.underlying51 Try.underlying5 b 0 L cap _ (by simp) (fun i hi => ?_) 9 Try.underlying9
  rw [Nat.zero_add, (h.2 i hi).1]
  simp [hi]
theorem trn_lt {f : Nat → Nat} (k v j p : Nat) (hf : ∀ p, f p < 256) : trn f k v j p < 256 := by
  unfold trn; split
  · exact Nat.xor_lt_two_pow (n := 8) (hf _) (Cr.by4_lt _ _)
  · exact hf p
theorem turn_u8 {c v j : Nat} (hc : c < 256) (_ : j < 4) : bits .xor .u8 (c : Int) ((v : Int) / 2 ^ (8 * j) % 256) = ((c ^^^ Cr.by4 v j : Nat) : Int) := by
  have e : (v : Int) / 2 ^ (8 * j) % 256 = ((Cr.by4 v j : Nat) : Int) := by
    unfold Cr.by4
    rw [show (256 : Nat) ^ j = 2 ^ (8 * j) by rw [Nat.pow_mul]]
    simp
  rw [e, u8_xor_nat _ _ hc (Cr.by4_lt _ _)]
end Go.Proofs.Ythepgheiohfhdaa
