/- What digest.Hex answers. -/
import Derived.Test.YtomcdajoeakhdaaDoorShText
namespace Go.Proofs.YtomcdajoeakhdaaDoor
open Go.RowKit
def digs : ByteArray := ⟨#[48, 49, 50, 51, 52, 53, 54, 55, 56, 57, 97, 98, 99, 100, 101, 102]⟩
/-- a digit of sixteen -/
def dgt (n : Nat) : Nat := if n < 10 then 48 + n else 87 + n
theorem lt16 {n : Nat} (h : n < 16) : n = 0 ∨ n = 1 ∨ n = 2 ∨ n = 3 ∨ n = 4 ∨ n = 5 ∨ n = 6 ∨ n = 7 ∨ n = 8 ∨ n = 9 ∨ n = 10 ∨ n = 11 ∨ n = 12 ∨ n = 13 ∨ n = 14 ∨ n = 15 := by omega
theorem digs_at {n : Nat} (h : n < 16) : bt digs n = dgt n := by
  rcases lt16 h with rfl | rfl | rfl | rfl | rfl | rfl | rfl | rfl | rfl | rfl | rfl | rfl | rfl | rfl | rfl | rfl <;> decide
theorem dgt_lt {n : Nat} (h : n < 16) : dgt n < 256 := by unfold dgt; split <;> omega
theorem dig_lit {n : Nat} (h : n < 16) : ∀ h', ((⟨#[48, 49, 50, 51, 52, 53, 54, 55, 56, 57, 97, 98, 99, 100, 101, 102]⟩ : ByteArray)[n]'h').toNat = dgt n := fun h' => by
  have := digs_at h
  rw [← bt_eq (s := digs) h'] at this
  exact this
/-- byte p of the digits of s -/
def hx (f : Nat → Nat) (p : Nat) : Nat := if p % 2 = 0 then dgt (f (p / 2) / 16) else dgt (f (p / 2) % 16)
theorem hx_lt {f : Nat → Nat} (h : ∀ p, f p < 256) (p : Nat) : hx f p < 256 := by
  have := h (p / 2)
  unfold hx; split
  · exact dgt_lt (by omega)
  · exact dgt_lt (by omega)
theorem hx_two (f : Nat → Nat) (k : Nat) : bys (hx f) (2 * (k + 1)) = bys (hx f) (2 * k) ++ [.int .u8 ((dgt (f k / 16) : Nat) : Int), .int .u8 ((dgt (f k % 16) : Nat) : Int)] := by
  rw [show 2 * (k + 1) = 2 * k + 1 + 1 by omega, bys_succ, bys_succ, List.append_assoc]
  congr 1
  have e0 : hx f (2 * k) = dgt (f k / 16) := by unfold hx; rw [if_pos (by omega), show 2 * k / 2 = k by omega]
  have e1 : hx f (2 * k + 1) = dgt (f k % 16) := by unfold hx; rw [if_neg (by omega), show (2 * k + 1) / 2 = k by omega]
  rw [e0, e1]
  rfl
def HxRel (w wr : World) (f : Nat → Nat) (x : Value) (k : Nat) : Prop := wr.ownsRow w.heap.size 5 1 x (2 * k) (bys (hx f) (2 * k)) ∧ Below w.heap.size w wr
theorem hxRel_step {w wr w1 : World} {f : Nat → Nat} {y v' : Value} {k : Nat} {o : Obj} (h : HxRel w wr f y k) (hown : w1.ownsRow w.heap.size 5 1 v' (2 * k + 2) (bys (hx f) (2 * k) ++ [.int .u8 ((dgt (f k / 16) : Nat) : Int), .int .u8 ((dgt (f k % 16) : Nat) : Int)])) (hgr : (wr.drew.alloc o).grownBy w1 y.ownBlock) : HxRel w w1 f v' (k + 1) := by
  refine ⟨?_, ?_⟩
  · rw [hx_two, show 2 * (k + 1) = 2 * k + 2 by omega]
    exact hown
  · refine Below.grown (h.2.drew.alloc h.2.size o) hgr ?_ fun g hg => row_base h.1 hg
    rw [World.size_alloc]
    exact Nat.le_succ_of_le h.2.size
end Go.Proofs.YtomcdajoeakhdaaDoor
