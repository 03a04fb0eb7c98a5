/- What the functions of package sluicegateref04 answer. -/
import Derived.Test.YtonhmihmnkicdaaGreatBase
import Derived.Test.YtonhmihmnkicdaaGreatCrMath
namespace Go.Proofs.YtonhmihmnkicdaaGreat
open Go.RowKit
theorem bit_u32 {f : Nat → Nat} {k : Nat} (hf : f (k / 8) < 256) : (((f (k / 8) : Nat) : Int) % 4294967296 / 2 ^ (k % 8)).tmod 2 = ((Cr.bit f k : Nat) : Int) := by
  unfold Cr.bit
  have e : ((f (k / 8) : Nat) : Int) % 4294967296 / 2 ^ (k % 8) = ((f (k / 8) / 2 ^ (k % 8) : Nat) : Int) := by
    rw [show ((f (k / 8) : Nat) : Int) % 4294967296 = ((f (k / 8) : Nat) : Int) by omega]
    simp
  rw [e]
  generalize f (k / 8) / 2 ^ (k % 8) = y
  rw [Int.tmod_eq_emod_of_nonneg (by omega)]
  omega
theorem out_u32 {x : Nat} {f : Nat → Nat} {k : Nat} (hf : f (k / 8) < 256) : bits .xor .u32 ((x : Int) % 2) ((((f (k / 8) : Nat) : Int) % 4294967296 / 2 ^ (k % 8)).tmod 2) = ((x % 2 ^^^ Cr.bit f k : Nat) : Int) := by
  have hb : Cr.bit f k < 2 := Nat.mod_lt _ (by decide)
  rw [bit_u32 hf, show (x : Int) % 2 = ((x % 2 : Nat) : Int) by omega, u32_xor_nat _ _ (by omega) (by omega)]
theorem of_yes {f : Nat → Nat} {k : Nat} (hf : f (k / 8) < 256) (h : (bits .xor .u32 (((Cr.crb f k : Nat) : Int) % 2) ((((f (k / 8) : Nat) : Int) % 4294967296 / 2 ^ (k % 8)).tmod 2) == 1) = true) :
    bits .xor .u32 (((Cr.crb f k : Nat) : Int) / 2 % 4294967296) 2197175160 = ((Cr.crb f (k + 1) : Nat) : Int) := by
  rw [out_u32 hf] at h
  have h' : Cr.crb f k % 2 ^^^ Cr.bit f k = 1 := by have := beq_iff_eq.1 h; omega
  have hx := Cr.crb_lt f k
  rw [Cr.crb, Cr.st_bit (Cr.bit_lt f k), if_pos h', show ((Cr.crb f k : Nat) : Int) / 2 % 4294967296 = ((Cr.crb f k / 2 : Nat) : Int) by omega, show (2197175160 : Int) = ((2197175160 : Nat) : Int) from rfl, u32_xor_nat _ _ (by omega) (by omega)]
  rfl
theorem of_no {f : Nat → Nat} {k : Nat} (hf : f (k / 8) < 256) (h : (bits .xor .u32 (((Cr.crb f k : Nat) : Int) % 2) ((((f (k / 8) : Nat) : Int) % 4294967296 / 2 ^ (k % 8)).tmod 2) == 1) = false) :
    ((Cr.crb f k : Nat) : Int) / 2 % 4294967296 = ((Cr.crb f (k + 1) : Nat) : Int) := by
  rw [out_u32 hf] at h
  have h' : ¬ Cr.crb f k % 2 ^^^ Cr.bit f k = 1 := by have := beq_eq_false_iff_ne.1 h; omega
  have hx := Cr.crb_lt f k
  rw [Cr.crb, Cr.st_bit (Cr.bit_lt f k), if_neg h', Nat.xor_zero]
  omega
theorem of_end {f : Nat → Nat} (hf : ∀ p, f p < 256) (n : Nat) : bits .xor .u32 ((Cr.crb f (8 * n) : Nat) : Int) 4294967295 = ((Cr.sum f n : Nat) : Int) := by
  have hx := Cr.crb_lt f (8 * n)
  rw [show (4294967295 : Int) = ((4294967295 : Nat) : Int) from rfl, u32_xor_nat _ _ (by omega) (by omega), Cr.crb_bytes hf]
  rfl
/-- the sealed text -/
def sealS (s : ByteArray) : ByteArray := s ++ mkS 4 (Cr.by4 (Cr.sum (bt s) s.size))
theorem four_string (x : Nat) (hx : x < 2 ^ 32) (w : World) :
    (convert 158 9 (.slice (some ⟨w.heap.size, 0, none⟩) 4 4)).run Tryz.prog (w.alloc (.cells #[.int .u8 ((x : Int) % 256), .int .u8 ((x : Int) / 256 % 256), .int .u8 ((x : Int) / 65536 % 256), .int .u8 ((x : Int) / 16777216)] 5)) =
      .ok (.string (mkS 4 (Cr.by4 x))) (w.alloc (.cells #[.int .u8 ((x : Int) % 256), .int .u8 ((x : Int) / 256 % 256), .int .u8 ((x : Int) / 65536 % 256), .int .u8 ((x : Int) / 16777216)] 5)) := by
  have e : mkS 4 (Cr.by4 x) = strOfNums [(x : Int) % 256, (x : Int) / 256 % 256, (x : Int) / 65536 % 256, (x : Int) / 16777216] := by
    unfold mkS
    congr 1
    simp only [List.range, List.range.loop, List.map, Cr.by4]
    simp
    omega
  rw [e]
  refine run_convert_bytes_arg _ 158 5 Tryz.underlying158 Tryz.underlying5 w.heap.size 0 4 4 _ rfl (fun i hi => ?_) 9 Tryz.underlying9
  rw [Nat.zero_add, World.cell?_alloc_new]
  rcases (show i = 0 ∨ i = 1 ∨ i = 2 ∨ i = 3 by omega) with rfl | rfl | rfl | rfl <;> rfl
/-- a text without its last four bytes -/
def headS (s : ByteArray) : ByteArray := s.extract 0 (s.size - 4)
theorem headS_size (s : ByteArray) : (headS s).size = s.size - 4 := by
  unfold headS
  rw [ByteArray.size_extract]
  omega
end Go.Proofs.YtonhmihmnkicdaaGreat
