/- What the functions of package sluicegateref04 answer. -/
import Derived.Test.YtaiafbihcfbglaaBase
import Derived.Test.YtaiafbihcfbglaaCrMath
namespace Go.Proofs.Ytaiafbihcfbglaa
open Go.RowKit
theorem bit_u32 {f : Nat → Nat} {k : Nat} (hf : f (k / 8) < 256) : (((f (k / 8) : Nat) : Int) % 4294967296 / 2 ^ (k % 8)).tmod 2 = ((Cr.bit f k : Nat) : Int) := by
  unfold Cr.bit
  have e : ((f (k / 8) : Nat) : Int) % 4294967296 / 2 ^ (k % 8) = ((f (k / 8) / 2 ^ (k % 8) : Nat) : Int) := by
    rw [show ((f (k / 8) : Nat) : Int) % 4294967296 = ((f (k / 8) : Nat) : Int) by omega]
    simp
  rw [e]
  generalize f (k / 8) / 2 ^ (k % 8) = y
  rw [Int.tmod_eq_emod_of_nonneg (by omega)]
  omega
theorem out_u32 {x : Nat} {f : Nat → Nat} {k : Nat} (hf : f (k / 8) < 256) : bits .xor .u32 ((x : Int) % 2) ((((f (k / 8) : Nat) : Int) % 4294967296 / 2 ^ (k % 8)).tmod 2) = ((x % 2 ^^^ Cr.bit f k : Nat) : Int) := by
  have hb : Cr.bit f k < 2 := Nat.mod_lt _ (by decide)
  rw [bit_u32 hf, show (x : Int) % 2 = ((x % 2 : Nat) : Int) by omega, u32_xor_nat _ _ (by omega) (by omega)]
theorem of_yes {f : Nat → Nat} {k : Nat} (hf : f (k / 8) < 256) (h : (bits .xor .u32 (((Cr.crb f k : Nat) : Int) % 2) ((((f (k / 8) : Nat) : Int) % 4294967296 / 2 ^ (k % 8)).tmod 2) == 1) = true) :
    bits .xor .u32 (((Cr.crb f k : Nat) : Int) / 2 % 4294967296) 2197175160 = ((Cr.crb f (k + 1) : Nat) : Int) := by
  rw [out_u32 hf] at h
  have h' : Cr.crb f k % 2 ^^^ Cr.bit f k = 1 := by have := beq_iff_eq.1 h; omega
  have hx := Cr.crb_lt f k
  rw [Cr.crb, Cr.st_bit (Cr.bit_lt f k), if_pos h', show ((Cr.crb f k : Nat) : Int) / 2 % 4294967296 = ((Cr.crb f k / 2 : Nat) : Int) by omega, show (2197175160 : Int) = ((2197175160 : Nat) : Int) from rfl, u32_xor_nat _ _ (by omega) (by omega)]
  rfl
theorem of_no {f : Nat → Nat} {k : Nat} (hf : f (k / 8) < 256) (h : (bits .xor .u32 (((Cr.crb f k : Nat) : Int) % 2) ((((f (k / 8) : Nat) : Int) % 4294967296 / 2 ^ (k % 8)).tmod 2) == 1) = false) :
    ((Cr.crb f k : Nat) : Int) / 2 % 4294967296 = ((Cr.crb f (k + 1) : Nat) : Int) := by
  rw [out_u32 hf] at h
  have h' : ¬ Cr.crb f k % 2 ^^^ Cr.bit f k = 1 := by have := beq_eq_false_iff_ne.1 h; omega
  have hx := Cr.crb_lt f k
  rw [Cr.crb, Cr.st_bit (Cr.bit_lt f k), if_neg h', Nat.xor_zero]
  omega
theorem of_end {f : Nat → Nat} (hf : ∀ p, f p < 256) (n : Nat) : bits .xor .u32 ((Cr.crb f (8 * n) : Nat) : Int) 4294967295 = ((Cr.sum f n : Nat) : Int) := by
  have hx := Cr.crb_lt f (8 * n)
  rw [show (4294967295 : Int) = ((4294967295 : Nat) : Int) from rfl, u32_xor_nat _ _ (by omega) (by omega), Cr.crb_bytes hf]
  rfl
set_option maxRecDepth 100000 in
set_option maxHeartbeats 1000000 in
theorem refOf_any (s : ByteArray) (w : World) (hs : s.size ≤ 1000000000000000) :
    Calls Try.prog 75 #[.string s] w fun e w' => e = .returned (.int .u32 (Cr.sum (bt s) s.size : Nat)) ∧ w = w' := by
  go_enter Try.func75, Try.ntmps75
  go_wp2_with fail
  go_loop [3, 4] (fun x y => ∃ k : Nat, k ≤ 8 * s.size ∧ y = .int .i64 k ∧ x = .int .u32 (Cr.crb (bt s) k : Nat)) (fun _ y => 8 * s.size - (intOf y).toNat)
  case atStart => exact ⟨0, by omega, rfl, rfl⟩
  case round =>
    obtain ⟨k, hk, rfl, rfl⟩ := hrel
    by_cases hlt : k < 8 * s.size
    · have hk8 : k / 8 < s.size := by omega
      have HB := hide (bt_eq hk8)
      go_wp2_with fail
      · rename_i h
        rw [HB.out] at h
        exact ⟨⟨k + 1, by omega, by go_num, by rw [of_yes (bt_lt _ _) h]⟩, by simp [intOf]; omega⟩
      · rename_i h
        rw [HB.out] at h
        exact ⟨⟨k + 1, by omega, by go_num, by rw [of_no (bt_lt _ _) h]⟩, by simp [intOf]; omega⟩
    · obtain rfl : k = 8 * s.size := by omega
      go_wp2_with fail
      go_ret
      exact ⟨ret_int (of_end (bt_lt s) s.size), rfl⟩
/-- the sealed text -/
def sealS (s : ByteArray) : ByteArray := s ++ mkS 4 (Cr.by4 (Cr.sum (bt s) s.size))
theorem four_string (x : Nat) (hx : x < 2 ^ 32) (w : World) :
    (convert 70 9 (.slice (some ⟨w.heap.size, 0, none⟩) 4 4)).run Try.prog (w.alloc (.cells #[.int .u8 ((x : Int) % 256), .int .u8 ((x : Int) / 256 % 256), .int .u8 ((x : Int) / 65536 % 256), .int .u8 ((x : Int) / 16777216)] 5)) =
      .ok (.string (mkS 4 (Cr.by4 x))) (w.alloc (.cells #[.int .u8 ((x : Int) % 256), .int .u8 ((x : Int) / 256 % 256), .int .u8 ((x : Int) / 65536 % 256), .int .u8 ((x : Int) / 16777216)] 5)) := by
  have e : mkS 4 (Cr.by4 x) = strOfNums [(x : Int) % 256, (x : Int) / 256 % 256, (x : Int) / 65536 % 256, (x : Int) / 16777216] := by
    unfold mkS
    congr 1
    simp only [List.range, List.range.loop, List.map, Cr.by4]
    simp
    omega
  rw [e]
  refine run_convert_bytes_arg _ 70 5 Try.underlying70 Try.underlying5 w.heap.size 0 4 4 _ rfl (fun i hi => ?_) 9 Try.underlying9
  rw [Nat.zero_add, World.cell?_alloc_new]
  rcases (show i = 0 ∨ i = 1 ∨ i = 2 ∨ i = 3 by omega) with rfl | rfl | rfl | rfl <;> rfl
set_option maxRecDepth 100000 in
set_option maxHeartbeats 1000000 in
theorem refSeal_any (s : ByteArray) (w : World) (hs : s.size ≤ 150000000000000) :
    Calls Try.prog 47 #[.string s] w fun e w' => e = .returned (.string (sealS s)) ∧ Below w.heap.size w w' := by
  have hx := Cr.sum_lt (bt_lt s) s.size
  go_enter Try.func47, Try.ntmps47
  go_wp2_with fail
  refine (refOf_any s _ (by omega)).mono ?_
  rintro e w1 ⟨rfl, rfl⟩
  have hS : Hid (sealS s = s ++ mkS 4 (Cr.by4 (Cr.sum (bt s) s.size))) := rfl
  generalize Cr.sum (bt s) s.size = x at *
  have hcv := four_string x hx w
  have hz : (mkS 4 (Cr.by4 x)).size = 4 := mkS_size _ _
  go_wp2_with fail
  go_ret
  exact ⟨ret_str hS.out.symm, (Below.refl _ _).alloc (Nat.le_refl _) _⟩
/-- a text without its last four bytes -/
def headS (s : ByteArray) : ByteArray := s.extract 0 (s.size - 4)
theorem headS_size (s : ByteArray) : (headS s).size = s.size - 4 := by
  unfold headS
  rw [ByteArray.size_extract]
  omega
set_option maxRecDepth 100000 in
set_option maxHeartbeats 1000000 in
theorem refOpen_cut (s : ByteArray) (w : World) (hs : s.size < 4) :
    Calls Try.prog 37 #[.string s] w fun e w' => e = .returned (.tuple #[.string ByteArray.empty, .int .i64 3]) ∧ w = w' := by
  go_enter Try.func37, Try.ntmps37
  go_wp2_with fail
  go_ret2
  exact ⟨rfl, rfl⟩
set_option maxRecDepth 100000 in
set_option maxHeartbeats 1000000 in
theorem refOpen_bad (s : ByteArray) (w : World) (hs : 4 ≤ s.size) (hl : s.size ≤ 150000000000000) (hn : sealS (headS s) ≠ s) :
    Calls Try.prog 37 #[.string s] w fun e w' => e = .returned (.tuple #[.string ByteArray.empty, .int .i64 5]) ∧ Below w.heap.size w w' := by
  have hb := str_ne hn
  have hz : (headS s).size ≤ 150000000000000 := by rw [headS_size]; omega
  have hd : Hid (s.extract 0 (s.size - 4) = headS s) := rfl
  clear hn
  go_enter Try.func37, Try.ntmps37
  go_wp2_with fail
  rw [hd.out]
  refine (refSeal_any _ _ hz).mono ?_
  rintro e w1 ⟨rfl, hb1⟩
  have HB1 := hide hb1
  clear hb1
  go_wp2_with fail
  go_ret2
  exact ⟨rfl, HB1.out⟩
set_option maxRecDepth 100000 in
set_option maxHeartbeats 1000000 in
theorem refOpen_good (s : ByteArray) (w : World) (hs : 4 ≤ s.size) (hl : s.size ≤ 150000000000000) (hn : sealS (headS s) = s) :
    Calls Try.prog 37 #[.string s] w fun e w' => e = .returned (.tuple #[.string (headS s), .int .i64 0]) ∧ Below w.heap.size w w' := by
  have hz : (headS s).size ≤ 150000000000000 := by rw [headS_size]; omega
  have hd : Hid (s.extract 0 (s.size - 4) = headS s) := rfl
  have HN := hide hn
  clear hn
  go_enter Try.func37, Try.ntmps37
  go_wp2_with fail
  rw [hd.out]
  refine (refSeal_any _ _ hz).mono ?_
  rintro e w1 ⟨he, hb1⟩
  rw [HN.out] at he; subst he
  have HB1 := hide hb1
  clear hb1
  go_wp2_with fail
  go_ret2
  exact ⟨rfl, HB1.out⟩
end Go.Proofs.Ytaiafbihcfbglaa
