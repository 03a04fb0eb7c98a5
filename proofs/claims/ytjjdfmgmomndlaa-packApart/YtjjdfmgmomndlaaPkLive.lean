/- What the law's own live answers: true. -/
import Derived.Test.YtjjdfmgmomndlaaPkReader
namespace Go.Proofs.Ytjjdfmgmomndlaa
open Go.RowKit
def lvS : ByteArray := ⟨#[172, 2, 2, 104, 105, 97, 98, 99]⟩
def lvHi : ByteArray := ⟨#[104, 105]⟩
def lvAbc : ByteArray := ⟨#[97, 98, 99]⟩
def lvCut : ByteArray := ⟨#[172]⟩
def lvX : ByteArray := ⟨#[120]⟩
def lvN : ByteArray := ⟨#[172, 2]⟩
def lvT : ByteArray := ⟨#[2, 104, 105]⟩
theorem nlen_300 : nlen 300 = 2 := by rw [nlen_step (by decide), nlen_small (by decide)]
theorem num_300 : numS 300 = lvN := by
  unfold numS; rw [nlen_300]
  decide +kernel
theorem text_hi : textS lvHi = lvT := by
  unfold textS numS; rw [nlen_small (by decide)]
  decide +kernel
theorem lv_split : lvS = numS 300 ++ (textS lvHi ++ lvAbc) := by rw [num_300, text_hi]; decide +kernel
theorem lv_cut : rE lvCut = 3 := by decide +kernel
set_option maxRecDepth 100000 in
set_option maxHeartbeats 4000000 in
theorem live_any (w : World) : Calls Try.prog 10 #[] w fun e w' => e = .returned (.bool true) ∧ Below w.heap.size w w' := by
  obtain ⟨_, a1, a2, a3⟩ := rd_num (n := 300) (textS lvHi ++ lvAbc) (by decide)
  rw [← lv_split] at a1 a2 a3
  obtain ⟨b1, b2, b3⟩ := rd_text (s := lvHi) lvAbc (by decide)
  have A1 := hide a1
  have A2 := hide a2
  have A3 := hide a3
  have B1 := hide b1
  have B2 := hide b2
  have B3 := hide b3
  clear a1 a2 a3 b1 b2 b3
  have l1 : lvHi.toList = [104, 105] := by rw [ByteArray.toList_eq]; rfl
  have l2 : lvAbc.toList = [97, 98, 99] := by rw [ByteArray.toList_eq]; rfl
  have l3 : lvN.toList = [172, 2] := by rw [ByteArray.toList_eq]; rfl
  have l4 : lvT.toList = [2, 104, 105] := by rw [ByteArray.toList_eq]; rfl
  go_enter Try.func10, Try.ntmps10
  go_wp2_with fail
  refine (read_any lvS w).mono ?_
  rintro e w1 ⟨b, rfl, hb, hz1, hR1, hB1⟩
  have HR1 := hide hR1
  have HB1 := hide hB1
  have HZ1 := hide hz1
  have HB := hide hb
  clear hR1 hB1 hb hz1
  go_wp2_with fail
  refine (rnum_ok b lvS w1 HR1.out (by decide)).mono ?_
  rw [A1.out, A2.out, A3.out]
  rintro e w2 ⟨rfl, hR2, hB2⟩
  have HR2 := hide hR2
  have HB2 := hide (HB1.out.trans (hB2.below (by rw [HB.out]; exact Nat.le_refl _)))
  clear hR2 hB2
  go_wp2_with fail
  refine (rtext_ok b _ w2 HR2.out (by rw [text_hi]; decide)).mono ?_
  rw [B1.out, B2.out, B3.out]
  rintro e w3 ⟨rfl, hR3, hB3⟩
  have HR3 := hide hR3
  have HB3 := hide (HB2.out.trans (hB3.below (by rw [HB.out]; exact Nat.le_refl _)))
  clear hR3 hB3
  go_wp2_with fail
  refine (rrest_ok b _ w3 HR3.out).mono ?_
  rintro e w4 ⟨rfl, hR4, hB4⟩
  have HR4 := hide hR4
  have HB4 := hide (HB3.out.trans (hB4.below (by rw [HB.out]; exact Nat.le_refl _)))
  clear hR4 hB4
  go_wp2_with fail
  refine (rend_done b w4 HR4.out).mono ?_
  rintro e w5 ⟨rfl, rfl⟩
  go_wp2_with fail
  refine (read_any lvCut w4).mono ?_
  rintro e w5 ⟨c, rfl, hc, _, hR5, hB5⟩
  have HR5 := hide hR5
  have HB5 := hide (HB4.out.trans (hB5.mono HB4.out.size))
  have HC : Hid (w.heap.size ≤ c) := by rw [hc]; exact HB4.out.size
  clear hR5 hB5 hc
  go_wp2_with fail
  refine (rnum_ok c lvCut w5 HR5.out (by decide)).mono ?_
  rw [lv_cut, show rN lvCut = 0 by unfold rN; rw [lv_cut]; rfl]
  rintro e w6 ⟨rfl, hR6, hB6⟩
  have HR6 := hide hR6
  have HB6 := hide (HB5.out.trans (hB6.below HC.out))
  clear hR6 hB6
  go_wp2_with fail
  refine (rend_err c _ 3 w6 HR6.out (by decide)).mono ?_
  rintro e w7 ⟨rfl, rfl⟩
  go_wp2_with fail
  refine (read_any lvX w6).mono ?_
  rintro e w7 ⟨d, rfl, hd, _, hR7, hB7⟩
  have HR7 := hide hR7
  have HB7 := hide (HB6.out.trans (hB7.mono HB6.out.size))
  have HD : Hid (w.heap.size ≤ d) := by rw [hd]; exact HB6.out.size
  clear hR7 hB7 hd
  go_wp2_with fail
  refine (rend_left d lvX w7 HR7.out (by decide)).mono ?_
  rintro e w8 ⟨rfl, hR8, hB8⟩
  have HB8 := hide (HB7.out.trans (hB8.below HD.out))
  clear hR8 hB8
  go_wp2_with fail
  refine (number_nat 300 w8 (by decide)).mono ?_
  rw [num_300]
  rintro e w9 ⟨rfl, hB9⟩
  have HB9 := hide (HB8.out.trans (hB9.mono HB8.out.size))
  clear hB9
  go_wp2_with fail
  refine (number_none (-1) w9 (by decide)).mono ?_
  rintro e w10 ⟨rfl, hB10⟩
  have HB10 := hide (HB9.out.trans (hB10.mono HB9.out.size))
  clear hB10
  go_wp2_with fail
  refine (text_any lvHi w10 (by decide)).mono ?_
  rw [text_hi]
  rintro e w11 ⟨rfl, hB11⟩
  have HB11 := hide (HB10.out.trans (hB11.mono HB10.out.size))
  clear hB11
  go_wp2_with fail
  go_ret
  exact ⟨rfl, HB11.out⟩
end Go.Proofs.Ytjjdfmgmomndlaa
