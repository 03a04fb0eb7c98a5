/- What a writer's record answers. -/
import Derived.Test.YtaiafbihcfbglaaRcWrVol
namespace Go.Proofs.Ytaiafbihcfbglaa
open Go.RowKit
set_option linter.unusedVariables false
def HBx (bx : Nat) (b1 b2 b3 b4 : Bool) (w : World) : Prop := w.heap[bx]? = some (.cells #[.bool b1, .bool b2, .bool b3, .bool b4] 94 (0, 0))
theorem HBx.cells {bx : Nat} {b1 b2 b3 b4 : Bool} {w : World} (h : HBx bx b1 b2 b3 b4 w) : w.cell? ⟨bx, 0, none⟩ = some (.bool b1) ∧ w.cell? ⟨bx, 1, none⟩ = some (.bool b2) ∧ w.cell? ⟨bx, 2, none⟩ = some (.bool b3) ∧ w.cell? ⟨bx, 3, none⟩ = some (.bool b4) := ⟨cell_of_block h, cell_of_block h, cell_of_block h, cell_of_block h⟩
theorem HBx.below {bx : Nat} {b1 b2 b3 b4 : Bool} {w w' : World} (h : HBx bx b1 b2 b3 b4 w) (hb : Below w.heap.size w w') : HBx bx b1 b2 b3 b4 w' := (hb.block bx (lt_of_block h)).trans h
theorem HBx.kw {bx B b : Nat} {b1 b2 b3 b4 : Bool} {w w' : World} (k : HBx bx b1 b2 b3 b4 w) (h : Kw B b w w') (hne : bx ≠ b) : HBx bx b1 b2 b3 b4 w' := h.keep _ _ _ _ hne (by decide) k
set_option maxRecDepth 100000 in
set_option maxHeartbeats 8000000 in
theorem wrec0 (w0 : World) (b : Nat) (x1 x3 x4 x5 : Int) (xl : List (Int × Int)) (x6 : ByteArray) (x7 x8 x9 : Int) (x10 x11 : ByteArray) (x12 x13 : Int) (a : Option Addr) (c : Nat) (w : World) (hw : Wt w0.heap.size b ByteArray.empty w) (h0 : Below w0.heap.size w0 w) (hS : LocsAt w0 a xl) (hl : xl.length = 9) (hk6 : x6.size ≤ 1000) (hk10 : x10.size ≤ 1000) :
    Calls Try.prog 32 #[.pointer (some ⟨b, 0, none⟩), .agg (rcs ⟨x1, 0, x3, x4, x5, xl, x6, x7, x8, x9, x10, x11, x12, x13⟩ a c)] w fun e w' => e = .returned (.tuple #[]) ∧ Wt w0.heap.size b (sSJ ++ (numI x1 ++ (numI 0 ++ (volB x3 x4 x5 xl ++ (textS x6 ++ (numI x8 ++ (numI x9 ++ x10))))))) w' ∧ Kw w0.heap.size b w w' := by
  have hbl := hw.lt
  have hB := h0.size
  have HS := hide hS
  have H0 := hide h0
  have HW1 := hide (hw.alloc (.cells (rcs ⟨x1, 0, x3, x4, x5, xl, x6, x7, x8, x9, x10, x11, x12, x13⟩ a c) 55))
  have HK1 := hide (kw_alloc (b := b) (w := w) (.cells (rcs ⟨x1, 0, x3, x4, x5, xl, x6, x7, x8, x9, x10, x11, x12, x13⟩ a c) 55) hB)
  have HR1 := hide (rbx_new 55 ⟨x1, 0, x3, x4, x5, xl, x6, x7, x8, x9, x10, x11, x12, x13⟩ a c w)
  have HP : Hid (∀ w, Calls Try.prog 49 #[.int .i64 0] w fun r w' => r = .returned (.agg #[.bool true, .bool true, .bool false, .bool false]) ∧ Below w.heap.size w w') := fun w => by
    have := partsOf_any 0 w
    simp [prt] at this
    exact this
  have hB1 : w0.heap.size ≤ (w.alloc (.cells (rcs ⟨x1, 0, x3, x4, x5, xl, x6, x7, x8, x9, x10, x11, x12, x13⟩ a c) 55)).heap.size := by rw [World.size_alloc]; omega
  have HN : Hid (w.heap.size ≠ b) := by unfold Hid; omega
  have h8a := numI_8 x1
  have h8b := numI_8 0
  have HL := hide hl
  clear hw h0 hS hl
  skip
  skip
  skip
  simp only [rcs] at HW1 HK1 hB1 ⊢
  go_enter Try.func32, Try.ntmps32
  go_upto_region 1 with fail
  change Code.wp _ _ _ _ (w.alloc (.cells #[.int .i64 x1, .int .i64 0, .int .i64 x3, .int .i64 x4, .int .i64 x5, .slice a xl.length c, .string x6, .int .i64 x7, .int .i64 x8, .int .i64 x9, .string x10, .string x11, .int .i64 x12, .int .i64 x13] 55))
  have HR1' : Hid (RBx w.heap.size 55 ⟨x1, 0, x3, x4, x5, xl, x6, x7, x8, x9, x10, x11, x12, x13⟩ a c (w.alloc (.cells #[.int .i64 x1, .int .i64 0, .int .i64 x3, .int .i64 x4, .int .i64 x5, .slice a xl.length c, .string x6, .int .i64 x7, .int .i64 x8, .int .i64 x9, .string x10, .string x11, .int .i64 x12, .int .i64 x13] 55))) := HR1.out
  clear HR1
  generalize w.alloc (.cells #[.int .i64 x1, .int .i64 0, .int .i64 x3, .int .i64 x4, .int .i64 x5, .slice a xl.length c, .string x6, .int .i64 x7, .int .i64 x8, .int .i64 x9, .string x10, .string x11, .int .i64 x12, .int .i64 x13] 55) = W1 at *
  have HS1 : Hid (w.heap.size < W1.heap.size) := HR1'.out.lt
  generalize w.heap.size = bx at *
  have c1 := HR1'.out.c1
  simp only at c1
  go_wp2_with fail
  refine (HP.out W1).mono ?_
  rintro e w2 ⟨rfl, hb2⟩
  have HW2 := hide ((HW1.out.below hb2).alloc (.cells #[.bool true, .bool true, .bool false, .bool false] 94))
  have hB2 : w0.heap.size ≤ w2.heap.size := Nat.le_trans hB1 hb2.size
  have HK2 := hide ((HK1.out.trans (Kw.of_below hb2 hB1)).trans (kw_alloc (b := b) (w := w2) (.cells #[.bool true, .bool true, .bool false, .bool false] 94) hB2))
  have HR2 := hide ((HR1'.out.below hb2 HR1'.out.lt).below ((Below.refl _ _).alloc (Nat.le_refl _) (.cells #[.bool true, .bool true, .bool false, .bool false] 94)) (Nat.lt_of_lt_of_le HS1.out hb2.size))
  have HH2 : Hid (HBx w2.heap.size true true false false (w2.alloc (.cells #[.bool true, .bool true, .bool false, .bool false] 94))) := heap_alloc_new _ _
  have HN2 : Hid (w2.heap.size ≠ b) := by unfold Hid; have h1 := HW1.out.lt; have h2 := hb2.size; omega
  have hB3 : w0.heap.size ≤ (w2.alloc (.cells #[.bool true, .bool true, .bool false, .bool false] 94)).heap.size := by rw [World.size_alloc]; omega
  clear hb2 HW1 HK1 HR1' HP c1 HS1 hB2 hB1
  go_wp2_with fail
  generalize w2.alloc (.cells #[.bool true, .bool true, .bool false, .bool false] 94) = W2 at *
  generalize w2.heap.size = hx at *
  refine (wstr_any w0.heap.size b ByteArray.empty sSJ W2 HW2.out (by rw [sSJ_size]; simp) hB3).mono ?_
  rintro e w3 ⟨rfl, hw3, hk3⟩
  rw [nil_app] at hw3
  have HW3 := hide hw3
  have HK3 := hide (HK2.out.trans hk3)
  have HR3 := hide (HR2.out.kw hk3 HN.out (by decide))
  have HH3 := hide (HH2.out.kw hk3 HN2.out)
  have hB4 : w0.heap.size ≤ w3.heap.size := Nat.le_trans hB3 hk3.size
  clear hw3 hk3 HW2 HK2 HR2 HH2 hB3
  have c0 := HR3.out.c0
  have c1 := HR3.out.c1
  simp only at c0 c1
  have hbl3 := HW3.out.lt
  have HW4 := hide (HW3.out.alloc (.cells #[.int .i64 x1, .int .i64 0] 3))
  have HK4 := hide (HK3.out.trans (kw_alloc (b := b) (w := w3) (.cells #[.int .i64 x1, .int .i64 0] 3) hB4))
  have HG4 : Hid ((w3.alloc (.cells #[.int .i64 x1, .int .i64 0] 3)).heap[w3.heap.size]? = some (.cells #[.int .i64 x1, .int .i64 0] 3 (0, 0))) := heap_alloc_new _ _
  have HR4 := hide (HR3.out.below ((Below.refl _ _).alloc (Nat.le_refl _) (.cells #[.int .i64 x1, .int .i64 0] 3)) HR3.out.lt)
  have HH4 := hide (HH3.out.below ((Below.refl _ _).alloc (Nat.le_refl _) (.cells #[.int .i64 x1, .int .i64 0] 3)))
  go_wp2_with fail
  refine (wnums2 w0.heap.size b w3.heap.size x1 0 sSJ _ HW4.out (by rw [World.size_alloc]; omega) HG4.out (by omega) (by rw [sSJ_size]; omega)).mono ?_
  rintro e w5 ⟨rfl, hw5, hk5⟩
  have HW5 := hide hw5
  have HK5 := hide (HK4.out.trans hk5)
  have HR5 := hide (HR4.out.kw hk5 HN.out (by decide))
  have HH5 := hide (HH4.out.kw hk5 HN2.out)
  have hB5 : w0.heap.size ≤ w5.heap.size := by have := hk5.size; rw [World.size_alloc] at this; omega
  clear hw5 hk5 HW4 HK4 HR4 HH4 HG4 HW3 HK3 HR3 HH3 c0 c1 hbl3 hB4
  have hsz : (sSJ ++ (numI x1 ++ numI 0)).size ≤ 18 := by simp only [ByteArray.size_append, sSJ_size]; omega
  obtain ⟨d0, d1, d2, d3⟩ := HH5.out.cells
  obtain ⟨c0, c1, c2, c3, c4, c5, c6, c7, c8, c9, c10, c11, c12, c13⟩ := HR5.out.cells
  simp only at c0 c1 c2 c3 c4 c5 c6 c7 c8 c9 c10 c11 c12 c13
  have hzv : (volB x3 x4 x5 xl).size ≤ 200 := by
    unfold volB
    simp only [ByteArray.size_append]
    have := numI_8 x3
    have := numI_8 x4
    have := numI_8 x5
    have := locB_8 xl
    have := HL.out
    omega
  have HV := hide (wvol_any w0 b x3 x4 x5 a xl.length c xl (sSJ ++ (numI x1 ++ numI 0)) w5 HW5.out (H0.out.trans HK5.out.low) rfl (by have := HL.out; omega) HS.out (by omega))
  go_wp2_with fail
  refine HV.out.mono ?_
  rintro e w6 ⟨rfl, hw6, hk6⟩
  have HW6 := hide hw6
  have HK6 := hide (HK5.out.trans hk6)
  have HR6 := hide (HR5.out.kw hk6 HN.out (by decide))
  have HH6 := hide (HH5.out.kw hk6 HN2.out)
  have hB6 : w0.heap.size ≤ w6.heap.size := Nat.le_trans hB5 hk6.size
  clear hw6 hk6 HW5 HK5 HR5 HH5 HV d0 d1 d2 d3 c0 c1 c2 c3 c4 c5 c6 c7 c8 c9 c10 c11 c12 c13
  obtain ⟨d0, d1, d2, d3⟩ := HH6.out.cells
  obtain ⟨c0, c1, c2, c3, c4, c5, c6, c7, c8, c9, c10, c11, c12, c13⟩ := HR6.out.cells
  simp only at c0 c1 c2 c3 c4 c5 c6 c7 c8 c9 c10 c11 c12 c13
  have HV := hide (went_any w0 b x6 x7 x8 x9 x10 (sSJ ++ (numI x1 ++ numI 0) ++ volB x3 x4 x5 xl) w6 HW6.out hB6 (by omega) (by omega) (by rw [ByteArray.size_append]; omega))
  go_wp2_with fail
  refine HV.out.mono ?_
  rintro e w7 ⟨rfl, hw7, hk7⟩
  have HW7 := hide hw7
  have HK7 := hide (HK6.out.trans hk7)
  have HH7 := hide (HH6.out.kw hk7 HN2.out)
  clear hw7 hk7 HV d0 d1 d2 d3
  obtain ⟨d0, d1, d2, d3⟩ := HH7.out.cells
  have HQ : Hid (sSJ ++ (numI x1 ++ numI 0) ++ volB x3 x4 x5 xl ++ (textS x6 ++ (numI x8 ++ (numI x9 ++ x10))) = sSJ ++ (numI x1 ++ (numI 0 ++ (volB x3 x4 x5 xl ++ (textS x6 ++ (numI x8 ++ (numI x9 ++ x10))))))) := by unfold Hid; simp only [bapp]
  rw [HQ.out] at HW7
  go_wp2_with fail
  go_end0
  exact ⟨rfl, HW7.out, HK7.out⟩
set_option maxRecDepth 100000 in
set_option maxHeartbeats 8000000 in
theorem wrec1 (w0 : World) (b : Nat) (x1 x3 x4 x5 : Int) (xl : List (Int × Int)) (x6 : ByteArray) (x7 x8 x9 : Int) (x10 x11 : ByteArray) (x12 x13 : Int) (a : Option Addr) (c : Nat) (w : World) (hw : Wt w0.heap.size b ByteArray.empty w) (h0 : Below w0.heap.size w0 w) (hS : LocsAt w0 a xl) (hk11 : x11.size ≤ 1000) :
    Calls Try.prog 32 #[.pointer (some ⟨b, 0, none⟩), .agg (rcs ⟨x1, 1, x3, x4, x5, xl, x6, x7, x8, x9, x10, x11, x12, x13⟩ a c)] w fun e w' => e = .returned (.tuple #[]) ∧ Wt w0.heap.size b (sSJ ++ (numI x1 ++ (numI 1 ++ textS x11))) w' ∧ Kw w0.heap.size b w w' := by
  have hbl := hw.lt
  have hB := h0.size
  have HS := hide hS
  have H0 := hide h0
  have HW1 := hide (hw.alloc (.cells (rcs ⟨x1, 1, x3, x4, x5, xl, x6, x7, x8, x9, x10, x11, x12, x13⟩ a c) 55))
  have HK1 := hide (kw_alloc (b := b) (w := w) (.cells (rcs ⟨x1, 1, x3, x4, x5, xl, x6, x7, x8, x9, x10, x11, x12, x13⟩ a c) 55) hB)
  have HR1 := hide (rbx_new 55 ⟨x1, 1, x3, x4, x5, xl, x6, x7, x8, x9, x10, x11, x12, x13⟩ a c w)
  have HP : Hid (∀ w, Calls Try.prog 49 #[.int .i64 1] w fun r w' => r = .returned (.agg #[.bool false, .bool false, .bool true, .bool false]) ∧ Below w.heap.size w w') := fun w => by
    have := partsOf_any 1 w
    simp [prt] at this
    exact this
  have hB1 : w0.heap.size ≤ (w.alloc (.cells (rcs ⟨x1, 1, x3, x4, x5, xl, x6, x7, x8, x9, x10, x11, x12, x13⟩ a c) 55)).heap.size := by rw [World.size_alloc]; omega
  have HN : Hid (w.heap.size ≠ b) := by unfold Hid; omega
  have h8a := numI_8 x1
  have h8b := numI_8 1
  skip
  clear hw h0 hS
  have HT : Hid (∀ w, Calls Try.prog 60 #[.string x11] w fun e w2 => e = .returned (.string (textS x11)) ∧ Below w.heap.size w w2) := fun w => ptext_any x11 w (by omega)
  have hbt : (textS x11).size ≤ 1008 := textS_le hk11 (by omega)
  generalize textS x11 = tx at *
  simp only [rcs] at HW1 HK1 hB1 ⊢
  go_enter Try.func32, Try.ntmps32
  go_upto_region 1 with fail
  change Code.wp _ _ _ _ (w.alloc (.cells #[.int .i64 x1, .int .i64 1, .int .i64 x3, .int .i64 x4, .int .i64 x5, .slice a xl.length c, .string x6, .int .i64 x7, .int .i64 x8, .int .i64 x9, .string x10, .string x11, .int .i64 x12, .int .i64 x13] 55))
  have HR1' : Hid (RBx w.heap.size 55 ⟨x1, 1, x3, x4, x5, xl, x6, x7, x8, x9, x10, x11, x12, x13⟩ a c (w.alloc (.cells #[.int .i64 x1, .int .i64 1, .int .i64 x3, .int .i64 x4, .int .i64 x5, .slice a xl.length c, .string x6, .int .i64 x7, .int .i64 x8, .int .i64 x9, .string x10, .string x11, .int .i64 x12, .int .i64 x13] 55))) := HR1.out
  clear HR1
  generalize w.alloc (.cells #[.int .i64 x1, .int .i64 1, .int .i64 x3, .int .i64 x4, .int .i64 x5, .slice a xl.length c, .string x6, .int .i64 x7, .int .i64 x8, .int .i64 x9, .string x10, .string x11, .int .i64 x12, .int .i64 x13] 55) = W1 at *
  have HS1 : Hid (w.heap.size < W1.heap.size) := HR1'.out.lt
  generalize w.heap.size = bx at *
  have c1 := HR1'.out.c1
  simp only at c1
  go_wp2_with fail
  refine (HP.out W1).mono ?_
  rintro e w2 ⟨rfl, hb2⟩
  have HW2 := hide ((HW1.out.below hb2).alloc (.cells #[.bool false, .bool false, .bool true, .bool false] 94))
  have hB2 : w0.heap.size ≤ w2.heap.size := Nat.le_trans hB1 hb2.size
  have HK2 := hide ((HK1.out.trans (Kw.of_below hb2 hB1)).trans (kw_alloc (b := b) (w := w2) (.cells #[.bool false, .bool false, .bool true, .bool false] 94) hB2))
  have HR2 := hide ((HR1'.out.below hb2 HR1'.out.lt).below ((Below.refl _ _).alloc (Nat.le_refl _) (.cells #[.bool false, .bool false, .bool true, .bool false] 94)) (Nat.lt_of_lt_of_le HS1.out hb2.size))
  have HH2 : Hid (HBx w2.heap.size false false true false (w2.alloc (.cells #[.bool false, .bool false, .bool true, .bool false] 94))) := heap_alloc_new _ _
  have HN2 : Hid (w2.heap.size ≠ b) := by unfold Hid; have h1 := HW1.out.lt; have h2 := hb2.size; omega
  have hB3 : w0.heap.size ≤ (w2.alloc (.cells #[.bool false, .bool false, .bool true, .bool false] 94)).heap.size := by rw [World.size_alloc]; omega
  clear hb2 HW1 HK1 HR1' HP c1 HS1 hB2 hB1
  go_wp2_with fail
  generalize w2.alloc (.cells #[.bool false, .bool false, .bool true, .bool false] 94) = W2 at *
  generalize w2.heap.size = hx at *
  refine (wstr_any w0.heap.size b ByteArray.empty sSJ W2 HW2.out (by rw [sSJ_size]; simp) hB3).mono ?_
  rintro e w3 ⟨rfl, hw3, hk3⟩
  rw [nil_app] at hw3
  have HW3 := hide hw3
  have HK3 := hide (HK2.out.trans hk3)
  have HR3 := hide (HR2.out.kw hk3 HN.out (by decide))
  have HH3 := hide (HH2.out.kw hk3 HN2.out)
  have hB4 : w0.heap.size ≤ w3.heap.size := Nat.le_trans hB3 hk3.size
  clear hw3 hk3 HW2 HK2 HR2 HH2 hB3
  have c0 := HR3.out.c0
  have c1 := HR3.out.c1
  simp only at c0 c1
  have hbl3 := HW3.out.lt
  have HW4 := hide (HW3.out.alloc (.cells #[.int .i64 x1, .int .i64 1] 3))
  have HK4 := hide (HK3.out.trans (kw_alloc (b := b) (w := w3) (.cells #[.int .i64 x1, .int .i64 1] 3) hB4))
  have HG4 : Hid ((w3.alloc (.cells #[.int .i64 x1, .int .i64 1] 3)).heap[w3.heap.size]? = some (.cells #[.int .i64 x1, .int .i64 1] 3 (0, 0))) := heap_alloc_new _ _
  have HR4 := hide (HR3.out.below ((Below.refl _ _).alloc (Nat.le_refl _) (.cells #[.int .i64 x1, .int .i64 1] 3)) HR3.out.lt)
  have HH4 := hide (HH3.out.below ((Below.refl _ _).alloc (Nat.le_refl _) (.cells #[.int .i64 x1, .int .i64 1] 3)))
  go_wp2_with fail
  refine (wnums2 w0.heap.size b w3.heap.size x1 1 sSJ _ HW4.out (by rw [World.size_alloc]; omega) HG4.out (by omega) (by rw [sSJ_size]; omega)).mono ?_
  rintro e w5 ⟨rfl, hw5, hk5⟩
  have HW5 := hide hw5
  have HK5 := hide (HK4.out.trans hk5)
  have HR5 := hide (HR4.out.kw hk5 HN.out (by decide))
  have HH5 := hide (HH4.out.kw hk5 HN2.out)
  have hB5 : w0.heap.size ≤ w5.heap.size := by have := hk5.size; rw [World.size_alloc] at this; omega
  clear hw5 hk5 HW4 HK4 HR4 HH4 HG4 HW3 HK3 HR3 HH3 c0 c1 hbl3 hB4
  have hsz : (sSJ ++ (numI x1 ++ numI 1)).size ≤ 18 := by simp only [ByteArray.size_append, sSJ_size]; omega
  obtain ⟨d0, d1, d2, d3⟩ := HH5.out.cells
  obtain ⟨c0, c1, c2, c3, c4, c5, c6, c7, c8, c9, c10, c11, c12, c13⟩ := HR5.out.cells
  simp only at c0 c1 c2 c3 c4 c5 c6 c7 c8 c9 c10 c11 c12 c13
  have HQ : Hid (sSJ ++ (numI x1 ++ numI 1) ++ tx = sSJ ++ (numI x1 ++ (numI 1 ++ tx))) := by unfold Hid; simp only [bapp]
  generalize sSJ ++ (numI x1 ++ numI 1) = U at *
  go_upto_region 9 with fail
  refine wp_region_noPanic ?_
  refine wp_region_held_drew (S := RBx bx 55 ⟨x1, 1, x3, x4, x5, xl, x6, x7, x8, x9, x10, x11, x12, x13⟩ a c) (by kernel_rfl) HR5.out (fun hHeld => ?_)
  refine wpAnyH_take (i := 0) (v := ?v11) rfl (by kernel_rfl) (by kernel_rfl) (by kernel_rfl) (fun _ _ _ h => h) (Or.inl ⟨by rfl, ?hy11⟩) hHeld ?rest11
  case hy11 => (intro w' hSw; go_simp; try with_reducible rfl)
  try simp [Act.put]
  refine wpAnyH_take (i := 1) (v := ?v12) rfl (by kernel_rfl) (by kernel_rfl) (by kernel_rfl) (fun _ _ _ h => h) (Or.inl ⟨by rfl, ?hy12⟩) hHeld ?rest12
  case hy12 => (intro w' hSw; go_simp; try with_reducible rfl)
  try simp [Act.put]
  refine wpAnyH_take (i := 2) (v := ?v13) rfl (by kernel_rfl) (by kernel_rfl) (by kernel_rfl) (fun _ _ _ h => h) (Or.inl ⟨by rfl, ?hy13⟩) hHeld ?rest13
  case hy13 => (intro w' hSw; go_simp; try with_reducible rfl)
  try simp [Act.put]
  refine wpAnyH_take (i := 3) (v := ?v14) rfl (by kernel_rfl) (by kernel_rfl) (by kernel_rfl) (fun _ _ _ h => h) (Or.inl ⟨by rfl, ?hy14⟩) hHeld ?rest14
  case hy14 => (intro w' hSw; go_simp; try with_reducible rfl)
  try simp [Act.put]
  refine wpAnyH_take (i := 4) (v := ?v15) rfl (by kernel_rfl) (by kernel_rfl) (by kernel_rfl) (fun _ _ _ h => h) (Or.inl ⟨by rfl, ?hy15⟩) hHeld ?rest15
  case hy15 => (intro w' hSw; have s0 := RBx.c11 hSw; simp only at s0; go_simp; try with_reducible rfl)
  try simp [Act.put]
  refine wpAnyH_ready (rs := [5]) (by kernel_rfl) (by simp) ?_
  refine AllReadyH.cons rfl (fun K hK => ?_) AllReadyH.nil
  go_simp
  refine (HT.out _).mono ?_
  rintro e w6 ⟨rfl, hb6⟩
  have hbd : Below w5.heap.size w5 w6 := (drew_below w5).trans hb6
  have HW6 := hide (HW5.out.below hbd)
  have HK6 := hide (HK5.out.trans (Kw.of_below hbd hB5))
  have HR6 := hide (HR5.out.below hbd HR5.out.lt)
  have HH6 := hide (HH5.out.below hbd)
  have hB6 : w0.heap.size ≤ w6.heap.size := Nat.le_trans hB5 hbd.size
  refine hK.out _ _ HR6.out (fun hHeld => ?_)
  clear hK K hb6 hbd
  try simp [Act.put]
  refine wpAnyH_ready (rs := [6]) (by kernel_rfl) (by simp) ?_
  refine AllReadyH.cons rfl (fun K hK => ?_) AllReadyH.nil
  go_simp
  refine (wstr_any w0.heap.size b U tx w6 HW6.out (by omega) hB6).mono ?_
  rintro e w7 ⟨rfl, hw7, hk7⟩
  have HW7 := hide hw7
  have HK7 := hide (HK6.out.trans hk7)
  have HR7 := hide (HR6.out.kw hk7 HN.out (by decide))
  have HH7 := hide (HH6.out.kw hk7 HN2.out)
  refine hK.out _ _ HR7.out (fun hHeld => ?_)
  clear hK K hw7 hk7 d0 d1 d2 d3
  try simp [Act.put]
  refine wpAnyH_done (by kernel_rfl) (NoPanic.normal ?_) _
  obtain ⟨d0, d1, d2, d3⟩ := HH7.out.cells
  rw [HQ.out] at HW7
  go_wp2_with fail
  go_end0
  exact ⟨rfl, HW7.out, HK7.out⟩
set_option maxRecDepth 100000 in
set_option maxHeartbeats 8000000 in
theorem wrec2 (w0 : World) (b : Nat) (x1 x3 x4 x5 : Int) (xl : List (Int × Int)) (x6 : ByteArray) (x7 x8 x9 : Int) (x10 x11 : ByteArray) (x12 x13 : Int) (a : Option Addr) (c : Nat) (w : World) (hw : Wt w0.heap.size b ByteArray.empty w) (h0 : Below w0.heap.size w0 w) (hS : LocsAt w0 a xl) (hl : xl.length = 9) :
    Calls Try.prog 32 #[.pointer (some ⟨b, 0, none⟩), .agg (rcs ⟨x1, 2, x3, x4, x5, xl, x6, x7, x8, x9, x10, x11, x12, x13⟩ a c)] w fun e w' => e = .returned (.tuple #[]) ∧ Wt w0.heap.size b (sSJ ++ (numI x1 ++ (numI 2 ++ volB x3 x4 x5 xl))) w' ∧ Kw w0.heap.size b w w' := by
  have hbl := hw.lt
  have hB := h0.size
  have HS := hide hS
  have H0 := hide h0
  have HW1 := hide (hw.alloc (.cells (rcs ⟨x1, 2, x3, x4, x5, xl, x6, x7, x8, x9, x10, x11, x12, x13⟩ a c) 55))
  have HK1 := hide (kw_alloc (b := b) (w := w) (.cells (rcs ⟨x1, 2, x3, x4, x5, xl, x6, x7, x8, x9, x10, x11, x12, x13⟩ a c) 55) hB)
  have HR1 := hide (rbx_new 55 ⟨x1, 2, x3, x4, x5, xl, x6, x7, x8, x9, x10, x11, x12, x13⟩ a c w)
  have HP : Hid (∀ w, Calls Try.prog 49 #[.int .i64 2] w fun r w' => r = .returned (.agg #[.bool true, .bool false, .bool false, .bool false]) ∧ Below w.heap.size w w') := fun w => by
    have := partsOf_any 2 w
    simp [prt] at this
    exact this
  have hB1 : w0.heap.size ≤ (w.alloc (.cells (rcs ⟨x1, 2, x3, x4, x5, xl, x6, x7, x8, x9, x10, x11, x12, x13⟩ a c) 55)).heap.size := by rw [World.size_alloc]; omega
  have HN : Hid (w.heap.size ≠ b) := by unfold Hid; omega
  have h8a := numI_8 x1
  have h8b := numI_8 2
  have HL := hide hl
  clear hw h0 hS hl
  skip
  skip
  skip
  simp only [rcs] at HW1 HK1 hB1 ⊢
  go_enter Try.func32, Try.ntmps32
  go_upto_region 1 with fail
  change Code.wp _ _ _ _ (w.alloc (.cells #[.int .i64 x1, .int .i64 2, .int .i64 x3, .int .i64 x4, .int .i64 x5, .slice a xl.length c, .string x6, .int .i64 x7, .int .i64 x8, .int .i64 x9, .string x10, .string x11, .int .i64 x12, .int .i64 x13] 55))
  have HR1' : Hid (RBx w.heap.size 55 ⟨x1, 2, x3, x4, x5, xl, x6, x7, x8, x9, x10, x11, x12, x13⟩ a c (w.alloc (.cells #[.int .i64 x1, .int .i64 2, .int .i64 x3, .int .i64 x4, .int .i64 x5, .slice a xl.length c, .string x6, .int .i64 x7, .int .i64 x8, .int .i64 x9, .string x10, .string x11, .int .i64 x12, .int .i64 x13] 55))) := HR1.out
  clear HR1
  generalize w.alloc (.cells #[.int .i64 x1, .int .i64 2, .int .i64 x3, .int .i64 x4, .int .i64 x5, .slice a xl.length c, .string x6, .int .i64 x7, .int .i64 x8, .int .i64 x9, .string x10, .string x11, .int .i64 x12, .int .i64 x13] 55) = W1 at *
  have HS1 : Hid (w.heap.size < W1.heap.size) := HR1'.out.lt
  generalize w.heap.size = bx at *
  have c1 := HR1'.out.c1
  simp only at c1
  go_wp2_with fail
  refine (HP.out W1).mono ?_
  rintro e w2 ⟨rfl, hb2⟩
  have HW2 := hide ((HW1.out.below hb2).alloc (.cells #[.bool true, .bool false, .bool false, .bool false] 94))
  have hB2 : w0.heap.size ≤ w2.heap.size := Nat.le_trans hB1 hb2.size
  have HK2 := hide ((HK1.out.trans (Kw.of_below hb2 hB1)).trans (kw_alloc (b := b) (w := w2) (.cells #[.bool true, .bool false, .bool false, .bool false] 94) hB2))
  have HR2 := hide ((HR1'.out.below hb2 HR1'.out.lt).below ((Below.refl _ _).alloc (Nat.le_refl _) (.cells #[.bool true, .bool false, .bool false, .bool false] 94)) (Nat.lt_of_lt_of_le HS1.out hb2.size))
  have HH2 : Hid (HBx w2.heap.size true false false false (w2.alloc (.cells #[.bool true, .bool false, .bool false, .bool false] 94))) := heap_alloc_new _ _
  have HN2 : Hid (w2.heap.size ≠ b) := by unfold Hid; have h1 := HW1.out.lt; have h2 := hb2.size; omega
  have hB3 : w0.heap.size ≤ (w2.alloc (.cells #[.bool true, .bool false, .bool false, .bool false] 94)).heap.size := by rw [World.size_alloc]; omega
  clear hb2 HW1 HK1 HR1' HP c1 HS1 hB2 hB1
  go_wp2_with fail
  generalize w2.alloc (.cells #[.bool true, .bool false, .bool false, .bool false] 94) = W2 at *
  generalize w2.heap.size = hx at *
  refine (wstr_any w0.heap.size b ByteArray.empty sSJ W2 HW2.out (by rw [sSJ_size]; simp) hB3).mono ?_
  rintro e w3 ⟨rfl, hw3, hk3⟩
  rw [nil_app] at hw3
  have HW3 := hide hw3
  have HK3 := hide (HK2.out.trans hk3)
  have HR3 := hide (HR2.out.kw hk3 HN.out (by decide))
  have HH3 := hide (HH2.out.kw hk3 HN2.out)
  have hB4 : w0.heap.size ≤ w3.heap.size := Nat.le_trans hB3 hk3.size
  clear hw3 hk3 HW2 HK2 HR2 HH2 hB3
  have c0 := HR3.out.c0
  have c1 := HR3.out.c1
  simp only at c0 c1
  have hbl3 := HW3.out.lt
  have HW4 := hide (HW3.out.alloc (.cells #[.int .i64 x1, .int .i64 2] 3))
  have HK4 := hide (HK3.out.trans (kw_alloc (b := b) (w := w3) (.cells #[.int .i64 x1, .int .i64 2] 3) hB4))
  have HG4 : Hid ((w3.alloc (.cells #[.int .i64 x1, .int .i64 2] 3)).heap[w3.heap.size]? = some (.cells #[.int .i64 x1, .int .i64 2] 3 (0, 0))) := heap_alloc_new _ _
  have HR4 := hide (HR3.out.below ((Below.refl _ _).alloc (Nat.le_refl _) (.cells #[.int .i64 x1, .int .i64 2] 3)) HR3.out.lt)
  have HH4 := hide (HH3.out.below ((Below.refl _ _).alloc (Nat.le_refl _) (.cells #[.int .i64 x1, .int .i64 2] 3)))
  go_wp2_with fail
  refine (wnums2 w0.heap.size b w3.heap.size x1 2 sSJ _ HW4.out (by rw [World.size_alloc]; omega) HG4.out (by omega) (by rw [sSJ_size]; omega)).mono ?_
  rintro e w5 ⟨rfl, hw5, hk5⟩
  have HW5 := hide hw5
  have HK5 := hide (HK4.out.trans hk5)
  have HR5 := hide (HR4.out.kw hk5 HN.out (by decide))
  have HH5 := hide (HH4.out.kw hk5 HN2.out)
  have hB5 : w0.heap.size ≤ w5.heap.size := by have := hk5.size; rw [World.size_alloc] at this; omega
  clear hw5 hk5 HW4 HK4 HR4 HH4 HG4 HW3 HK3 HR3 HH3 c0 c1 hbl3 hB4
  have hsz : (sSJ ++ (numI x1 ++ numI 2)).size ≤ 18 := by simp only [ByteArray.size_append, sSJ_size]; omega
  obtain ⟨d0, d1, d2, d3⟩ := HH5.out.cells
  obtain ⟨c0, c1, c2, c3, c4, c5, c6, c7, c8, c9, c10, c11, c12, c13⟩ := HR5.out.cells
  simp only at c0 c1 c2 c3 c4 c5 c6 c7 c8 c9 c10 c11 c12 c13
  have hzv : (volB x3 x4 x5 xl).size ≤ 200 := by
    unfold volB
    simp only [ByteArray.size_append]
    have := numI_8 x3
    have := numI_8 x4
    have := numI_8 x5
    have := locB_8 xl
    have := HL.out
    omega
  have HV := hide (wvol_any w0 b x3 x4 x5 a xl.length c xl (sSJ ++ (numI x1 ++ numI 2)) w5 HW5.out (H0.out.trans HK5.out.low) rfl (by have := HL.out; omega) HS.out (by omega))
  go_wp2_with fail
  refine HV.out.mono ?_
  rintro e w6 ⟨rfl, hw6, hk6⟩
  have HW6 := hide hw6
  have HK6 := hide (HK5.out.trans hk6)
  have HR6 := hide (HR5.out.kw hk6 HN.out (by decide))
  have HH6 := hide (HH5.out.kw hk6 HN2.out)
  have hB6 : w0.heap.size ≤ w6.heap.size := Nat.le_trans hB5 hk6.size
  clear hw6 hk6 HW5 HK5 HR5 HH5 HV d0 d1 d2 d3 c0 c1 c2 c3 c4 c5 c6 c7 c8 c9 c10 c11 c12 c13
  obtain ⟨d0, d1, d2, d3⟩ := HH6.out.cells
  obtain ⟨c0, c1, c2, c3, c4, c5, c6, c7, c8, c9, c10, c11, c12, c13⟩ := HR6.out.cells
  simp only at c0 c1 c2 c3 c4 c5 c6 c7 c8 c9 c10 c11 c12 c13
  have HQ : Hid (sSJ ++ (numI x1 ++ numI 2) ++ volB x3 x4 x5 xl = sSJ ++ (numI x1 ++ (numI 2 ++ volB x3 x4 x5 xl))) := by unfold Hid; simp only [bapp]
  rw [HQ.out] at HW6
  go_wp2_with fail
  go_end0
  exact ⟨rfl, HW6.out, HK6.out⟩
set_option maxRecDepth 100000 in
set_option maxHeartbeats 8000000 in
theorem wrec3 (w0 : World) (b : Nat) (x1 x3 x4 x5 : Int) (xl : List (Int × Int)) (x6 : ByteArray) (x7 x8 x9 : Int) (x10 x11 : ByteArray) (x12 x13 : Int) (a : Option Addr) (c : Nat) (w : World) (hw : Wt w0.heap.size b ByteArray.empty w) (h0 : Below w0.heap.size w0 w) (hS : LocsAt w0 a xl) (hl : xl.length = 9) :
    Calls Try.prog 32 #[.pointer (some ⟨b, 0, none⟩), .agg (rcs ⟨x1, 3, x3, x4, x5, xl, x6, x7, x8, x9, x10, x11, x12, x13⟩ a c)] w fun e w' => e = .returned (.tuple #[]) ∧ Wt w0.heap.size b (sSJ ++ (numI x1 ++ (numI 3 ++ (volB x3 x4 x5 xl ++ (numI x12 ++ numI x13))))) w' ∧ Kw w0.heap.size b w w' := by
  have hbl := hw.lt
  have hB := h0.size
  have HS := hide hS
  have H0 := hide h0
  have HW1 := hide (hw.alloc (.cells (rcs ⟨x1, 3, x3, x4, x5, xl, x6, x7, x8, x9, x10, x11, x12, x13⟩ a c) 55))
  have HK1 := hide (kw_alloc (b := b) (w := w) (.cells (rcs ⟨x1, 3, x3, x4, x5, xl, x6, x7, x8, x9, x10, x11, x12, x13⟩ a c) 55) hB)
  have HR1 := hide (rbx_new 55 ⟨x1, 3, x3, x4, x5, xl, x6, x7, x8, x9, x10, x11, x12, x13⟩ a c w)
  have HP : Hid (∀ w, Calls Try.prog 49 #[.int .i64 3] w fun r w' => r = .returned (.agg #[.bool true, .bool false, .bool false, .bool true]) ∧ Below w.heap.size w w') := fun w => by
    have := partsOf_any 3 w
    simp [prt] at this
    exact this
  have hB1 : w0.heap.size ≤ (w.alloc (.cells (rcs ⟨x1, 3, x3, x4, x5, xl, x6, x7, x8, x9, x10, x11, x12, x13⟩ a c) 55)).heap.size := by rw [World.size_alloc]; omega
  have HN : Hid (w.heap.size ≠ b) := by unfold Hid; omega
  have h8a := numI_8 x1
  have h8b := numI_8 3
  have HL := hide hl
  clear hw h0 hS hl
  skip
  skip
  skip
  simp only [rcs] at HW1 HK1 hB1 ⊢
  go_enter Try.func32, Try.ntmps32
  go_upto_region 1 with fail
  change Code.wp _ _ _ _ (w.alloc (.cells #[.int .i64 x1, .int .i64 3, .int .i64 x3, .int .i64 x4, .int .i64 x5, .slice a xl.length c, .string x6, .int .i64 x7, .int .i64 x8, .int .i64 x9, .string x10, .string x11, .int .i64 x12, .int .i64 x13] 55))
  have HR1' : Hid (RBx w.heap.size 55 ⟨x1, 3, x3, x4, x5, xl, x6, x7, x8, x9, x10, x11, x12, x13⟩ a c (w.alloc (.cells #[.int .i64 x1, .int .i64 3, .int .i64 x3, .int .i64 x4, .int .i64 x5, .slice a xl.length c, .string x6, .int .i64 x7, .int .i64 x8, .int .i64 x9, .string x10, .string x11, .int .i64 x12, .int .i64 x13] 55))) := HR1.out
  clear HR1
  generalize w.alloc (.cells #[.int .i64 x1, .int .i64 3, .int .i64 x3, .int .i64 x4, .int .i64 x5, .slice a xl.length c, .string x6, .int .i64 x7, .int .i64 x8, .int .i64 x9, .string x10, .string x11, .int .i64 x12, .int .i64 x13] 55) = W1 at *
  have HS1 : Hid (w.heap.size < W1.heap.size) := HR1'.out.lt
  generalize w.heap.size = bx at *
  have c1 := HR1'.out.c1
  simp only at c1
  go_wp2_with fail
  refine (HP.out W1).mono ?_
  rintro e w2 ⟨rfl, hb2⟩
  have HW2 := hide ((HW1.out.below hb2).alloc (.cells #[.bool true, .bool false, .bool false, .bool true] 94))
  have hB2 : w0.heap.size ≤ w2.heap.size := Nat.le_trans hB1 hb2.size
  have HK2 := hide ((HK1.out.trans (Kw.of_below hb2 hB1)).trans (kw_alloc (b := b) (w := w2) (.cells #[.bool true, .bool false, .bool false, .bool true] 94) hB2))
  have HR2 := hide ((HR1'.out.below hb2 HR1'.out.lt).below ((Below.refl _ _).alloc (Nat.le_refl _) (.cells #[.bool true, .bool false, .bool false, .bool true] 94)) (Nat.lt_of_lt_of_le HS1.out hb2.size))
  have HH2 : Hid (HBx w2.heap.size true false false true (w2.alloc (.cells #[.bool true, .bool false, .bool false, .bool true] 94))) := heap_alloc_new _ _
  have HN2 : Hid (w2.heap.size ≠ b) := by unfold Hid; have h1 := HW1.out.lt; have h2 := hb2.size; omega
  have hB3 : w0.heap.size ≤ (w2.alloc (.cells #[.bool true, .bool false, .bool false, .bool true] 94)).heap.size := by rw [World.size_alloc]; omega
  clear hb2 HW1 HK1 HR1' HP c1 HS1 hB2 hB1
  go_wp2_with fail
  generalize w2.alloc (.cells #[.bool true, .bool false, .bool false, .bool true] 94) = W2 at *
  generalize w2.heap.size = hx at *
  refine (wstr_any w0.heap.size b ByteArray.empty sSJ W2 HW2.out (by rw [sSJ_size]; simp) hB3).mono ?_
  rintro e w3 ⟨rfl, hw3, hk3⟩
  rw [nil_app] at hw3
  have HW3 := hide hw3
  have HK3 := hide (HK2.out.trans hk3)
  have HR3 := hide (HR2.out.kw hk3 HN.out (by decide))
  have HH3 := hide (HH2.out.kw hk3 HN2.out)
  have hB4 : w0.heap.size ≤ w3.heap.size := Nat.le_trans hB3 hk3.size
  clear hw3 hk3 HW2 HK2 HR2 HH2 hB3
  have c0 := HR3.out.c0
  have c1 := HR3.out.c1
  simp only at c0 c1
  have hbl3 := HW3.out.lt
  have HW4 := hide (HW3.out.alloc (.cells #[.int .i64 x1, .int .i64 3] 3))
  have HK4 := hide (HK3.out.trans (kw_alloc (b := b) (w := w3) (.cells #[.int .i64 x1, .int .i64 3] 3) hB4))
  have HG4 : Hid ((w3.alloc (.cells #[.int .i64 x1, .int .i64 3] 3)).heap[w3.heap.size]? = some (.cells #[.int .i64 x1, .int .i64 3] 3 (0, 0))) := heap_alloc_new _ _
  have HR4 := hide (HR3.out.below ((Below.refl _ _).alloc (Nat.le_refl _) (.cells #[.int .i64 x1, .int .i64 3] 3)) HR3.out.lt)
  have HH4 := hide (HH3.out.below ((Below.refl _ _).alloc (Nat.le_refl _) (.cells #[.int .i64 x1, .int .i64 3] 3)))
  go_wp2_with fail
  refine (wnums2 w0.heap.size b w3.heap.size x1 3 sSJ _ HW4.out (by rw [World.size_alloc]; omega) HG4.out (by omega) (by rw [sSJ_size]; omega)).mono ?_
  rintro e w5 ⟨rfl, hw5, hk5⟩
  have HW5 := hide hw5
  have HK5 := hide (HK4.out.trans hk5)
  have HR5 := hide (HR4.out.kw hk5 HN.out (by decide))
  have HH5 := hide (HH4.out.kw hk5 HN2.out)
  have hB5 : w0.heap.size ≤ w5.heap.size := by have := hk5.size; rw [World.size_alloc] at this; omega
  clear hw5 hk5 HW4 HK4 HR4 HH4 HG4 HW3 HK3 HR3 HH3 c0 c1 hbl3 hB4
  have hsz : (sSJ ++ (numI x1 ++ numI 3)).size ≤ 18 := by simp only [ByteArray.size_append, sSJ_size]; omega
  obtain ⟨d0, d1, d2, d3⟩ := HH5.out.cells
  obtain ⟨c0, c1, c2, c3, c4, c5, c6, c7, c8, c9, c10, c11, c12, c13⟩ := HR5.out.cells
  simp only at c0 c1 c2 c3 c4 c5 c6 c7 c8 c9 c10 c11 c12 c13
  have hzv : (volB x3 x4 x5 xl).size ≤ 200 := by
    unfold volB
    simp only [ByteArray.size_append]
    have := numI_8 x3
    have := numI_8 x4
    have := numI_8 x5
    have := locB_8 xl
    have := HL.out
    omega
  have HV := hide (wvol_any w0 b x3 x4 x5 a xl.length c xl (sSJ ++ (numI x1 ++ numI 3)) w5 HW5.out (H0.out.trans HK5.out.low) rfl (by have := HL.out; omega) HS.out (by omega))
  go_wp2_with fail
  refine HV.out.mono ?_
  rintro e w6 ⟨rfl, hw6, hk6⟩
  have HW6 := hide hw6
  have HK6 := hide (HK5.out.trans hk6)
  have HR6 := hide (HR5.out.kw hk6 HN.out (by decide))
  have HH6 := hide (HH5.out.kw hk6 HN2.out)
  have hB6 : w0.heap.size ≤ w6.heap.size := Nat.le_trans hB5 hk6.size
  clear hw6 hk6 HW5 HK5 HR5 HH5 HV d0 d1 d2 d3 c0 c1 c2 c3 c4 c5 c6 c7 c8 c9 c10 c11 c12 c13
  obtain ⟨d0, d1, d2, d3⟩ := HH6.out.cells
  obtain ⟨c0, c1, c2, c3, c4, c5, c6, c7, c8, c9, c10, c11, c12, c13⟩ := HR6.out.cells
  simp only at c0 c1 c2 c3 c4 c5 c6 c7 c8 c9 c10 c11 c12 c13
  have hbl6 := HW6.out.lt
  have HW7 := hide (HW6.out.alloc (.cells #[.int .i64 x12, .int .i64 x13] 3))
  have HK7 := hide (HK6.out.trans (kw_alloc (b := b) (w := w6) (.cells #[.int .i64 x12, .int .i64 x13] 3) hB6))
  have HG7 : Hid ((w6.alloc (.cells #[.int .i64 x12, .int .i64 x13] 3)).heap[w6.heap.size]? = some (.cells #[.int .i64 x12, .int .i64 x13] 3 (0, 0))) := heap_alloc_new _ _
  go_wp2_with fail
  refine (wnums2 w0.heap.size b w6.heap.size x12 x13 _ _ HW7.out (by rw [World.size_alloc]; omega) HG7.out (by omega) (by rw [ByteArray.size_append]; omega)).mono ?_
  rintro e w8 ⟨rfl, hw8, hk8⟩
  have HW8 := hide hw8
  have HK8 := hide (HK7.out.trans hk8)
  clear hw8 hk8
  have HQ : Hid (sSJ ++ (numI x1 ++ numI 3) ++ volB x3 x4 x5 xl ++ (numI x12 ++ numI x13) = sSJ ++ (numI x1 ++ (numI 3 ++ (volB x3 x4 x5 xl ++ (numI x12 ++ numI x13))))) := by unfold Hid; simp only [bapp]
  rw [HQ.out] at HW8
  go_wp2_with fail
  go_end0
  exact ⟨rfl, HW8.out, HK8.out⟩
theorem wrec_any (w0 : World) (b : Nat) (r : Rc) (a : Option Addr) (c : Nat) (w : World) (hw : Wt w0.heap.size b ByteArray.empty w) (h0 : Below w0.heap.size w0 w) (hS : LocsAt w0 a r.ls) (hc : ckR r = 0) :
    Calls Try.prog 32 #[.pointer (some ⟨b, 0, none⟩), .agg (rcs r a c)] w fun e w' => e = .returned (.tuple #[]) ∧ Wt w0.heap.size b (bodyR r) w' ∧ Kw w0.heap.size b w w' := by
  obtain ⟨hs, hk, _⟩ := ckR_zero.1 hc
  obtain ⟨x1, x2, x3, x4, x5, xl, x6, x7, x8, x9, x10, x11, x12, x13⟩ := r
  simp only at hS
  rcases kind_four hs with h | h | h | h <;> simp only at h <;> subst h
  · obtain ⟨hv, hkey, i1, i2, i3, i4, i5⟩ := (ckK_0 rfl).1 hk
    have := hkey.2.1
    simp only at i5 this
    exact wrec0 w0 b x1 x3 x4 x5 xl x6 x7 x8 x9 x10 x11 x12 x13 a c w hw h0 hS hv.2.2.2.1 (by omega) (by omega)
  · have hkey := (ckK_1 rfl).1 hk
    have := hkey.2.1
    simp only at this
    exact wrec1 w0 b x1 x3 x4 x5 xl x6 x7 x8 x9 x10 x11 x12 x13 a c w hw h0 hS (by omega)
  · have hv := (ckK_2 rfl).1 hk
    exact wrec2 w0 b x1 x3 x4 x5 xl x6 x7 x8 x9 x10 x11 x12 x13 a c w hw h0 hS hv.2.2.2.1
  · obtain ⟨hv, _⟩ := (ckK_3 rfl).1 hk
    exact wrec3 w0 b x1 x3 x4 x5 xl x6 x7 x8 x9 x10 x11 x12 x13 a c w hw h0 hS hv.2.2.2.1
end Go.Proofs.Ytaiafbihcfbglaa
