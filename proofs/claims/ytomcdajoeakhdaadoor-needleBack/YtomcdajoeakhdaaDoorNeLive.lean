/- Layer 8's law looks at some answers of the document: they are as they should be. -/
import Derived.Test.YtomcdajoeakhdaaDoorNeChain
namespace Go.Proofs.YtomcdajoeakhdaaDoor
open Go.RowKit
set_option linter.unusedVariables false
def sA : ByteArray := ⟨#[97]⟩
def sX : ByteArray := ⟨#[120]⟩
def sAB : ByteArray := ⟨#[97, 32, 98]⟩
def sABC : ByteArray := ⟨#[97, 98, 99]⟩
def n1 : Nd := ⟨sA, ByteArray.empty⟩
def n2 : Nd := ⟨sAB, ByteArray.empty⟩
def n3 : Nd := ⟨sA, zer 349⟩
theorem keyA : keyOk sA := ⟨by decide, by decide, fun p hp => by
  have : p = 0 := by have : sA.size = 1 := rfl; omega
  subst this; exact ⟨by decide, by decide⟩⟩
theorem textA : (textS sA).size = 2 := by unfold textS; rw [ByteArray.size_append, numS_size, nlen_small (by decide)]; rfl
theorem textE : (textS ByteArray.empty).size = 1 := by unfold textS; rw [ByteArray.size_append, numS_size, nlen_small (by decide)]; rfl
theorem textZ : (textS (zer 349)).size = 351 := by
  unfold textS
  rw [ByteArray.size_append, numS_size, zer_size, nlen_step (by omega), nlen_small (by omega)]
theorem n1_ok : ckE n1 = 0 := ckE_zero.2 ⟨keyA, by show (textS sA).size + (textS ByteArray.empty).size + 32 ≤ 384; rw [textA, textE]; omega⟩
theorem n1_size : (nbS n1).size = 35 := by rw [nbS_size]; show (textS sA).size + (textS ByteArray.empty).size + 32 = 35; rw [textA, textE]
theorem n2_bad : ckE n2 = 11 := ckE_key fun h => by
  have := (h.2.2 1 (by decide)).1
  exact absurd this (by decide)
theorem n3_bad : ckE n3 = 12 := ckE_big keyA (by show 384 < (textS sA).size + (textS (zer 349)).size + 32; rw [textA, textZ]; omega)
theorem two_ok : AllOk [n1, n1] := fun n hn => by
  have : n = n1 := by simpa using hn
  rw [this]; exact n1_ok
theorem two_s : nbS n1 ++ nbS n1 = chS [n1, n1] := by
  show nbS n1 ++ nbS n1 = nbS n1 ++ (nbS n1 ++ ByteArray.empty)
  rw [app_nil]
theorem two_at : ((List.range 2).map fun j => (((chS ([n1, n1].take j)).size : Nat) : Int)) = [0, 35] := by
  show [(((chS ([n1, n1].take 0)).size : Nat) : Int), (((chS ([n1, n1].take 1)).size : Nat) : Int)] = _
  have e0 : (chS ([n1, n1].take 0)).size = 0 := rfl
  have e1 : (chS ([n1, n1].take 1)).size = 35 := by
    show (nbS n1 ++ ByteArray.empty).size = 35
    rw [app_nil, n1_size]
  rw [e0, e1]
  rfl
theorem abc_join : jE (shl sABC 6) 3 = 0 ∧ jT (shl sABC 6) 3 = sABC := by
  have hz : sABC.size ≤ 384 := by decide
  have h := j_ok (l := shl sABC 6) (k := 3) (shl_ok hz) (by omega) (by
    rw [shl_join hz, pad_z hz]
    intro p h1 h2
    have : sABC.size = 3 := rfl
    omega)
  refine ⟨h.1, h.2.trans ?_⟩
  rw [shl_join hz]
  exact pad_head sABC
set_option maxRecDepth 100000 in
set_option maxHeartbeats 8000000 in
theorem nlive_any (w : World) (hK : KAt w) : Calls Tryd.prog 9 #[] w fun e w' => e = .returned (.bool true) ∧ Below w.heap.size w w' := by
  have H1 := hide (nwrite_any n1 w hK (by decide) (by decide))
  rw [n1_ok, nwS_ok n1_ok] at H1
  have hz35 := n1_size
  have HX := nr_back n1_ok sX
  have H2 := hide (fun w hK => nread_any (nbS n1 ++ sX) w hK (by rw [ByteArray.size_append, n1_size]; decide))
  rw [HX.1, HX.2.1, HX.2.2] at H2
  clear HX
  have H3 := hide (fun w hK => nwrite_any n2 w hK (by decide) (by decide))
  rw [n2_bad, nwS_bad (by rw [n2_bad]; decide)] at H3
  have H4 := hide (fun w hK => nwrite_any n3 w hK (by decide) (by show (zer 349).size ≤ 100000; rw [zer_size]; omega))
  rw [n3_bad, nwS_bad (by rw [n3_bad]; decide)] at H4
  have HM := hide (fun w => make_bytes 349 (by omega) w)
  have HV := hide (fun w => conv_zer 349 (by omega) w)
  have H5 := hide (fun w => nshards_ok sABC w (by decide))
  have H6 := hide (fun a c w hS hc => njoin_any a c (shl sABC 6) 3 w hS hc (by rw [shl_len]; omega))
  rw [abc_join.1, abc_join.2, shl_len] at H6
  have H7 := hide (fun w hK => nall_any (nbS n1 ++ nbS n1) w hK (by rw [ByteArray.size_append, n1_size]; omega))
  rw [two_s] at H7
  have H8 := hide (fun a1 a2 c1 c2 w h1 h2 => ints_same a1 a2 c1 c2 2 [0, 35] w rfl (by omega) h1 h2)
  have HK := hide hK
  have HTS := hide two_s
  clear hK
  generalize nbS n1 = S at *
  simp only [ncs, n1, n2, n3, sA, sAB, sABC, sX] at H1 H2 H3 H4 H6
  go_enter Tryd.func9, Tryd.ntmps9
  go_wp2_with fail
  refine H1.out.mono ?_
  rintro e w1 ⟨rfl, hb⟩
  have B1 := hide hb
  have K1 := hide (HK.out.below hb)
  clear hb H1
  go_wp2_with fail
  refine (H2.out _ K1.out).mono ?_
  rintro e w2 ⟨rfl, hb⟩
  have hal : Below w2.heap.size w2 (w2.alloc (.cells #[.string ⟨#[97]⟩, .string ByteArray.empty] 28)) := (Below.refl _ _).alloc (Nat.le_refl _) _
  have hb2 := hb.trans (hal.mono hb.size)
  have B2 := hide (B1.out.trans (hb2.mono B1.out.size))
  have K2 := hide (K1.out.below hb2)
  have X2 : Hid (NBx w2.heap.size 28 ⟨⟨#[97]⟩, ByteArray.empty⟩ (w2.alloc (.cells #[.string ⟨#[97]⟩, .string ByteArray.empty] 28))) := nbx_new 28 ⟨⟨#[97]⟩, ByteArray.empty⟩ w2
  clear hb hal hb2 B1 K1 H2
  go_wp2_with fail
  generalize w2.alloc (.cells #[.string ⟨#[97]⟩, .string ByteArray.empty] 28) = W2 at *
  generalize w2.heap.size = b2 at *
  refine (H3.out _ K2.out).mono ?_
  rintro e w3 ⟨rfl, hb⟩
  have B3 := hide (B2.out.trans (hb.mono B2.out.size))
  have K3 := hide (K2.out.below hb)
  have X3 := hide (X2.out.below hb X2.out.lt)
  have hmk : (Instr.makeSlice 59 (.int .i64 349) (.int .i64 349)).run Tryd.prog w3 = .ok (.slice (some ⟨w3.heap.size, 0, none⟩) 349 349) (w3.alloc (.cells (fnC 349 fun _ => .int .u8 0) 5)) := HM.out w3
  have hcv := HV.out w3
  have hal : Below w3.heap.size w3 (w3.alloc (.cells (fnC 349 fun _ => .int .u8 0) 5)) := (Below.refl _ _).alloc (Nat.le_refl _) _
  have B4 := hide (B3.out.trans (hal.mono B3.out.size))
  have K4 := hide (K3.out.below hal)
  have X4 := hide (X3.out.below hal X3.out.lt)
  clear hb B2 K2 X2 H3 hal B3 K3 X3 HM HV
  generalize zer 349 = Z at *
  go_wp2_with fail
  generalize w3.alloc (.cells (fnC 349 fun _ => .int .u8 0) 5) = W4 at *
  clear hmk hcv
  refine (H4.out _ K4.out).mono ?_
  rintro e w5 ⟨rfl, hb⟩
  have B5 := hide (B4.out.trans (hb.mono B4.out.size))
  have K5 := hide (K4.out.below hb)
  have X5 := hide (X4.out.below hb X4.out.lt)
  clear hb B4 K4 X4 H4
  go_wp2_with fail
  refine (H5.out _).mono ?_
  rintro e w6 ⟨a6, c6, rfl, hc6, hst, hb⟩
  have B6 := hide (B5.out.trans (hb.mono B5.out.size))
  have K6 := hide (K5.out.below hb)
  have X6 := hide (X5.out.below hb X5.out.lt)
  have HST := hide hst
  clear hb B5 K5 X5 H5 hst
  go_wp2_with fail
  refine (H6.out a6 c6 _ HST.out hc6).mono ?_
  rintro e w7 ⟨rfl, hb⟩
  have B7 := hide (B6.out.trans (hb.mono B6.out.size))
  have K7 := hide (K6.out.below hb)
  have X7 := hide (X6.out.below hb X6.out.lt)
  clear hb B6 K6 X6 H6 HST
  go_wp2_with fail
  rw [HTS.out]
  refine (H7.out _ K7.out).mono ?_
  intro e w8 hA
  obtain ⟨hb, a, c, a2, c2, rfl, hnd, hin⟩ := chain_all two_ok hA
  rw [show ([n1, n1] : List Nd).length = 2 from rfl, two_at] at hin
  have B8 := hide (B7.out.trans (hb.mono B7.out.size))
  have X8 := hide (X7.out.below hb X7.out.lt)
  have HIN := hide hin
  clear hb hA hnd hin B7 K7 X7 H7
  obtain ⟨⟨d0, d1⟩, -⟩ := X8.out.cells
  simp only at d0 d1
  have hal : Below w8.heap.size w8 (w8.alloc (.cells #[.int .i64 0, .int .i64 35] 3)) := (Below.refl _ _).alloc (Nat.le_refl _) _
  have B9 := hide (B8.out.trans (hal.mono B8.out.size))
  have H9 := hide (H8.out a2 (some ⟨w8.heap.size, 0, none⟩) c2 2 _ (HIN.out.below hal) (.inr ⟨w8.heap.size, 0, rfl, by rw [World.size_alloc]; omega, fun i x hx => by
    rw [cell_of_block (heap_alloc_new w8 (.cells #[.int .i64 0, .int .i64 35] 3)), Nat.zero_add]
    match i, hx with
    | 0, hx => cases hx; rfl
    | 1, hx => cases hx; rfl⟩))
  clear hal HIN H8
  go_wp2_with fail
  refine H9.out.mono ?_
  rintro e w9 ⟨rfl, hb⟩
  have B10 := hide (B9.out.trans (hb.mono B9.out.size))
  clear hb
  go_wp2_with fail
  try go_ret
  exact ⟨rfl, B10.out⟩
end Go.Proofs.YtomcdajoeakhdaaDoor
