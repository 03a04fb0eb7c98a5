/- What check.Of, written, Seal and Open answer. -/
import Derived.Test.YtaiafbihcfbglaaCrShift
namespace Go.Proofs.Ytaiafbihcfbglaa
open Go.RowKit
theorem idx_lt {c : Nat} (hc : c < 256) (x : Nat) : x % 256 ^^^ c < 256 := Nat.xor_lt_two_pow (n := 8) (Nat.mod_lt _ (by decide)) hc
theorem idx_u8 {x c d : Nat} (h : d = c) (hc : c < 256) (_ : x < 2 ^ 32) : bits .xor .u8 ((x : Int) % 256) (d : Int) = ((x % 256 ^^^ c : Nat) : Int) := by
  rw [h, show (x : Int) % 256 = ((x % 256 : Nat) : Int) by omega, u8_xor_nat _ _ (by omega) hc]
theorem of_next {x c y : Nat} (hx : x < 2 ^ 32) (hc : c < 256) (hy : y = Cr.stN 8 (x ^^^ c)) : bits .xor .u32 ((x : Int) / 256) ((Cr.stN 8 (x % 256 ^^^ c) : Nat) : Int) = (y : Int) := by
  have hq := Cr.stN_lt 8 (x := x % 256 ^^^ c) (Nat.lt_of_lt_of_le (idx_lt hc x) (by decide))
  rw [show (x : Int) / 256 = ((x / 256 : Nat) : Int) by omega, u32_xor_nat _ _ (by omega) (by omega), hy, Nat.xor_comm x c, Cr.stN_split 8 c x, Nat.xor_comm c, Nat.xor_comm (x / 256)]
theorem of_last {x : Nat} (hx : x < 2 ^ 32) : bits .xor .u32 IntKind.u32.max (x : Int) = ((x ^^^ Cr.F : Nat) : Int) := by
  rw [show IntKind.u32.max = ((4294967295 : Nat) : Int) from rfl, u32_xor_nat _ _ (by omega) (by omega), Nat.xor_comm]
  rfl
set_option maxRecDepth 100000 in
set_option maxHeartbeats 1000000 in
theorem of_any (s : ByteArray) (w : World) (hs : s.size ≤ 1000000000000000) :
    Calls Try.prog 62 #[.string s] w fun e w' => e = .returned (.int .u32 (Cr.sum (bt s) s.size : Nat)) ∧ Below w.heap.size w w' := by
  go_enter Try.func62, Try.ntmps62
  go_wp2_with fail
  refine (newTable_any w).mono ?_
  rintro e w1 ⟨rfl, hb1⟩
  have hz := zero_tbl
  have HB1 := hide hb1
  clear hb1
  have HA : Hid (TblAt (w1.alloc (Obj.cells (t256 fun _ => 0) 127)) w1.heap.size fun _ => 0) := heap_alloc_new _ _
  go_wp2_with (refine wpList_store_row rfl 127 (.tmp 3) (.tmp 6) rfl w1.heap.size (t256 (Cr.stN 8)) rfl rfl 127 (t256 fun _ => 0) HA.out (tbl_info' _) (by rw [t256, t256, fnC_size, fnC_size]) (t256_one _) ?_)
  clear hz
  have hT : TblAt ((w1.alloc (Obj.cells (t256 fun _ => 0) 127)).setRow w1.heap.size (t256 (Cr.stN 8))) w1.heap.size (Cr.stN 8) := HA.out.put _
  have hBl : Below w.heap.size w ((w1.alloc (Obj.cells (t256 fun _ => 0) 127)).setRow w1.heap.size (t256 (Cr.stN 8))) := below_setRow (HB1.out.alloc HB1.out.size _) HB1.out.size _
  generalize (w1.alloc (Obj.cells (t256 fun _ => 0) 127)).setRow w1.heap.size (t256 (Cr.stN 8)) = W at *
  have HT := hide hT
  have HBl := hide hBl
  clear hT hBl HA HB1
  go_wp2_with fail
  go_loop [4, 9] (fun x y => ∃ k : Nat, k ≤ s.size ∧ y = .int .i64 k ∧ x = .int .u32 (Cr.cr (bt s) k : Nat)) (fun _ y => s.size - (intOf y).toNat)
  case atStart => exact ⟨0, by omega, rfl, rfl⟩
  case round =>
    obtain ⟨k, hk, rfl, rfl⟩ := hrel
    by_cases hlt : k < s.size
    · have hx := Cr.cr_lt (bt_lt s) k
      have hq := idx_u8 (bt_eq hlt) (bt_lt s k) hx
      have hql := idx_lt (bt_lt s k) (Cr.cr (bt s) k)
      have hc := HT.out.cell hql
      have HN : Hid (bits .xor .u32 (((Cr.cr (bt s) k : Nat) : Int) / 256) ((Cr.stN 8 (Cr.cr (bt s) k % 256 ^^^ bt s k) : Nat) : Int) = ((Cr.cr (bt s) (k + 1) : Nat) : Int)) := of_next hx (bt_lt s k) rfl
      go_wp2_with fail
      exact ⟨⟨k + 1, by omega, by go_num, by rw [HN.out]⟩, by simp [intOf]; omega⟩
    · obtain rfl : k = s.size := by omega
      go_wp2_with fail
      go_ret
      exact ⟨ret_int (of_last (Cr.cr_lt (bt_lt s) s.size)), HBl.out⟩
set_option maxRecDepth 100000 in
set_option maxHeartbeats 1000000 in
theorem written_any (x : Nat) (w : World) (hx : x < 2 ^ 32) :
    Calls Try.prog 61 #[.int .u32 (x : Nat)] w fun e w' => e = .returned (.string (mkS 4 (Cr.by4 x))) ∧ Below w.heap.size w w' := by
  have hcv := four_string x hx w
  go_enter Try.func61, Try.ntmps61
  go_wp2_with fail
  go_ret
  exact ⟨rfl, (Below.refl _ _).alloc (Nat.le_refl _) _⟩
set_option maxRecDepth 100000 in
set_option maxHeartbeats 1000000 in
theorem seal_any (s : ByteArray) (w : World) (hs : s.size ≤ 150000000000000) :
    Calls Try.prog 33 #[.string s] w fun e w' => e = .returned (.string (sealS s)) ∧ Below w.heap.size w w' := by
  have hx := Cr.sum_lt (bt_lt s) s.size
  go_enter Try.func33, Try.ntmps33
  go_wp2_with fail
  refine (of_any s _ (by omega)).mono ?_
  rintro e w1 ⟨rfl, hb1⟩
  have HB1 := hide hb1
  have hS : Hid (sealS s = s ++ mkS 4 (Cr.by4 (Cr.sum (bt s) s.size))) := rfl
  clear hb1
  generalize Cr.sum (bt s) s.size = x at *
  go_wp2_with fail
  refine (written_any x _ hx).mono ?_
  rintro e w2 ⟨rfl, hb2⟩
  have HB2 := hide hb2
  clear hb2
  have hz : (mkS 4 (Cr.by4 x)).size = 4 := mkS_size _ _
  go_wp2_with fail
  go_ret
  exact ⟨ret_str hS.out.symm, HB1.out.trans (HB2.out.mono HB1.out.size)⟩
/-- the last four bytes -/
def tailS (s : ByteArray) : ByteArray := s.extract (s.size - 4) s.size
theorem tail_iff {s : ByteArray} (h : 4 ≤ s.size) : tailS s = mkS 4 (Cr.by4 (Cr.sum (bt (headS s)) (headS s).size)) ↔ sealS (headS s) = s := by
  have e : headS s ++ tailS s = s := by
    have hz : (headS s ++ tailS s).size = s.size := by rw [ByteArray.size_append, headS_size, tailS, ByteArray.size_extract]; omega
    apply ext_bt hz
    intro p hp
    rw [hz] at hp
    rw [bt_append, headS_size]
    by_cases c : p < s.size - 4
    · rw [if_pos c, headS, bt_extract _ _ _ _ (by omega) (by omega), Nat.zero_add]
    · rw [if_neg c, tailS, bt_extract _ _ _ _ (by omega) (Nat.le_refl _)]
      congr 1; omega
  constructor
  · intro h1
    rw [h1] at e
    exact e
  · intro h1
    have h2 : headS s ++ tailS s = headS s ++ mkS 4 (Cr.by4 (Cr.sum (bt (headS s)) (headS s).size)) := e.trans h1.symm
    have hz : (tailS s).size = 4 := by rw [tailS, ByteArray.size_extract]; omega
    apply ext_bt (by rw [hz, mkS_size])
    intro p hp
    have := congrArg (fun t => bt t ((headS s).size + p)) h2
    simp only [bt_append] at this
    rw [if_neg (by omega), if_neg (by omega), Nat.add_sub_cancel_left] at this
    exact this
set_option maxRecDepth 100000 in
set_option maxHeartbeats 1000000 in
theorem open_cut (s : ByteArray) (w : World) (hs : s.size < 4) :
    Calls Try.prog 63 #[.string s] w fun e w' => e = .returned (.tuple #[.string ByteArray.empty, .int .i64 3]) ∧ Below w.heap.size w w' := by
  go_enter Try.func63, Try.ntmps63
  go_wp2_with fail
  go_ret2
  exact ⟨rfl, Below.refl _ _⟩
set_option maxRecDepth 100000 in
set_option maxHeartbeats 1000000 in
theorem open_bad (s : ByteArray) (w : World) (hs : 4 ≤ s.size) (hl : s.size ≤ 150000000000000) (hn : sealS (headS s) ≠ s) :
    Calls Try.prog 63 #[.string s] w fun e w' => e = .returned (.tuple #[.string ByteArray.empty, .int .i64 5]) ∧ Below w.heap.size w w' := by
  have hb := str_ne fun h => hn ((tail_iff hs).1 h)
  have hz : (headS s).size ≤ 150000000000000 := by rw [headS_size]; omega
  have hx := Cr.sum_lt (bt_lt (headS s)) (headS s).size
  have hd : Hid (s.extract 0 (s.size - 4) = headS s) := rfl
  have ht : Hid (s.extract (s.size - 4) s.size = tailS s) := rfl
  clear hn
  go_enter Try.func63, Try.ntmps63
  go_wp2_with fail
  go_region
  rw [hd.out, ht.out]
  go_wp2_with fail
  refine (of_any _ _ (by omega)).mono ?_
  rintro e w1 ⟨rfl, hb1⟩
  have HB1 := hide hb1
  clear hb1
  generalize Cr.sum (bt (headS s)) (headS s).size = x at *
  go_wp2_with fail
  refine (written_any x _ hx).mono ?_
  rintro e w2 ⟨rfl, hb2⟩
  have HB2 := hide hb2
  clear hb2
  go_wp2_with fail
  go_ret2
  exact ⟨rfl, ((Below.refl _ w).drew.trans HB1.out).trans (HB2.out.mono HB1.out.size)⟩
set_option maxRecDepth 100000 in
set_option maxHeartbeats 1000000 in
theorem open_good (s : ByteArray) (w : World) (hs : 4 ≤ s.size) (hl : s.size ≤ 150000000000000) (hn : sealS (headS s) = s) :
    Calls Try.prog 63 #[.string s] w fun e w' => e = .returned (.tuple #[.string (headS s), .int .i64 0]) ∧ Below w.heap.size w w' := by
  have hb := (tail_iff hs).2 hn
  have hz : (headS s).size ≤ 150000000000000 := by rw [headS_size]; omega
  have hx := Cr.sum_lt (bt_lt (headS s)) (headS s).size
  have hd : Hid (s.extract 0 (s.size - 4) = headS s) := rfl
  have ht : Hid (s.extract (s.size - 4) s.size = tailS s) := rfl
  have HT := hide hb
  clear hn hb
  go_enter Try.func63, Try.ntmps63
  go_wp2_with fail
  go_region
  rw [hd.out, ht.out, HT.out]
  go_wp2_with fail
  refine (of_any _ _ (by omega)).mono ?_
  rintro e w1 ⟨rfl, hb1⟩
  have HB1 := hide hb1
  clear hb1
  generalize Cr.sum (bt (headS s)) (headS s).size = x at *
  go_wp2_with fail
  refine (written_any x _ hx).mono ?_
  rintro e w2 ⟨rfl, hb2⟩
  have HB2 := hide hb2
  clear hb2
  go_wp2_with fail
  go_ret2
  exact ⟨rfl, ((Below.refl _ w).drew.trans HB1.out).trans (HB2.out.mono HB1.out.size)⟩
/-- what Open tells of a text -/
def opT (s : ByteArray) : ByteArray := if s.size < 4 then ByteArray.empty else if sealS (headS s) = s then headS s else ByteArray.empty
def opE (s : ByteArray) : Int := if s.size < 4 then 3 else if sealS (headS s) = s then 0 else 5
theorem open_any (s : ByteArray) (w : World) (hl : s.size ≤ 150000000000000) :
    Calls Try.prog 63 #[.string s] w fun e w' => e = .returned (.tuple #[.string (opT s), .int .i64 (opE s)]) ∧ Below w.heap.size w w' := by
  unfold opT opE
  by_cases h4 : s.size < 4
  · rw [if_pos h4, if_pos h4]; exact open_cut s w h4
  · rw [if_neg h4, if_neg h4]
    by_cases hs : sealS (headS s) = s
    · rw [if_pos hs, if_pos hs]; exact open_good s w (by omega) hl hs
    · rw [if_neg hs, if_neg hs]; exact open_bad s w (by omega) hl hs
theorem refOpen_any (s : ByteArray) (w : World) (hl : s.size ≤ 150000000000000) :
    Calls Try.prog 37 #[.string s] w fun e w' => e = .returned (.tuple #[.string (opT s), .int .i64 (opE s)]) ∧ Below w.heap.size w w' := by
  unfold opT opE
  by_cases h4 : s.size < 4
  · rw [if_pos h4, if_pos h4]; exact (refOpen_cut s w h4).mono fun e w' ⟨h1, h2⟩ => ⟨h1, h2 ▸ Below.refl _ _⟩
  · rw [if_neg h4, if_neg h4]
    by_cases hs : sealS (headS s) = s
    · rw [if_pos hs, if_pos hs]; exact refOpen_good s w (by omega) hl hs
    · rw [if_neg hs, if_neg hs]; exact refOpen_bad s w (by omega) hl hs
theorem opT_seal (s : ByteArray) : opT (sealS s) = s := by
  unfold opT
  rw [if_neg (by rw [sealS_size]; omega), head_seal, if_pos rfl]
theorem opE_seal (s : ByteArray) : opE (sealS s) = 0 := by
  unfold opE
  rw [if_neg (by rw [sealS_size]; omega), head_seal, if_pos rfl]
end Go.Proofs.Ytaiafbihcfbglaa
