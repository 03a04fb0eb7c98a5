/- What record.Write answers. -/
import Derived.Test.YtaiafbihcfbglaaRcCheck
namespace Go.Proofs.Ytaiafbihcfbglaa
open Go.RowKit
set_option linter.unusedVariables false
set_option maxRecDepth 100000 in
set_option maxHeartbeats 8000000 in
theorem rwrite_bad (r : Rc) (a : Option Addr) (c : Nat) (w : World) (hS : LocsAt w a r.ls) (hf : r.fit) (h : ckR r ≠ 0) : Calls Try.prog 24 #[.agg (rcs r a c)] w fun e w' => e = .returned (.tuple #[.string ByteArray.empty, .int .i64 (ckR r)]) ∧ Below w.heap.size w w' := by
  have HB1 : Hid (Below w.heap.size w (w.alloc (.cells (rcs r a c) 55))) := (Below.refl _ _).alloc (Nat.le_refl _) _
  have HR1 := hide (rbx_new 55 r a c w)
  have HC := hide (ck_any r a c (w.alloc (.cells (rcs r a c) 55)) (hS.below HB1.out) hf)
  have hq : (ckR r == 0) = false := by simpa using h
  have hq2 : (ckR r != 0) = true := by simpa using h
  clear hS hf h
  generalize ckR r = E at *
  go_enter Try.func24, Try.ntmps24
  go_upto_region 1 with fail
  generalize w.alloc (.cells (rcs r a c) 55) = W1 at *
  go_wp2_with (first | (refine wpList_load_row rfl 55 (.tmp 1) rfl w.heap.size rfl 55 (rcs r a c) (0, 0) _ HR1.out Try.underlying55 rfl rec_info ?_))
  refine HC.out.mono ?_
  rintro e w2 ⟨rfl, hb⟩
  have HB2 := hide (HB1.out.trans (hb.mono HB1.out.size))
  clear hb
  go_wp2_with fail
  try go_ret2
  exact ⟨rfl, HB2.out⟩
set_option maxRecDepth 100000 in
set_option maxHeartbeats 8000000 in
theorem rwrite_ok (r : Rc) (a : Option Addr) (c : Nat) (w : World) (hS : LocsAt w a r.ls) (hf : r.fit) (h : ckR r = 0) : Calls Try.prog 24 #[.agg (rcs r a c)] w fun e w' => e = .returned (.tuple #[.string (sealS (bodyR r)), .int .i64 0]) ∧ Below w.heap.size w w' := by
  have HB1 : Hid (Below w.heap.size w (w.alloc (.cells (rcs r a c) 55))) := (Below.refl _ _).alloc (Nat.le_refl _) _
  have HR1 := hide (rbx_new 55 r a c w)
  have HC := hide (ck_any r a c (w.alloc (.cells (rcs r a c) 55)) (hS.below HB1.out) hf)
  have HS := hide hS
  have HH := hide h
  have hz := bodyR_size h
  have hz0 : (bodyR r).size ≠ 0 := by unfold bodyR; rw [ByteArray.size_append, sSJ_size]; omega
  rw [h] at HC
  have HRec : Hid (∀ (w0 : World) (b : Nat) (w : World), Wt w0.heap.size b ByteArray.empty w → Below w0.heap.size w0 w → LocsAt w0 a r.ls → Calls Try.prog 32 #[.pointer (some ⟨b, 0, none⟩), .agg (rcs r a c)] w fun e w' => e = .returned (.tuple #[]) ∧ Wt w0.heap.size b (bodyR r) w' ∧ Kw w0.heap.size b w w') := fun w0 b w h1 h2 h3 => wrec_any w0 b r a c w h1 h2 h3 h
  clear hS hf h
  generalize bodyR r = Z at *
  go_enter Try.func24, Try.ntmps24
  go_upto_region 1 with fail
  generalize w.alloc (.cells (rcs r a c) 55) = W1 at *
  go_wp2_with (first | (refine wpList_load_row rfl 55 (.tmp 1) rfl w.heap.size rfl 55 (rcs r a c) (0, 0) _ HR1.out Try.underlying55 rfl rec_info ?_))
  refine HC.out.mono ?_
  rintro e w2 ⟨rfl, hb⟩
  have HB2 := hide (HB1.out.trans (hb.mono HB1.out.size))
  have HR2 := hide (HR1.out.below hb HR1.out.lt)
  have hal : Below w2.heap.size w2 (w2.alloc (.cells #[.pointer none, .slice none 0 0] 74)) := (Below.refl _ _).alloc (Nat.le_refl _) _
  have HR3 := hide (HR2.out.below hal HR2.out.lt)
  have HX := hide (HRec.out w2 w2.heap.size (w2.alloc (.cells #[.pointer none, .slice none 0 0] 74)) (wt_new w2) hal (HS.out.below HB2.out))
  have HB3 := hide (HB2.out.trans (hal.mono HB2.out.size))
  clear hb hal HC HR1 HRec
  go_wp2_with (first | (refine wpList_load_row rfl 55 (.tmp 1) rfl w.heap.size rfl 55 (rcs r a c) (0, 0) _ HR3.out Try.underlying55 rfl rec_info ?_))
  refine HX.out.mono ?_
  rintro e w4 ⟨rfl, hw4, hk4⟩
  have HW4 := hide hw4
  have HB4 := hide (HB3.out.trans (hk4.low.mono HB2.out.size))
  have HB24 : Hid (w2.heap.size ≤ w4.heap.size) := by unfold Hid; have := hk4.size; rw [World.size_alloc] at this; omega
  clear hw4 hk4 HX
  go_wp2_with fail
  refine (bstr_any w2.heap.size w2.heap.size Z w4 HW4.out hz0).mono ?_
  rintro e w5 ⟨rfl, hb5⟩
  have HB5 := hide (HB4.out.trans (hb5.mono HB2.out.size))
  clear hb5
  go_wp2_with fail
  refine (seal_any Z w5 (by omega)).mono ?_
  rintro e w6 ⟨rfl, hb6⟩
  have HB6 := hide (HB5.out.trans (hb6.mono HB5.out.size))
  clear hb6
  go_wp2_with fail
  try go_ret2
  exact ⟨rfl, HB6.out⟩
theorem rwrite_any (r : Rc) (a : Option Addr) (c : Nat) (w : World) (hS : LocsAt w a r.ls) (hf : r.fit) : Calls Try.prog 24 #[.agg (rcs r a c)] w fun e w' => e = .returned (.tuple #[.string (wR r), .int .i64 (ckR r)]) ∧ Below w.heap.size w w' := by
  by_cases h : ckR r = 0
  · rw [wR_ok h, h]; exact rwrite_ok r a c w hS hf h
  · rw [wR_bad h]; exact rwrite_bad r a c w hS hf h
end Go.Proofs.Ytaiafbihcfbglaa
