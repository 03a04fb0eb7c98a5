/- What the laws' own live answers: true. -/
import Derived.Test.YtnpioaidbmllkaaDkTwo
namespace Go.Proofs.Ytnpioaidbmllkaa
open Go.RowKit
set_option linter.unusedVariables false
namespace Lv
def xyz : ByteArray := ⟨#[120, 121, 122]⟩
def abcd : ByteArray := ⟨#[97, 98, 99, 100]⟩
def K1 := wrC C0 3 5 xyz
def K2 := flC K1 3
def K3 := wrC K2 3 5 abcd
def K4 := crC [true] [true] K3
def K5 := crC [] [] K3
def K6 := agC K4 3 true
def K7 := agC K6 3 false
theorem e1 : eTakeC C0 3 5 xyz = 0 := by kernel_rfl
theorem e2 : eLiveC K1 3 = 0 := by kernel_rfl
theorem e3 : eTakeC K2 3 5 abcd = 0 := by kernel_rfl
theorem e4 : wtC K3 3 = 1 := by kernel_rfl
theorem e5 : rdC K4 3 5 = ⟨#[97, 98]⟩ := by kernel_rfl
theorem e6 : eHaveC K4 3 5 = 0 := by kernel_rfl
theorem e7 : rdC K5 3 5 = ⟨#[120, 121, 122]⟩ := by kernel_rfl
theorem e8 : eHaveC K5 3 5 = 0 := by kernel_rfl
theorem e9 : eHaveC K6 3 500 = 6 := by kernel_rfl
theorem e10 : rdC K7 3 5 = ⟨#[]⟩ := by kernel_rfl
theorem e11 : eHaveC K7 3 5 = 0 := by kernel_rfl
theorem e12 : eHaveC K7 12 0 = 1 := by kernel_rfl
theorem e13 : (lvC K7).length = 12 := by kernel_rfl
end Lv
set_option maxRecDepth 100000 in
set_option maxHeartbeats 4000000 in
theorem lawLive_any (w : World) : Calls Try.prog 8 #[] w fun e w' => e = .returned (.bool true) ∧ Below w.heap.size w w' := by
  go_enter Try.func8, Try.ntmps8
  go_wp2_with fail
  refine (new_any w).mono ?_
  rintro e w1 ⟨b, rfl, hb, hB1, hb1⟩
  subst hb
  have O1 := one_new0 (Below.refl _ w) hB1 hb1
  have P1 := hide O1
  clear hB1 hb1 O1
  go_wp2_with fail
  refine (write_c _ 3 5 Lv.xyz _ _ _ P1.out.bk P1.out.ct (by decide) few0 (by decide)).mono ?_
  rw [Lv.e1]
  rintro e w2 ⟨rfl, hd⟩
  obtain ⟨D2, O2⟩ := P1.out.go hd
  have P2 : Hid (One w w2 w.heap.size D2 Lv.K1) := O2
  clear hd O2 P1
  go_wp2_with fail
  refine (flush_c _ 3 _ _ _ P2.out.bk P2.out.ct).mono ?_
  rw [Lv.e2]
  rintro e w3 ⟨rfl, hd⟩
  obtain ⟨D3, O3⟩ := P2.out.go hd
  have P3 : Hid (One w w3 w.heap.size D3 Lv.K2) := O3
  clear hd O3 P2
  have HF2 : Hid (Few 1 Lv.K2) := (few0.wr 3 5 Lv.xyz).fl 3
  go_wp2_with fail
  refine (write_c _ 3 5 Lv.abcd _ _ _ P3.out.bk P3.out.ct (by decide) HF2.out (by decide)).mono ?_
  rw [Lv.e3]
  rintro e w4 ⟨rfl, hd⟩
  obtain ⟨D4, O4⟩ := P3.out.go hd
  have P4 : Hid (One w w4 w.heap.size D4 Lv.K3) := O4
  clear hd O4 P3
  have HF3 : Hid (Few 2 Lv.K3) := HF2.out.wr 3 5 Lv.abcd
  go_wp2_with fail
  refine (waits_c _ 3 _ _ _ P4.out.bk P4.out.ct).mono ?_
  rw [Lv.e4]
  rintro e w4' ⟨rfl, rfl⟩
  go_wp2_with fail
  refine (copy_c _ _ _ _ P4.out.bk P4.out.ct HF3.out (by decide)).mono ?_
  rintro e w5 ⟨rfl, E, hB5, hC5, hf5, hb5⟩
  have P5 := hide (P4.out.two hB5 hC5 hf5 hb5)
  have hcw := P4.out.below.size
  clear hB5 hC5 hf5 hb5 P4
  go_wp2_with fail
  have hA1 : Below w5.heap.size w5 ((w5.alloc (.cells #[.bool true] 4)).alloc (.cells #[.bool true] 4)) := ((Below.refl _ _).alloc (Nat.le_refl _) _).alloc (by rw [World.size_alloc]; omega) _
  have P6 := hide (P5.out.stay hA1)
  have k1 : BoolsAt ((w5.alloc (.cells #[.bool true] 4)).alloc (.cells #[.bool true] 4)) (some ⟨w5.heap.size, 0, none⟩) [true] := bools_keep (bools_one true) ((Below.refl _ _).alloc (Nat.le_refl _) _)
  have k2 := bools_one (w := w5.alloc (.cells #[.bool true] 4)) true
  rw [World.size_alloc] at k2
  have hf1 : ¬ Foot w.heap.size D4 w5.heap.size := fun h => by have := P5.out.fst.bk.lt h; omega
  have hf2 : ¬ Foot w.heap.size D4 (w5.heap.size + 1) := fun h => by have := P5.out.fst.bk.lt h; omega
  refine (crash_c _ _ _ _ _ _ _ _ _ _ [true] [true] P6.out.fst.bk P6.out.fst.ct k1 k2 rfl rfl (by decide) (by decide) (.inr fun a ha => by cases ha; exact hf1) (.inr fun a ha => by cases ha; exact hf2) HF3.out (by decide)).mono ?_
  rintro e w7 ⟨rfl, hd⟩
  obtain ⟨D7, O7⟩ := P6.out.left hd
  have P7 : Hid (Two w w7 w.heap.size D7 Lv.K4 w4.heap.size E Lv.K3) := O7
  clear hd O7 P6 P5 hA1 k1 k2 hf1 hf2
  go_wp2_with fail
  refine (read_c _ 3 5 _ _ _ P7.out.fst.bk P7.out.fst.ct).mono ?_
  rw [Lv.e5, Lv.e6]
  rintro e w8 ⟨rfl, hb⟩
  have P8 := hide (P7.out.stay hb)
  clear hb P7
  go_wp2_with fail
  refine (crash_c _ _ _ _ none none 0 0 0 0 [] [] P8.out.snd.bk P8.out.snd.ct (.inl rfl) (.inl rfl) rfl rfl (by decide) (by decide) (.inl rfl) (.inl rfl) HF3.out (by decide)).mono ?_
  rintro e w9 ⟨rfl, hd⟩
  obtain ⟨E9, O9⟩ := P8.out.right hd
  have P9 : Hid (Two w w9 w.heap.size D7 Lv.K4 w4.heap.size E9 Lv.K5) := O9
  clear hd O9 P8
  go_wp2_with fail
  refine (read_c _ 3 5 _ _ _ P9.out.snd.bk P9.out.snd.ct).mono ?_
  rw [Lv.e7, Lv.e8]
  rintro e w10 ⟨rfl, hb⟩
  have P10 := hide ((P9.out.stay hb).fst)
  clear hb P9
  go_wp2_with fail
  refine (lose_c _ 3 _ _ _ P10.out.bk P10.out.ct).mono ?_
  rw [show eKnown 3 = 0 from rfl]
  rintro e w11 ⟨rfl, hd⟩
  obtain ⟨D11, O11⟩ := P10.out.go hd
  have P11 : Hid (One w w11 w.heap.size D11 Lv.K6) := O11
  clear hd O11 P10
  go_wp2_with fail
  refine (read_c _ 3 500 _ _ _ P11.out.bk P11.out.ct).mono ?_
  rw [Lv.e9]
  rintro e w12 ⟨rfl, hb⟩
  have P12 := hide (P11.out.stay hb)
  clear hb P11
  go_wp2_with fail
  refine (replace_c _ 3 _ _ _ P12.out.bk P12.out.ct).mono ?_
  rw [show eKnown 3 = 0 from rfl]
  rintro e w13 ⟨rfl, hd⟩
  obtain ⟨D13, O13⟩ := P12.out.go hd
  have P13 : Hid (One w w13 w.heap.size D13 Lv.K7) := O13
  clear hd O13 P12
  go_wp2_with fail
  refine (read_c _ 3 5 _ _ _ P13.out.bk P13.out.ct).mono ?_
  rw [Lv.e10, Lv.e11]
  rintro e w14 ⟨rfl, hb⟩
  have P14 := hide (P13.out.stay hb)
  clear hb P13
  go_wp2_with fail
  refine (read_c _ 12 0 _ _ _ P14.out.bk P14.out.ct).mono ?_
  rw [Lv.e12]
  rintro e w15 ⟨rfl, hb⟩
  have P15 := hide (P14.out.stay hb)
  clear hb P14
  go_wp2_with fail
  refine (live_c _ _ _ _ P15.out.bk P15.out.ct).mono ?_
  rintro e w16 ⟨v, rfl, hN, hb⟩
  obtain ⟨a9, c9, rfl⟩ := row_form hN
  have P16 := hide (P15.out.stay hb)
  clear hb P15 hN
  rw [Lv.e13]
  go_wp2_with fail
  try go_ret
  exact ⟨rfl, P16.out.below⟩
end Go.Proofs.Ytnpioaidbmllkaa
