/- What the law's live answers: the document's examples. -/
import Derived.Test.YtgcjcojmhfkbjaaDoorRqAns
import Derived.Test.YtgcjcojmhfkbjaaDoorRqParse
namespace Go.Proofs.YtgcjcojmhfkbjaaDoor
open Go.RowKit
set_option linter.unusedVariables false
def aS : ByteArray := ⟨#[97]⟩
def hiS : ByteArray := ⟨#[104, 105]⟩
theorem a_key : keyOk aS := ⟨by decide, by decide, by show ∀ p, p < aS.size → 33 ≤ bt aS p ∧ bt aS p ≤ 126; decide⟩
theorem small_nsz {k v : ByteArray} (hk : k.size ≤ 32) (hv : v.size ≤ 200) : nsz ⟨k, v⟩ ≤ 384 := by
  have h1 := textS_le hk (by omega)
  have h2 := textS_le hv (by omega)
  show (textS k).size + (textS v).size + 32 ≤ 384
  omega
theorem lv1e : rqE ⟨0, aS, hiS⟩ = 0 := by
  unfold rqE
  rw [if_neg (by decide), if_neg (by decide), ckE_zero]
  exact ⟨a_key, small_nsz (by decide) (by decide)⟩
theorem lv1 : paE ⟨#[112, 117, 116, 32, 97, 32, 54, 56, 54, 57]⟩ = 0 ∧ paR ⟨#[112, 117, 116, 32, 97, 32, 54, 56, 54, 57]⟩ = ⟨0, aS, hiS⟩ := by
  have e : (⟨#[112, 117, 116, 32, 97, 32, 54, 56, 54, 57]⟩ : ByteArray) = lineS ⟨0, aS, hiS⟩ := by decide +kernel
  rw [e]
  exact pa_line lv1e
theorem lv2 : rqE ⟨4, ByteArray.empty, ByteArray.empty⟩ = 0 ∧ prS ⟨4, ByteArray.empty, ByteArray.empty⟩ = listS := by
  have h : rqE ⟨4, ByteArray.empty, ByteArray.empty⟩ = 0 := by unfold rqE; rw [if_neg (by decide), if_pos ⟨rfl, rfl⟩]
  refine ⟨h, ?_⟩
  unfold prS
  rw [if_pos h]
  rfl
theorem lv3 : paE ⟨#[112, 117, 116, 32, 97, 32, 54, 56, 54]⟩ = 14 := by
  have e : wds ⟨#[112, 117, 116, 32, 97, 32, 54, 56, 54]⟩ = [putS, aS, ⟨#[54, 56, 54]⟩] := by decide +kernel
  unfold paE
  rw [e, askW_3, if_pos rfl, undg_odd (by decide) (by decide)]
  rfl
theorem lv4 : paE ⟨#[103, 101, 116, 32, 97, 32, 98]⟩ = 14 := by
  have e : wds ⟨#[103, 101, 116, 32, 97, 32, 98]⟩ = [getS, aS, ⟨#[98]⟩] := by decide +kernel
  unfold paE
  rw [e, askW_3, if_neg (by decide)]
theorem lv5 : paE ⟨#[103, 101, 116, 32, 1]⟩ = 11 := by
  have e : wds ⟨#[103, 101, 116, 32, 1]⟩ = [getS, ⟨#[1]⟩] := by decide +kernel
  unfold paE
  rw [e, askW_2, if_pos rfl]
  show rqE ⟨1, ⟨#[1]⟩, ByteArray.empty⟩ = 11
  unfold rqE
  rw [if_neg (by decide), if_neg (by decide), ckE_key]
  intro h
  have := (h.2.2 0 (by decide)).1
  exact absurd this (by decide)
theorem lv6 : rqE ⟨1, aS, ⟨#[120]⟩⟩ = 1 := by unfold rqE; rw [if_pos (by decide)]
theorem lv7 : anS 1 0 ByteArray.empty [] = ⟨#[118, 97, 108, 117, 101, 32, 45]⟩ := by
  rw [anS_val]
  decide +kernel
theorem lv8 : anS 1 9 ByteArray.empty [] = ⟨#[101, 114, 114, 111, 114, 32, 57]⟩ := by
  rw [anS_err (by decide), dcN_small (by decide)]
  decide +kernel
set_option maxRecDepth 100000 in
set_option maxHeartbeats 16000000 in
theorem live_any (w : World) (hK : KD w) : Calls Tryd.prog 9 #[] w fun e w' => e = .returned (.bool true) ∧ Below w.heap.size w w' := by
  have HKD := hide hK
  clear hK
  have P1 := hide (fun W (h : KD W) => parse_any ⟨#[112, 117, 116, 32, 97, 32, 54, 56, 54, 57]⟩ W h (by decide))
  have P3 := hide (fun W (h : KD W) => parse_any ⟨#[112, 117, 116, 32, 97, 32, 54, 56, 54]⟩ W h (by decide))
  have P4 := hide (fun W (h : KD W) => parse_any ⟨#[103, 101, 116, 32, 97, 32, 98]⟩ W h (by decide))
  have P5 := hide (fun W (h : KD W) => parse_any ⟨#[103, 101, 116, 32, 1]⟩ W h (by decide))
  have P2 := hide (fun W => print_any ⟨4, ByteArray.empty, ByteArray.empty⟩ W (by show 0 ≤ _; omega) (by show 0 ≤ _; omega))
  have P6 := hide (fun W => qcheck_any ⟨1, aS, ⟨#[120]⟩⟩ W (by decide) (by decide))
  have P7 := hide (fun W (h : KD W) => answer_any 1 0 ByteArray.empty none 0 0 [] W h (by decide) (by show 0 ≤ _; omega) rfl (.inl rfl) (by decide) (fun _ => rfl) (by simp))
  have P8 := hide (fun W (h : KD W) => answer_any 1 9 ByteArray.empty none 0 0 [] W h (by decide) (by show 0 ≤ _; omega) rfl (.inl rfl) (by decide) (fun _ => rfl) (by simp))
  obtain ⟨R3, h3⟩ : ∃ R, paR ⟨#[112, 117, 116, 32, 97, 32, 54, 56, 54]⟩ = R := ⟨_, rfl⟩
  obtain ⟨R4, h4⟩ : ∃ R, paR ⟨#[103, 101, 116, 32, 97, 32, 98]⟩ = R := ⟨_, rfl⟩
  obtain ⟨R5, h5⟩ : ∃ R, paR ⟨#[103, 101, 116, 32, 1]⟩ = R := ⟨_, rfl⟩
  rw [lv1.1, lv1.2] at P1
  rw [lv2.1, lv2.2] at P2
  rw [h3, lv3] at P3
  rw [h4, lv4] at P4
  rw [h5, lv5] at P5
  rw [lv6] at P6
  rw [lv7] at P7
  rw [lv8] at P8
  clear h3 h4 h5
  obtain ⟨d3, k3, v3⟩ := R3
  obtain ⟨d4, k4, v4⟩ := R4
  obtain ⟨d5, k5, v5⟩ := R5
  simp only [rqV, rqs, aS, hiS, listS] at P1 P2 P3 P4 P5 P6
  go_enter Tryd.func9, Tryd.ntmps9
  go_wp2_with fail
  refine (P1.out _ HKD.out).mono ?_
  rintro e w1 ⟨rfl, hb⟩
  have HB1 := hide hb
  clear hb
  have HA1 : Hid (RqB w1.heap.size ⟨0, aS, hiS⟩ (w1.alloc (.cells #[.int .i64 0, .string ⟨#[97]⟩, .string ⟨#[104, 105]⟩] 23))) := rqB_new ⟨0, aS, hiS⟩ w1
  have HC1 : Hid (Below w.heap.size w (w1.alloc (.cells #[.int .i64 0, .string ⟨#[97]⟩, .string ⟨#[104, 105]⟩] 23))) := HB1.out.alloc HB1.out.size _
  go_wp2_with fail
  refine (P2.out _).mono ?_
  rintro e w2 ⟨rfl, hb⟩
  have HA2 := hide (HA1.out.below hb)
  have HC2 := hide (HC1.out.trans (hb.mono HC1.out.size))
  clear hb HA1 HC1 HB1
  generalize w1.heap.size = b1 at *
  go_wp2_with fail
  refine (P3.out _ (HKD.out.below HC2.out)).mono ?_
  rintro e w3 ⟨rfl, hb⟩
  have HA3 := hide (HA2.out.below (hb.trans (((Below.refl _ _).alloc (Nat.le_refl _) (.cells #[.int .i64 d3, .string k3, .string v3] 23)).mono hb.size)))
  have HC3 := hide (HC2.out.trans ((hb.trans (((Below.refl _ _).alloc (Nat.le_refl _) (.cells #[.int .i64 d3, .string k3, .string v3] 23)).mono hb.size)).mono HC2.out.size))
  clear hb HA2 HC2
  go_wp2_with fail
  refine (P4.out _ (HKD.out.below HC3.out)).mono ?_
  rintro e w4 ⟨rfl, hb⟩
  have HA4 := hide (HA3.out.below (hb.trans (((Below.refl _ _).alloc (Nat.le_refl _) (.cells #[.int .i64 d4, .string k4, .string v4] 23)).mono hb.size)))
  have HC4 := hide (HC3.out.trans ((hb.trans (((Below.refl _ _).alloc (Nat.le_refl _) (.cells #[.int .i64 d4, .string k4, .string v4] 23)).mono hb.size)).mono HC3.out.size))
  clear hb HA3 HC3
  generalize w3.heap.size = b3 at *
  go_wp2_with fail
  refine (P5.out _ (HKD.out.below HC4.out)).mono ?_
  rintro e w5 ⟨rfl, hb⟩
  have HA5 := hide (HA4.out.below (hb.trans (((Below.refl _ _).alloc (Nat.le_refl _) (.cells #[.int .i64 d5, .string k5, .string v5] 23)).mono hb.size)))
  have HC5 := hide (HC4.out.trans ((hb.trans (((Below.refl _ _).alloc (Nat.le_refl _) (.cells #[.int .i64 d5, .string k5, .string v5] 23)).mono hb.size)).mono HC4.out.size))
  clear hb HA4 HC4
  generalize w4.heap.size = b4 at *
  have c0 := HA5.out.c0
  have c1 := HA5.out.c1
  have c2 := HA5.out.c2
  simp only [aS, hiS] at c0 c1 c2
  go_wp2_with (first | (refine wpList_load_row rfl 23 (.tmp 1) rfl b1 rfl 23 #[.int .i64 0, .string ⟨#[97]⟩, .string ⟨#[104, 105]⟩] (0, 0) _ HA5.out Tryd.underlying23 rfl rq_info ?_))
  have HD5 : Hid (Below w.heap.size w (w5.alloc (.cells #[.int .i64 d5, .string k5, .string v5] 23))) := HC5.out
  refine (P6.out _).mono ?_
  rintro e w6 ⟨rfl, hb⟩
  have HC6 := hide (HD5.out.trans (hb.mono HD5.out.size))
  clear hb
  go_wp2_with fail
  refine (P7.out _ (HKD.out.below HC6.out)).mono ?_
  rintro e w7 ⟨rfl, hb⟩
  have HC7 := hide (HC6.out.trans (hb.mono HC6.out.size))
  clear hb
  go_wp2_with fail
  refine (P8.out _ (HKD.out.below HC7.out)).mono ?_
  rintro e w8 ⟨rfl, hb⟩
  have HC8 := hide (HC7.out.trans (hb.mono HC7.out.size))
  clear hb
  go_wp2_with fail
  first | go_ret | go_returns
  exact ⟨rfl, HC8.out⟩
end Go.Proofs.YtgcjcojmhfkbjaaDoor
