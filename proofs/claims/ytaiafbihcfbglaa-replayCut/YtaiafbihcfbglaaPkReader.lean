/- What a reader's calls answer. -/
import Derived.Test.YtaiafbihcfbglaaPkRead
namespace Go.Proofs.Ytaiafbihcfbglaa
open Go.RowKit
theorem val_ext {s : ByteArray} {k : Nat} (h : k ≤ s.size) : val (bt (s.extract 0 k)) (s.extract 0 k).size = val (bt s) k := by
  have hz : (s.extract 0 k).size = k := by rw [ByteArray.size_extract]; omega
  rw [hz]
  exact val_congr fun p hp => by rw [bt_extract _ _ _ _ (by omega) h, Nat.zero_add]
set_option maxRecDepth 100000 in
set_option maxHeartbeats 2000000 in
theorem rnum_ok (b : Nat) (s : ByteArray) (w : World) (h : RdAt w b 131 s 0) (hs : s.size ≤ 1000000000000000) : Calls Try.prog 81 #[.pointer (some ⟨b, 0, none⟩)] w fun r w' => r = .returned (.int .i64 (rN s : Nat)) ∧ RdAt w' b 131 (rR s) (rE s) ∧ But b w w' := by
  have H := hide h
  have hc0 := h.left
  clear h
  have hsz := size_any s w hs
  by_cases h0 : rE s = 0
  · have HN : Hid (val (bt (s.extract 0 (szK s))) (s.extract 0 (szK s)).size = rN s) := by
      show _ = _
      rw [val_ext (by unfold szK; rw [if_pos h0]; have := (rE_ok h0).2.1; omega)]
      unfold rN szK; rw [if_pos h0, if_pos h0]
    have HR : Hid (s.extract (szK s) s.size = rR s) := by unfold rR szK; rw [if_pos h0, if_pos h0]; exact rfl
    have hK : szK s ≤ s.size := by unfold szK; rw [if_pos h0]; have := (rE_ok h0).2.1; omega
    have hK8 : szK s ≤ 8 := by unfold szK; rw [if_pos h0]; have := (rE_ok h0).1; omega
    rw [h0] at hsz ⊢
    have HS := hide hsz
    clear hsz h0
    generalize szK s = K at *
    go_enter Try.func81, Try.ntmps81
    go_wp2_with fail
    refine (failed_no b s w H.out).mono ?_
    rintro e w1 ⟨rfl, rfl⟩
    go_wp2_with fail
    refine HS.out.mono ?_
    rintro e w1 ⟨rfl, rfl⟩
    go_wp2_with fail
    refine (take_any b s 0 K w H.out hK).mono ?_
    rintro e w1 ⟨rfl, hR1, hB1⟩
    have HR1 := hide hR1
    have HB1 := hide hB1
    clear hR1 hB1 hc0
    have hz : (s.extract 0 K).size = K := by rw [ByteArray.size_extract]; omega
    go_wp2_with fail
    refine (nof_any (s.extract 0 K) w1 (by omega)).mono ?_
    rintro e w2 ⟨rfl, rfl⟩
    rw [HN.out]
    go_wp2_with fail
    go_ret
    exact ⟨rfl, by rw [← HR.out]; exact HR1.out, HB1.out⟩
  · have hK : szK s = 0 := by unfold szK; rw [if_neg h0]
    have HR : Hid (rR s = ByteArray.empty) := by unfold rR; rw [if_neg h0]; exact rfl
    have HN : Hid (rN s = 0) := by unfold rN; rw [if_neg h0]; exact rfl
    rw [hK] at hsz
    have HS := hide hsz
    clear hsz hK
    generalize rE s = E at *
    have hq : ((E : Int) != 0) = true := by simp; omega
    go_enter Try.func81, Try.ntmps81
    go_wp2_with fail
    refine (failed_no b s w H.out).mono ?_
    rintro e w1 ⟨rfl, rfl⟩
    go_wp2_with fail
    refine HS.out.mono ?_
    rintro e w1 ⟨rfl, rfl⟩
    go_wp2_with fail
    refine (fail_any b s 0 E w H.out).mono ?_
    rintro e w1 ⟨rfl, hR1, hB1⟩
    have HR1 := hide hR1
    have HB1 := hide hB1
    clear hR1 hB1 hc0
    go_wp2_with fail
    go_ret
    exact ⟨ret_int (by rw [HN.out]; rfl), by rw [HR.out]; exact HR1.out, HB1.out⟩
set_option maxRecDepth 100000 in
set_option maxHeartbeats 2000000 in
theorem rnum_err (b : Nat) (s : ByteArray) (e : Nat) (w : World) (h : RdAt w b 131 s e) (he : e ≠ 0) : Calls Try.prog 81 #[.pointer (some ⟨b, 0, none⟩)] w fun r w' => r = .returned (.int .i64 0) ∧ w = w' := by
  have H := hide h
  clear h
  go_enter Try.func81, Try.ntmps81
  go_wp2_with fail
  refine (failed_yes b s e w H.out he).mono ?_
  rintro e w1 ⟨rfl, rfl⟩
  go_wp2_with fail
  go_ret
  exact ⟨rfl, rfl⟩
set_option maxRecDepth 100000 in
set_option maxHeartbeats 2000000 in
theorem rnum_nil (w : World) : Calls Try.prog 81 #[.pointer none] w fun r w' => r = .returned (.int .i64 0) ∧ w = w' := by
  go_enter Try.func81, Try.ntmps81
  go_wp2_with fail
  refine (failed_nil w).mono ?_
  rintro e w1 ⟨rfl, rfl⟩
  go_wp2_with fail
  go_ret
  exact ⟨rfl, rfl⟩
set_option maxRecDepth 100000 in
set_option maxHeartbeats 2000000 in
theorem rtext_ok (b : Nat) (s : ByteArray) (w : World) (h : RdAt w b 131 s 0) (hs : s.size ≤ 1000000000000000) : Calls Try.prog 83 #[.pointer (some ⟨b, 0, none⟩)] w fun r w' => r = .returned (.string (tT s)) ∧ RdAt w' b 131 (tR s) (tE s) ∧ But b w w' := by
  have H := hide h
  clear h
  have hn := rnum_ok b s w H.out hs
  have hzs := rR_size s
  have hnl := rN_lt s
  by_cases h0 : rE s = 0
  · rw [h0] at hn
    have HNU := hide hn
    clear hn
    by_cases hc : (rR s).size < rN s
    · have HE : Hid (tE s = 3) := by unfold tE; rw [if_neg (by omega), if_pos hc]; exact rfl
      have HT : Hid (tT s = ByteArray.empty) := by unfold tT; rw [if_neg (by rw [HE.out]; omega)]; exact rfl
      have HR : Hid (tR s = ByteArray.empty) := by unfold tR; rw [if_neg (by rw [HE.out]; omega)]; exact rfl
      clear h0
      generalize rN s = n at *
      generalize rR s = R at *
      have hq : ((R.size : Int) < (n : Int)) := by omega
      go_enter Try.func83, Try.ntmps83
      go_wp2_with fail
      refine HNU.out.mono ?_
      rintro e w1 ⟨rfl, hR1, hB1⟩
      have HR1 := hide hR1
      have HB1 := hide hB1
      have hc1 := hR1.left
      clear hR1 hB1
      go_wp2_with fail
      refine (failed_no b R w1 HR1.out).mono ?_
      rintro e w2 ⟨rfl, rfl⟩
      go_wp2_with fail
      refine (fail_any b R 0 3 w1 HR1.out).mono ?_
      rintro e w2 ⟨rfl, hR2, hB2⟩
      have HR2 := hide hR2
      have HB2 := hide (HB1.out.trans hB2)
      clear hR2 hB2 hc1
      go_wp2_with fail
      go_ret
      exact ⟨ret_str HT.out.symm, by rw [HR.out, HE.out]; exact HR2.out, HB2.out⟩
    · have HE : Hid (tE s = 0) := by unfold tE; rw [if_neg (by omega), if_neg hc]; exact rfl
      have HT : Hid (tT s = (rR s).extract 0 (rN s)) := by unfold tT; rw [if_pos HE.out]; exact rfl
      have HR : Hid (tR s = (rR s).extract (rN s) (rR s).size) := by unfold tR; rw [if_pos HE.out]; exact rfl
      clear h0
      generalize rN s = n at *
      generalize rR s = R at *
      have hq : ((n : Int) ≤ (R.size : Int)) := by omega
      have hq2 : n ≤ R.size := by omega
      go_enter Try.func83, Try.ntmps83
      go_wp2_with fail
      refine HNU.out.mono ?_
      rintro e w1 ⟨rfl, hR1, hB1⟩
      have HR1 := hide hR1
      have HB1 := hide hB1
      have hc1 := hR1.left
      clear hR1 hB1
      go_wp2_with fail
      refine (failed_no b R w1 HR1.out).mono ?_
      rintro e w2 ⟨rfl, rfl⟩
      go_wp2_with fail
      refine (take_any b R 0 n w1 HR1.out hq2).mono ?_
      rintro e w2 ⟨rfl, hR2, hB2⟩
      have HR2 := hide hR2
      have HB2 := hide (HB1.out.trans hB2)
      clear hR2 hB2 hc1
      go_wp2_with fail
      go_ret
      exact ⟨ret_str HT.out.symm, by rw [HR.out, HE.out]; exact HR2.out, HB2.out⟩
  · have HE : Hid (tE s = rE s) := by unfold tE; rw [if_pos (by omega)]; exact rfl
    have HT : Hid (tT s = ByteArray.empty) := by unfold tT; rw [if_neg (by rw [HE.out]; omega)]; exact rfl
    have HR : Hid (tR s = ByteArray.empty) := by unfold tR; rw [if_neg (by rw [HE.out]; omega)]; exact rfl
    have HRR : Hid (rR s = ByteArray.empty) := by unfold rR; rw [if_neg h0]; exact rfl
    have HNU := hide hn
    clear hn
    generalize rN s = n at *
    generalize rR s = R at *
    generalize rE s = E at *
    go_enter Try.func83, Try.ntmps83
    go_wp2_with fail
    refine HNU.out.mono ?_
    rintro e w1 ⟨rfl, hR1, hB1⟩
    have HR1 := hide hR1
    have HB1 := hide hB1
    clear hR1 hB1
    go_wp2_with fail
    refine (failed_yes b R E w1 HR1.out h0).mono ?_
    rintro e w2 ⟨rfl, rfl⟩
    go_wp2_with fail
    go_ret
    exact ⟨ret_str HT.out.symm, by rw [HR.out, HE.out, ← HRR.out]; exact HR1.out, HB1.out⟩
set_option maxRecDepth 100000 in
set_option maxHeartbeats 2000000 in
theorem rtext_err (b : Nat) (s : ByteArray) (e : Nat) (w : World) (h : RdAt w b 131 s e) (he : e ≠ 0) : Calls Try.prog 83 #[.pointer (some ⟨b, 0, none⟩)] w fun r w' => r = .returned (.string ByteArray.empty) ∧ w = w' := by
  have H := hide h
  clear h
  go_enter Try.func83, Try.ntmps83
  go_wp2_with fail
  refine (rnum_err b s e w H.out he).mono ?_
  rintro e1 w1 ⟨rfl, rfl⟩
  go_wp2_with fail
  refine (failed_yes b s e w H.out he).mono ?_
  rintro e w1 ⟨rfl, rfl⟩
  go_wp2_with fail
  go_ret
  exact ⟨rfl, rfl⟩
set_option maxRecDepth 100000 in
set_option maxHeartbeats 2000000 in
theorem rtext_nil (w : World) : Calls Try.prog 83 #[.pointer none] w fun r w' => r = .returned (.string ByteArray.empty) ∧ w = w' := by
  go_enter Try.func83, Try.ntmps83
  go_wp2_with fail
  refine (rnum_nil w).mono ?_
  rintro e1 w1 ⟨rfl, rfl⟩
  go_wp2_with fail
  refine (failed_nil w).mono ?_
  rintro e w1 ⟨rfl, rfl⟩
  go_wp2_with fail
  go_ret
  exact ⟨rfl, rfl⟩
theorem not_empty {s : ByteArray} (h : s.size ≠ 0) : s.toList.isEmpty = false := by
  rw [ByteArray.toList_eq]
  have : s.data.toList.length ≠ 0 := by rw [Array.length_toList]; exact h
  cases hl : s.data.toList with
  | nil => rw [hl] at this; exact absurd rfl this
  | cons _ _ => rfl
theorem ext_all (s : ByteArray) : s.extract 0 s.size = s := by
  have h := ext_head s ByteArray.empty
  rw [app_nil] at h
  exact h
theorem ext_none (s : ByteArray) : s.extract s.size s.size = ByteArray.empty := size_zero (by rw [ByteArray.size_extract]; omega)
set_option maxRecDepth 100000 in
set_option maxHeartbeats 2000000 in
theorem rrest_ok (b : Nat) (s : ByteArray) (w : World) (h : RdAt w b 131 s 0) : Calls Try.prog 84 #[.pointer (some ⟨b, 0, none⟩)] w fun r w' => r = .returned (.string s) ∧ RdAt w' b 131 ByteArray.empty 0 ∧ But b w w' := by
  have H := hide h
  have hc0 := h.left
  clear h
  go_enter Try.func84, Try.ntmps84
  go_wp2_with fail
  refine (failed_no b s w H.out).mono ?_
  rintro e w1 ⟨rfl, rfl⟩
  go_wp2_with fail
  refine (take_any b s 0 s.size w H.out (Nat.le_refl _)).mono ?_
  rw [ext_all, ext_none]
  rintro e w1 ⟨rfl, hR1, hB1⟩
  have HR1 := hide hR1
  have HB1 := hide hB1
  clear hR1 hB1 hc0
  go_wp2_with fail
  go_ret
  exact ⟨rfl, HR1.out, HB1.out⟩
set_option maxRecDepth 100000 in
set_option maxHeartbeats 2000000 in
theorem rrest_err (b : Nat) (s : ByteArray) (e : Nat) (w : World) (h : RdAt w b 131 s e) (he : e ≠ 0) : Calls Try.prog 84 #[.pointer (some ⟨b, 0, none⟩)] w fun r w' => r = .returned (.string ByteArray.empty) ∧ w = w' := by
  have H := hide h
  clear h
  go_enter Try.func84, Try.ntmps84
  go_wp2_with fail
  refine (failed_yes b s e w H.out he).mono ?_
  rintro e w1 ⟨rfl, rfl⟩
  go_wp2_with fail
  go_ret
  exact ⟨rfl, rfl⟩
set_option maxRecDepth 100000 in
set_option maxHeartbeats 2000000 in
theorem rrest_nil (w : World) : Calls Try.prog 84 #[.pointer none] w fun r w' => r = .returned (.string ByteArray.empty) ∧ w = w' := by
  go_enter Try.func84, Try.ntmps84
  go_wp2_with fail
  refine (failed_nil w).mono ?_
  rintro e w1 ⟨rfl, rfl⟩
  go_wp2_with fail
  go_ret
  exact ⟨rfl, rfl⟩
set_option maxRecDepth 100000 in
set_option maxHeartbeats 2000000 in
theorem read_any (s : ByteArray) (w : World) : Calls Try.prog 65 #[.string s] w fun r w' => ∃ b, r = .returned (.pointer (some ⟨b, 0, none⟩)) ∧ b = w.heap.size ∧ w'.heap.size = b + 1 ∧ RdAt w' b 131 s 0 ∧ Below w.heap.size w w' := by
  go_enter Try.func65, Try.ntmps65
  go_wp2_with fail
  go_ret
  exact ⟨_, rfl, rfl, World.size_alloc _ _, heap_alloc_new _ _, (Below.refl _ _).alloc (Nat.le_refl _) _⟩
set_option maxRecDepth 100000 in
set_option maxHeartbeats 2000000 in
theorem ptext_any (s : ByteArray) (w : World) (hs : s.size ≤ 1000000000000000) : Calls Try.prog 60 #[.string s] w fun e w' => e = .returned (.string (textS s)) ∧ Below w.heap.size w w' := by
  have HT : Hid (textS s = numS s.size ++ s) := rfl
  have hz := numS_size s.size
  have hz8 := nlen_top (n := s.size) (by omega)
  go_enter Try.func60, Try.ntmps60
  go_wp2_with fail
  refine (number_nat s.size w (by omega)).mono ?_
  rintro e w1 ⟨rfl, hb1⟩
  have HB1 := hide hb1
  clear hb1
  generalize numS s.size = N at *
  go_wp2_with fail
  go_ret
  exact ⟨ret_str HT.out.symm, HB1.out⟩
end Go.Proofs.Ytaiafbihcfbglaa
