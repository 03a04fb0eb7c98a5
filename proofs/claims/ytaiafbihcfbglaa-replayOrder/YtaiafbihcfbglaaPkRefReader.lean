/- What the calls of the document's reader answer. -/
import Derived.Test.YtaiafbihcfbglaaPkRefRead
namespace Go.Proofs.Ytaiafbihcfbglaa
open Go.RowKit
set_option maxRecDepth 100000 in
set_option maxHeartbeats 2000000 in
theorem qnum_ok (b : Nat) (s : ByteArray) (w : World) (h : RdAt w b 84 s 0) (hs : s.size ≤ 1000000) : Calls Try.prog 38 #[.pointer (some ⟨b, 0, none⟩)] w fun r w' => r = .returned (.int .i64 (rN s : Nat)) ∧ RdAt w' b 84 (rR s) (rE s) ∧ But b w w' := by
  have H := hide h
  have hc0 := h.left
  have hc1 := h.err
  clear h
  have HT := hide (take_ref s w hs)
  generalize rN s = n at *
  generalize rR s = R at *
  generalize rE s = E at *
  go_enter Try.func38, Try.ntmps38
  go_wp2_with fail
  refine HT.out.mono ?_
  rintro e w1 ⟨rfl, hsm⟩
  have HS := hide hsm
  have hr1 := H.out.sm hsm
  have HR1 := hide hr1
  have hc2 := hr1.left
  have hc3 := hr1.err
  have hf2 := hr1.free 0
  have hf3 := hr1.free 1
  clear hsm hr1 hc0 hc1
  go_wp2_with fail
  go_ret
  exact ⟨rfl, (HR1.out.setLeft _).setErr _, ((HS.out.but b).set _).set _⟩
set_option maxRecDepth 100000 in
set_option maxHeartbeats 2000000 in
theorem qnum_err (b : Nat) (s : ByteArray) (e : Nat) (w : World) (h : RdAt w b 84 s e) (he : e ≠ 0) : Calls Try.prog 38 #[.pointer (some ⟨b, 0, none⟩)] w fun r w' => r = .returned (.int .i64 0) ∧ w = w' := by
  have hc1 := h.err
  have hq : ((e : Int) != 0) = true := by simp; omega
  clear h
  go_enter Try.func38, Try.ntmps38
  go_wp2_with fail
  go_ret
  exact ⟨rfl, rfl⟩
set_option maxRecDepth 100000 in
set_option maxHeartbeats 2000000 in
theorem qtext_ok (b : Nat) (s : ByteArray) (w : World) (h : RdAt w b 84 s 0) (hs : s.size ≤ 1000000) : Calls Try.prog 39 #[.pointer (some ⟨b, 0, none⟩)] w fun r w' => r = .returned (.string (tT s)) ∧ RdAt w' b 84 (tR s) (tE s) ∧ But b w w' := by
  have HNU := hide (qnum_ok b s w h hs)
  have hnl := rN_lt s
  have hzs := rR_size s
  clear h
  by_cases h0 : rE s = 0
  · rw [h0] at HNU
    by_cases hc : (rR s).size < rN s
    · have HE : Hid (tE s = 3) := by unfold tE; rw [if_neg (by omega), if_pos hc]; exact rfl
      have HT : Hid (tT s = ByteArray.empty) := by unfold tT; rw [if_neg (by rw [HE.out]; omega)]; exact rfl
      have HR : Hid (tR s = ByteArray.empty) := by unfold tR; rw [if_neg (by rw [HE.out]; omega)]; exact rfl
      clear h0
      generalize rN s = n at *
      generalize rR s = R at *
      have hq : ((R.size : Int) < (n : Int)) := by omega
      go_enter Try.func39, Try.ntmps39
      go_wp2_with fail
      refine HNU.out.mono ?_
      rintro e w1 ⟨rfl, hR1, hB1⟩
      have HR1 := hide hR1
      have HB1 := hide hB1
      have hc0 := hR1.left
      have hc1 := hR1.err
      have hf0 := hR1.free 0
      have hf1 := hR1.free 1
      clear hR1 hB1
      go_wp2_with fail
      go_ret
      exact ⟨ret_str HT.out.symm, by rw [HR.out, HE.out]; exact (HR1.out.setErr 3).setLeft _, (HB1.out.set _).set _⟩
    · have HE : Hid (tE s = 0) := by unfold tE; rw [if_neg (by omega), if_neg hc]; exact rfl
      have HT : Hid (tT s = (rR s).extract 0 (rN s)) := by unfold tT; rw [if_pos HE.out]; exact rfl
      have HR : Hid (tR s = (rR s).extract (rN s) (rR s).size) := by unfold tR; rw [if_pos HE.out]; exact rfl
      clear h0
      generalize rN s = n at *
      generalize rR s = R at *
      have hq : ((n : Int) ≤ (R.size : Int)) := by omega
      have hq2 : n ≤ R.size := by omega
      go_enter Try.func39, Try.ntmps39
      go_wp2_with fail
      refine HNU.out.mono ?_
      rintro e w1 ⟨rfl, hR1, hB1⟩
      have HR1 := hide hR1
      have HB1 := hide hB1
      have hc0 := hR1.left
      have hc1 := hR1.err
      have hf0 := hR1.free 0
      clear hR1 hB1
      go_wp2_with fail
      go_ret
      exact ⟨ret_str HT.out.symm, by rw [HR.out, HE.out]; exact HR1.out.setLeft _, HB1.out.set _⟩
  · have HE : Hid (tE s = rE s) := by unfold tE; rw [if_pos (by omega)]; exact rfl
    have HT : Hid (tT s = ByteArray.empty) := by unfold tT; rw [if_neg (by rw [HE.out]; omega)]; exact rfl
    have HR : Hid (tR s = ByteArray.empty) := by unfold tR; rw [if_neg (by rw [HE.out]; omega)]; exact rfl
    generalize rN s = n at *
    generalize rR s = R at *
    generalize rE s = E at *
    have hq : ((E : Int) == 0) = false := by simp; omega
    have hq2 : ((E : Int) != 0) = true := by simp; omega
    go_enter Try.func39, Try.ntmps39
    go_wp2_with fail
    refine HNU.out.mono ?_
    rintro e w1 ⟨rfl, hR1, hB1⟩
    have HR1 := hide hR1
    have HB1 := hide hB1
    have hc0 := hR1.left
    have hc1 := hR1.err
    have hf0 := hR1.free 0
    clear hR1 hB1
    go_wp2_with fail
    go_ret
    exact ⟨ret_str HT.out.symm, by rw [HR.out, HE.out]; exact HR1.out.setLeft _, HB1.out.set _⟩
set_option maxRecDepth 100000 in
set_option maxHeartbeats 2000000 in
theorem qtext_err (b : Nat) (s : ByteArray) (e : Nat) (w : World) (h : RdAt w b 84 s e) (he : e ≠ 0) : Calls Try.prog 39 #[.pointer (some ⟨b, 0, none⟩)] w fun r w' => r = .returned (.string ByteArray.empty) ∧ RdAt w' b 84 ByteArray.empty e ∧ But b w w' := by
  have H := hide h
  have hc0 := h.left
  have hc1 := h.err
  have hf0 := h.free 0
  have hq : ((e : Int) == 0) = false := by simp; omega
  have hq2 : ((e : Int) != 0) = true := by simp; omega
  clear h
  go_enter Try.func39, Try.ntmps39
  go_wp2_with fail
  refine (qnum_err b s e w H.out he).mono ?_
  rintro e1 w1 ⟨rfl, rfl⟩
  go_wp2_with fail
  go_ret
  exact ⟨rfl, H.out.setLeft _, (But.refl _ _).set _⟩
set_option maxRecDepth 100000 in
set_option maxHeartbeats 2000000 in
theorem qrest_ok (b : Nat) (s : ByteArray) (w : World) (h : RdAt w b 84 s 0) : Calls Try.prog 41 #[.pointer (some ⟨b, 0, none⟩)] w fun r w' => r = .returned (.string s) ∧ RdAt w' b 84 ByteArray.empty 0 ∧ But b w w' := by
  have H := hide h
  have hc0 := h.left
  have hc1 := h.err
  have hf0 := h.free 0
  clear h
  go_enter Try.func41, Try.ntmps41
  go_wp2_with fail
  go_ret
  exact ⟨rfl, H.out.setLeft _, (But.refl _ _).set _⟩
set_option maxRecDepth 100000 in
set_option maxHeartbeats 2000000 in
theorem qrest_err (b : Nat) (s : ByteArray) (e : Nat) (w : World) (h : RdAt w b 84 s e) (he : e ≠ 0) : Calls Try.prog 41 #[.pointer (some ⟨b, 0, none⟩)] w fun r w' => r = .returned (.string ByteArray.empty) ∧ RdAt w' b 84 ByteArray.empty e ∧ But b w w' := by
  have H := hide h
  have hc0 := h.left
  have hc1 := h.err
  have hf0 := h.free 0
  have hq2 : ((e : Int) != 0) = true := by simp; omega
  clear h
  go_enter Try.func41, Try.ntmps41
  go_wp2_with fail
  go_ret
  exact ⟨rfl, H.out.setLeft _, (But.refl _ _).set _⟩
set_option maxRecDepth 100000 in
set_option maxHeartbeats 2000000 in
theorem qend_err (b : Nat) (s : ByteArray) (e : Nat) (w : World) (h : RdAt w b 84 s e) (he : e ≠ 0) : Calls Try.prog 42 #[.pointer (some ⟨b, 0, none⟩)] w fun r w' => r = .returned (.int .i64 (e : Int)) ∧ w = w' := by
  have hc0 := h.left
  have hc1 := h.err
  have hq : ((e : Int) == 0) = false := by simp; omega
  clear h
  go_enter Try.func42, Try.ntmps42
  go_wp2_with fail
  go_ret
  exact ⟨rfl, rfl⟩
set_option maxRecDepth 100000 in
set_option maxHeartbeats 2000000 in
theorem qend_done (b : Nat) (w : World) (h : RdAt w b 84 ByteArray.empty 0) : Calls Try.prog 42 #[.pointer (some ⟨b, 0, none⟩)] w fun r w' => r = .returned (.int .i64 0) ∧ w = w' := by
  have hc0 := h.left
  have hc1 := h.err
  clear h
  go_enter Try.func42, Try.ntmps42
  go_wp2_with fail
  go_ret
  exact ⟨rfl, rfl⟩
set_option maxRecDepth 100000 in
set_option maxHeartbeats 2000000 in
theorem qend_left (b : Nat) (s : ByteArray) (w : World) (h : RdAt w b 84 s 0) (hs : s.size ≠ 0) : Calls Try.prog 42 #[.pointer (some ⟨b, 0, none⟩)] w fun r w' => r = .returned (.int .i64 4) ∧ RdAt w' b 84 s 4 ∧ But b w w' := by
  have H := hide h
  have hc0 := h.left
  have hc1 := h.err
  have hf1 := h.free 1
  have hq : s.toList.isEmpty = false := not_empty hs
  clear h
  go_enter Try.func42, Try.ntmps42
  go_wp2_with fail
  go_ret
  exact ⟨rfl, H.out.setErr 4, (But.refl _ _).set _⟩
end Go.Proofs.Ytaiafbihcfbglaa
