/- What sluicegateref03.filled answers: the filled text, in a row of its own. -/
import Derived.Test.YtlpibpkbgmcclaaGreatDoorShFinX
import Derived.Test.YtlpibpkbgmcclaaGreatDoorRowX
import Derived.Deep.DeepCutAuto
namespace Go.Proofs.YtlpibpkbgmcclaaGreatDoor
open Go.RowKit
def rowLen : Value → Nat
  | .slice _ n _ => n
  | _ => 0
theorem BR.len {w : World} {base : Nat} {v : Value} {n : Nat} {f : Nat → Nat} (h : BR w base v n f) : rowLen v = n := by obtain ⟨g, cap, rfl, _⟩ := h; rfl
theorem BRel.form {w wr : World} {f : Nat → Nat} {v : Value} {k : Nat} (h : BRel w wr f v k) : ∃ g cap, v = .slice (some ⟨g, 0, none⟩) k cap ∧ k ≤ cap ∧ cap ≤ 9223372036854775807 := by
  obtain ⟨⟨g, cap, rfl, _, h1, h2, _⟩, _⟩ := h
  exact ⟨g, cap, rfl, h1, h2⟩
theorem fb_old {f : Nat → Nat} {n p : Nat} (h : p < n) : Sh.fb f n p = f p := by unfold Sh.fb; rw [if_pos h]
theorem fl_not {n k : Nat} (h1 : n + 1 ≤ k) (h2 : k < Sh.fl n - 8) : k % 64 ≠ 56 := by have := fl_mod n; omega
theorem fl_end (n : Nat) : (Sh.fl n - 8) % 64 = 56 := by have := fl_mod n; omega
theorem fill_byte {s : ByteArray} {i : Nat} (_ : s.size ≤ 1000000) (hi : i ≤ 7) : ((8 * (s.size : Int)) / 2 ^ (8 * i) % 256 = (((8 * s.size) >>> (8 * i) % 256 : Nat) : Int)) ∧ (8 * s.size) >>> (8 * i) % 256 = Sh.fb (bt s) s.size (Sh.fl s.size - (i + 1)) := by
  constructor
  · rw [Nat.shiftRight_eq_div_pow]; simp
  · have := fl_mod s.size
    rw [fb_len (by omega) (by omega)]
    congr 3; omega
set_option maxRecDepth 100000 in
set_option maxHeartbeats 2000000 in
theorem refFilled_any (s : ByteArray) (w : World) (hs : s.size ≤ 1000000) :
    Calls Tryz.prog 35 #[.string s] w fun e w' => ∃ v, e = .returned v ∧ BRel w w' (Sh.fb (bt s) s.size) v (Sh.fl s.size) := by
  obtain ⟨hm1, hm2, hm3⟩ := fl_mod s.size
  have hcv := run_bytes_of_string (P := Tryz.prog) w 9 57 5 s Tryz.underlying9 Tryz.underlying57 Tryz.underlying5
  have hge := grownCap_ge w s.size 0 5
  have hcm : grownCap w s.size 0 5 ≤ maxLen := grownCap_le_maxLen w s.size 0 5 (by unfold maxLen; omega)
  generalize grownCap w s.size 0 5 = cap at *
  have HNW : Hid (BRel w ((w.alloc (.cells (bytesRow s cap) 5 ((bytesRow s cap).size, (bytesRow s cap).size + 1))).drew) (Sh.fb (bt s) s.size) (.slice (some ⟨w.heap.size, 0, none⟩) s.size cap) s.size) :=
    ⟨(br_new w s cap hge hcm w.heap.size (Nat.le_refl _)).congr fun p hp => (fb_old hp).symm, ((Below.refl _ _).alloc (Nat.le_refl _) _).drew⟩
  have hcm' : cap ≤ 9223372036854775807 := hcm
  go_enter Tryz.func35, Tryz.ntmps35
  go_upto_region 2 with fail
  clear hcv
  generalize (w.alloc (.cells (bytesRow s cap) 5 ((bytesRow s cap).size, (bytesRow s cap).size + 1))).drew = W at *
  have hsz := HNW.out.2.size
  go_wp2_with (first | (at_builtin; refine wpList_append_br _ rfl (.tmp 8) (.tmp 9) rfl w.heap.size _ s.size 128 (Sh.fb (bt s) s.size) rfl (HNW.out.1.alloc _) (fb_mark _ _).symm ⟨W.heap.size, 0, none⟩ 1 rfl (new_one _ _) (by omega) (by simp; omega) ?_; intro v' w3 hown hgr; have HN3 := hide (bRel_step HNW.out hown hgr); clear hown hgr))
  clear HNW hge hcm hcm'
  go_loopw [3] (fun v wr => ∃ k : Nat, s.size + 1 ≤ k ∧ k ≤ Sh.fl s.size - 8 ∧ BRel w wr (Sh.fb (bt s) s.size) v k) (fun v _ => Sh.fl s.size - rowLen v)
  case atStart => exact ⟨s.size + 1, by omega, by omega, HN3.out⟩
  case round =>
    obtain ⟨k, hk1, hk2, hrel⟩ := hrel
    clear HN3
    obtain ⟨g, cap, rfl, hgc, hcm⟩ := hrel.form
    have H := hide hrel
    have hsz2 := hrel.2.size
    clear hrel
    by_cases hlt : k < Sh.fl s.size - 8
    · have hne : ((k : Int) % 64 != 56) = true := by have := fl_not hk1 hlt; simp; omega
      have HZ : Hid (0 = Sh.fb (bt s) s.size k) := (fb_zero (by omega) hlt).symm
      go_wp2_with (first | (at_builtin; refine wpList_append_br _ rfl (.tmp 15) (.tmp 16) rfl w.heap.size _ k 0 (Sh.fb (bt s) s.size) rfl (H.out.1.alloc _) HZ.out ⟨wr.heap.size, 0, none⟩ 1 rfl (new_one _ _) (by omega) (by simp; omega) ?_; intro v' w3 hown hgr; have HN3 := hide (bRel_step H.out hown hgr); clear hown hgr))
      exact ⟨⟨k + 1, by omega, by omega, HN3.out⟩, by rw [HN3.out.1.len]; simp only [rowLen]; omega⟩
    · have HKE : Hid (k = Sh.fl s.size - 8) := by show k = _; omega
      have hne : ((k : Int) % 64 != 56) = false := by have := fl_end s.size; have := HKE.out; simp; omega
      go_wp2_with fail
      go_loopw [3, 5] (fun v y wr => ∃ m : Nat, m ≤ 8 ∧ y = .int .i64 ((m : Int) - 1) ∧ BRel w wr (Sh.fb (bt s) s.size) v (Sh.fl s.size - m)) (fun _ y _ => (intOf y + 1).toNat)
      case atStart => exact ⟨8, by omega, rfl, by rw [← HKE.out]; exact H.out⟩
      case round =>
        obtain ⟨m, hm8, rfl, hrel⟩ := hrel
        clear H HKE hne hgc hcm hsz2 hlt hk1 hk2
        obtain ⟨g, cap, rfl, hgc, hcm⟩ := hrel.form
        have H := hide hrel
        have hsz2 := hrel.2.size
        clear hrel
        by_cases h0 : m = 0
        · subst h0
          go_wp2_with fail
          go_ret
          exact ⟨_, rfl, H.out⟩
        · obtain ⟨i, rfl⟩ : ∃ i, m = i + 1 := ⟨m - 1, by omega⟩
          have e : (((i + 1 : Nat) : Int) - 1) = (i : Int) := by omega
          rw [e]
          have HX := hide (fill_byte (s := s) (i := i) hs (by omega))
          have HK1 : Hid (Sh.fl s.size - (i + 1) + 1 = Sh.fl s.size - i) := by show _ = _; omega
          have hkl : Sh.fl s.size - (i + 1) < 1000000000 := by omega
          have hi7 : i ≤ 7 := by omega
          clear h0 e hm8
          generalize Sh.fl s.size - (i + 1) = k at *
          have hni : decide ((0 : Int) ≤ (i : Int)) = true := by simp
          go_wp2_with (first | (at_builtin; refine wpList_append_br _ rfl (.tmp 25) (.tmp 32) rfl w.heap.size _ k ((8 * s.size) >>> (8 * i) % 256) (Sh.fb (bt s) s.size) rfl (H.out.1.alloc _) HX.out.2 ⟨wr.heap.size, 0, none⟩ 1 rfl (by rw [← HX.out.1]; exact new_one _ _) hkl (by simp; omega) ?_; intro v' w3 hown hgr; have HN3 := hide (bRel_step H.out hown hgr); clear hown hgr))
          rw [HK1.out] at HN3
          exact ⟨⟨i, by omega, by go_num, HN3.out⟩, by simp [intOf]⟩
end Go.Proofs.YtlpibpkbgmcclaaGreatDoor
