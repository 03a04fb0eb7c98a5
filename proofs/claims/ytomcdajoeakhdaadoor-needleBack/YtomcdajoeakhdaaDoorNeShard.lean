/- A text in six parts: what needle.Shards and the reference's answer. -/
import Derived.Test.YtomcdajoeakhdaaDoorNeStr
namespace Go.Proofs.YtomcdajoeakhdaaDoor
open Go.RowKit
set_option linter.unusedVariables false
/-- bytes 0 behind a text, up to 384 -/
def padS (s : ByteArray) : ByteArray := s ++ zer (384 - s.size)
theorem padS_size {s : ByteArray} (h : s.size ≤ 384) : (padS s).size = 384 := by unfold padS; rw [ByteArray.size_append, zer_size]; omega
def shd (s : ByteArray) (i : Nat) : ByteArray := (padS s).extract (i * 64) ((i + 1) * 64)
def shl (s : ByteArray) (k : Nat) : List ByteArray := (List.range k).map (shd s)
theorem shl_len (s : ByteArray) (k : Nat) : (shl s k).length = k := by simp [shl]
theorem shl_succ (s : ByteArray) (k : Nat) : shl s (k + 1) = shl s k ++ [shd s k] := by unfold shl; rw [List.range_succ, List.map_append]; rfl
theorem shl_strs (s : ByteArray) (k : Nat) : strsV (shl s (k + 1)) = strsV (shl s k) ++ [.string (shd s k)] := by rw [shl_succ]; unfold strsV; rw [List.map_append]; rfl
theorem make_bytes (n : Nat) (h : n ≤ 1000000) (w : World) : (Instr.makeSlice 59 (.int .i64 (n : Int)) (.int .i64 (n : Int))).run Tryd.prog w = .ok (.slice (some ⟨w.heap.size, 0, none⟩) n n) (w.alloc (.cells (fnC n fun _ => .int .u8 0) 5)) := by
  obtain ⟨i0, hi, hz0, hz1, hz2⟩ := info_parts u8_info
  have h := run_make (P := Tryd.prog) w 59 5 i0 (.int .u8 0) Tryd.underlying59 hi hz0 .i64 .i64 n n (by omega) (by omega) (by rw [hz2]; omega) (by omega)
  rw [hz1] at h
  rw [h]
  simp only [Int.toNat_natCast, Nat.mul_one]
  rw [show (Value.int IntKind.u8 0).cells = #[.int .u8 0] from rfl, fnC_made]
theorem conv_zer (n : Nat) (h : n ≤ 1000000) (w : World) : (convert 59 9 (.slice (some ⟨w.heap.size, 0, none⟩) n n)).run Tryd.prog (w.alloc (.cells (fnC n fun _ => .int .u8 0) 5)) = .ok (.string (zer n)) (w.alloc (.cells (fnC n fun _ => .int .u8 0) 5)) := by
  refine own_string (base := w.heap.size) (f := fun _ => 0) ⟨by rw [bys_len]; omega, .inr ⟨w.heap.size, n, _, rfl, Nat.le_refl _, heap_alloc_new _ _, Nat.le_refl _, by unfold maxLen; omega, by rw [fnC_size]; omega, ?_⟩⟩
  apply List.ext_getElem?
  intro i
  rw [Nat.mul_one, List.getElem?_take]
  by_cases hi : i < n
  · rw [if_pos hi, Array.getElem?_toList, fnC_at _ hi]; simp [bys, hi]
  · rw [if_neg hi]; simp [bys, hi]
set_option maxRecDepth 100000 in
set_option maxHeartbeats 8000000 in
theorem nshards_big (s : ByteArray) (w : World) (hs : 384 < s.size) : Calls Tryd.prog 23 #[.string s] w fun r w' => r = .returned (.tuple #[.slice none 0 0, .int .i64 12]) ∧ w = w' := by
  go_enter Tryd.func23, Tryd.ntmps23
  go_wp2_with fail
  try go_ret2
  exact ⟨rfl, rfl⟩
set_option maxRecDepth 100000 in
set_option maxHeartbeats 8000000 in
theorem rshards_big (s : ByteArray) (w : World) (hs : 384 < s.size) : Calls Tryd.prog 24 #[.string s] w fun r w' => r = .returned (.tuple #[.slice none 0 0, .int .i64 12]) ∧ w = w' := by
  go_enter Tryd.func24, Tryd.ntmps24
  go_wp2_with fail
  try go_ret2
  exact ⟨rfl, rfl⟩
theorem six_row {w wr : World} {v : Value} {s : ByteArray} (h : GR w wr 9 1 v 6 (strsV (shl s 6))) : ∃ a c, v = .slice a 6 c ∧ 6 ≤ c ∧ StrsAt wr a (shl s 6) := by
  have h' : GR w wr 9 1 v (shl s 6).length (strsV (shl s 6)) := by rw [shl_len]; exact h
  obtain ⟨a, c, e, hc, hst⟩ := h'.strs
  rw [shl_len] at e hc
  exact ⟨a, c, e, hc, hst⟩
def ShLeft (s : ByteArray) (w : World) (r : Ending) (w' : World) : Prop := ∃ a c, r = .returned (.tuple #[.slice a 6 c, .int .i64 0]) ∧ 6 ≤ c ∧ StrsAt w' a (shl s 6) ∧ Below w.heap.size w w'
set_option maxRecDepth 100000 in
set_option maxHeartbeats 8000000 in
theorem nshards_ok (s : ByteArray) (w : World) (hs : s.size ≤ 384) : Calls Tryd.prog 23 #[.string s] w (ShLeft s w) := by
  obtain ⟨i0, hi0, hz0, hz1, hz2⟩ := info_parts str_info
  have HI := hide hi0
  have HI0 := hide hz0
  have HI1 := hide hz1
  have HI2 := hide hz2
  clear hi0 hz0 hz1 hz2
  have hp : Hid (s ++ zer (384 - s.size) = padS s) := rfl
  have hzz := zer_size (384 - s.size)
  have hps := padS_size hs
  have HSH : Hid (∀ k, (padS s).extract (k * 64) ((k + 1) * 64) = shd s k) := fun k => rfl
  obtain ⟨m, hm⟩ : ∃ m : Nat, 384 - s.size = m := ⟨_, rfl⟩
  have hmi : (384 : Int) - (s.size : Int) = (m : Int) := by omega
  rw [hm] at hp hzz
  go_enter Tryd.func23, Tryd.ntmps23
  go_wp2_with fail
  refine (repeat_any m w (by omega)).mono ?_
  rintro e w1 ⟨rfl, hb1⟩
  have HB1 := hide hb1
  clear hb1
  generalize zer m = Z at *
  go_wp2_with fail
  rw [hp.out]
  clear hp hzz
  generalize padS s = P at *
  go_loopw [4, 15] (fun v y wr => ∃ k : Nat, k ≤ 6 ∧ y = .int .i64 k ∧ GR w wr 9 1 v k (strsV (shl s k))) (fun _ y _ => 6 - (intOf y).toNat)
  case atStart => exact ⟨0, by omega, rfl, GR.nil _ _ _ _ HB1.out⟩
  case round =>
    obtain ⟨k, hk, rfl, hrel⟩ := hrel
    have H := hide hrel
    have hsz := hrel.2.size
    clear hrel
    by_cases hlt : k < 6
    · have hdj : decide ((k : Int) < 6) = true := by simp; omega
      have hki : (k : Int) < 6 := by omega
      go_wp2_with (first | (at_builtin; refine wpList_append_own _ rfl (.tmp 18) (.tmp 26) 49 rfl w.heap.size 9 i0 (.string ByteArray.empty) 1 16 Tryd.underlying49 HI.out HI0.out HI1.out HI2.out rfl (by decide) _ k (strsV (shl s k)) rfl (H.out.1.alloc _) ⟨wr.heap.size, 0, none⟩ 1 1 [.string (P.extract (k * 64) ((k + 1) * 64))] rfl rfl (cell_one_new _ _ _) (by simp [Value.oneCell']) (by unfold maxLen; omega) (by omega) (by rw [World.size_alloc]; omega) ?_; intro v' w3 hown hgr hnil; clear hnil; have HN3 := hide (H.out.step hown hgr); clear hown hgr))
      rw [HSH.out k, ← shl_strs] at HN3
      first | exact ⟨⟨k + 1, by omega, by go_num, HN3.out⟩, by simp [intOf]; omega⟩ | (go_roundw; case rel => exact ⟨k + 1, by omega, by go_num, HN3.out⟩; case measure => simp [intOf]; omega)
    · obtain rfl : k = 6 := by omega
      obtain ⟨a, c, rfl, hc, hst⟩ := six_row H.out
      have HST := hide hst
      clear hst
      go_wp2_with fail
      try go_ret2
      exact ⟨a, c, rfl, hc, HST.out, H.out.2⟩
set_option maxRecDepth 100000 in
set_option maxHeartbeats 8000000 in
theorem rshards_ok (s : ByteArray) (w : World) (hs : s.size ≤ 384) : Calls Tryd.prog 24 #[.string s] w (ShLeft s w) := by
  obtain ⟨i0, hi0, hz0, hz1, hz2⟩ := info_parts str_info
  have HI := hide hi0
  have HI0 := hide hz0
  have HI1 := hide hz1
  have HI2 := hide hz2
  clear hi0 hz0 hz1 hz2
  have hp : Hid (s ++ zer (384 - s.size) = padS s) := rfl
  have hzz := zer_size (384 - s.size)
  have hps := padS_size hs
  have HSH : Hid (∀ k, (padS s).extract (64 * k) (64 * k + 64) = shd s k) := fun k => by unfold shd; rw [Nat.mul_comm k 64, show (k + 1) * 64 = 64 * k + 64 by omega]
  obtain ⟨m, hm⟩ : ∃ m : Nat, 384 - s.size = m := ⟨_, rfl⟩
  have hmi : (384 : Int) - (s.size : Int) = (m : Int) := by omega
  rw [hm] at hp hzz
  have hmk := make_bytes m (by omega) w
  have hcv := conv_zer m (by omega) w
  have HB1 : Hid (Below w.heap.size w (w.alloc (.cells (fnC m fun _ => .int .u8 0) 5))) := (Below.refl _ _).alloc (Nat.le_refl _) _
  generalize zer m = Z at *
  go_enter Tryd.func24, Tryd.ntmps24
  go_wp2_with fail
  rw [hp.out]
  clear hp hzz
  generalize padS s = P at *
  go_loopw [4, 5] (fun v y wr => ∃ k : Nat, k ≤ 6 ∧ y = .int .i64 k ∧ GR w wr 9 1 v k (strsV (shl s k))) (fun _ y _ => 6 - (intOf y).toNat)
  case atStart => exact ⟨0, by omega, rfl, GR.nil _ _ _ _ HB1.out⟩
  case round =>
    obtain ⟨k, hk, rfl, hrel⟩ := hrel
    have H := hide hrel
    have hsz := hrel.2.size
    clear hrel
    by_cases hlt : k < 6
    · have hdj : decide ((k : Int) < 6) = true := by simp; omega
      have hki : (k : Int) < 6 := by omega
      go_wp2_with (first | (at_builtin; refine wpList_append_own _ rfl (.tmp 20) (.tmp 28) 49 rfl w.heap.size 9 i0 (.string ByteArray.empty) 1 16 Tryd.underlying49 HI.out HI0.out HI1.out HI2.out rfl (by decide) _ k (strsV (shl s k)) rfl (H.out.1.alloc _) ⟨wr.heap.size, 0, none⟩ 1 1 [.string (P.extract (64 * k) (64 * k + 64))] rfl rfl (cell_one_new _ _ _) (by simp [Value.oneCell']) (by unfold maxLen; omega) (by omega) (by rw [World.size_alloc]; omega) ?_; intro v' w3 hown hgr hnil; clear hnil; have HN3 := hide (H.out.step hown hgr); clear hown hgr))
      rw [HSH.out k, ← shl_strs] at HN3
      first | exact ⟨⟨k + 1, by omega, by go_num, HN3.out⟩, by simp [intOf]; omega⟩ | (go_roundw; case rel => exact ⟨k + 1, by omega, by go_num, HN3.out⟩; case measure => simp [intOf]; omega)
    · obtain rfl : k = 6 := by omega
      obtain ⟨a, c, rfl, hc, hst⟩ := six_row H.out
      have HST := hide hst
      clear hst
      go_wp2_with fail
      try go_ret2
      exact ⟨a, c, rfl, hc, HST.out, H.out.2⟩
end Go.Proofs.YtomcdajoeakhdaaDoor
