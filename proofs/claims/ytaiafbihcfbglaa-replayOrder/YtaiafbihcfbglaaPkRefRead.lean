/- What the document's reader answers. -/
import Derived.Test.YtaiafbihcfbglaaPkRefNum
import Derived.OwnWalk
namespace Go.Proofs.Ytaiafbihcfbglaa
open Go.RowKit
/-- memory is as it was -/
structure Sm (w w' : World) : Prop where
  os : w'.os = w.os
  tape : w'.tape = w.tape
  output : w'.output = w.output
  heap : w'.heap = w.heap
theorem Sm.refl (w : World) : Sm w w := ⟨rfl, rfl, rfl, rfl⟩
theorem Sm.drew (w : World) : Sm w w.drew := ⟨rfl, rfl, rfl, rfl⟩
theorem Sm.but {w w' : World} (h : Sm w w') (b : Nat) : But b w w' := ⟨h.os, h.tape, h.output, by rw [h.heap], fun k _ => by rw [h.heap]⟩
theorem RdAt.sm {w w' : World} {b : Nat} {t : TypeId} {s : ByteArray} {e : Nat} (h : RdAt w b t s e) (k : Sm w w') : RdAt w' b t s e := by unfold RdAt; rw [k.heap]; exact h
theorem ret_three {a b : Int} {s t : ByteArray} {c d : Int} (h : a = b) (k : s = t) (l : c = d) : Ending.returned (.tuple #[.int .i64 a, .string s, .int .i64 c]) = .returned (.tuple #[.int .i64 b, .string t, .int .i64 d]) := by rw [h, k, l]
theorem rN_bad {s : ByteArray} {e : Nat} (h : rE s = e + 1) : (0 : Int) = ((rN s : Nat) : Int) := by unfold rN; rw [if_neg (by omega)]; rfl
theorem rR_bad {s : ByteArray} {e : Nat} (h : rE s = e + 1) : ByteArray.empty = rR s := by unfold rR; rw [if_neg (by omega)]
theorem add_step {x c k : Nat} (hx : x < 128 ^ k) (hk : k < 8) : wrap64 ((x : Int) + wrap64 ((c : Int) % 128 * 2 ^ (7 * k))) = ((x + c % 128 * 128 ^ k : Nat) : Int) := by
  have h1 := grp_lt (c := c) hk
  have h2 : (128 : Nat) ^ k ≤ 128 ^ 7 := Nat.pow_le_pow_right (by decide) (by omega)
  rw [grp_int hk]; unfold wrap64; omega
set_option maxRecDepth 100000 in
set_option maxHeartbeats 4000000 in
theorem take_ref (s : ByteArray) (w : World) (hs : s.size ≤ 1000000) : Calls Try.prog 67 #[.string s] w fun e w' => e = .returned (.tuple #[.int .i64 (rN s : Nat), .string (rR s), .int .i64 (rE s : Nat)]) ∧ Sm w w' := by
  go_enter Try.func67, Try.ntmps67
  go_wp2_with fail
  go_loop [5, 6] (fun x y => ∃ k : Nat, k ≤ stop (bt s) ∧ k ≤ 7 ∧ y = .int .i64 k ∧ x = .int .i64 (val (bt s) k : Nat)) (fun _ y => 8 - (intOf y).toNat)
  case atStart => exact ⟨0, by omega, by omega, rfl, rfl⟩
  case round =>
    obtain ⟨k, hk, hk7, rfl, rfl⟩ := hrel
    have HK := hide hk
    clear hk
    by_cases hz : k < s.size
    · have hb : (k : Int) < s.size := by omega
      have hd : decide ((k : Int) < (s.size : Int)) = true := by simp; omega
      have HB := hide (bt_eq hz)
      have hc2 : (s[k]'hz).toNat < 256 := UInt8.toNat_lt _
      generalize hcc : (s[k]'hz).toNat = c at *
      have HX := hide (add_step (c := c) (val_lt (bt s) k) (show k < 8 by omega))
      have HY : Hid (val (bt s) k + c % 128 * 128 ^ k = val (bt s) (k + 1)) := by rw [HB.out]; exact rfl
      by_cases hm : 128 ≤ c
      · have hd2 : decide ((128 : Int) ≤ (c : Int)) = true := by simp; omega
        have HN := hide (sz_next HK.out (by omega) (by rw [← HB.out]; exact hm))
        by_cases h7 : k = 7
        · subst h7
          have HE := hide (e_form (s := s) (by have := HN.out; omega))
          clear HX HY
          generalize val (bt s) 7 = x at *
          go_wp2_with fail
          go_ret3
          exact ⟨ret_three (rN_bad HE.out) (rR_bad HE.out) (by rw [HE.out]; rfl), Sm.refl _⟩
        · have h7' : ((k : Int) == 7) = false := by simp; omega
          have hd3 : decide ((c : Int) < 128) = false := by simp; omega
          generalize val (bt s) k = x at *
          go_wp2_with fail
          exact ⟨⟨k + 1, HN.out, by omega, by go_num, by rw [HX.out, HY.out]⟩, by simp [intOf]; omega⟩
      · have hd2 : decide ((128 : Int) ≤ (c : Int)) = false := by simp; omega
        have hd3 : decide ((c : Int) < 128) = true := by simp; omega
        by_cases h0 : c = 0 ∧ 0 < k
        · have hq : ((c : Int) == 0) = true := by simp; omega
          have hq2 : 0 < k := h0.2
          have HE := hide (e_zero HK.out (by omega) hz (by rw [← HB.out]; exact h0.1) h0.2)
          clear h0 HX HY
          generalize val (bt s) k = x at *
          by_cases h7 : k = 7
          · subst h7
            go_wp2_with fail
            go_ret3
            exact ⟨ret_three (rN_bad HE.out) (rR_bad HE.out) (by rw [HE.out]; rfl), Sm.refl _⟩
          · have h7' : ((k : Int) == 7) = false := by simp; omega
            go_wp2_with fail
            go_ret3
            exact ⟨ret_three (rN_bad HE.out) (rR_bad HE.out) (by rw [HE.out]; rfl), Sm.refl _⟩
        · have HE := hide (e_ok HK.out (by omega) hz (by rw [← HB.out]; omega) (by rw [← HB.out]; omega))
          have HF : Hid (val (bt s) (k + 1) = rN s) := by unfold rN; rw [if_pos HE.out.1, HE.out.2]; exact rfl
          have HG : Hid (s.extract (k + 1) s.size = rR s) := by unfold rR; rw [if_pos HE.out.1, HE.out.2]; exact rfl
          generalize val (bt s) k = x at *
          have hsl : ((k : Int) + 1 ≤ (s.size : Int)) := by omega
          have hsl2 : k + 1 ≤ s.size := by omega
          by_cases h00 : c = 0
          · have hq : ((c : Int) == 0) = true := by simp; omega
            have hk0 : ¬ 0 < k := by omega
            have h7' : ((k : Int) == 7) = false := by simp; omega
            clear h0 h00
            go_wp2_with fail
            go_region
            go_wp2_with fail
            go_ret3
            exact ⟨ret_three (by rw [HX.out, HY.out, HF.out]) HG.out (by rw [HE.out.1]; rfl), Sm.drew _⟩
          · have hq : ((c : Int) == 0) = false := by simp; omega
            clear h0
            by_cases h7 : k = 7
            · have h7' : ((k : Int) == 7) = true := by simp; omega
              clear h7
              go_wp2_with fail
              go_region
              go_wp2_with fail
              go_ret3
              exact ⟨ret_three (by rw [HX.out, HY.out, HF.out]) HG.out (by rw [HE.out.1]; rfl), Sm.drew _⟩
            · have h7' : ((k : Int) == 7) = false := by simp; omega
              go_wp2_with fail
              go_region
              go_wp2_with fail
              go_ret3
              exact ⟨ret_three (by rw [HX.out, HY.out, HF.out]) HG.out (by rw [HE.out.1]; rfl), Sm.drew _⟩
    · have hd : decide ((k : Int) < (s.size : Int)) = false := by simp; omega
      have HE := hide (e_cut HK.out (by omega) (by omega))
      generalize val (bt s) k = x at *
      go_wp2_with fail
      go_ret3
      exact ⟨ret_three (rN_bad HE.out) (rR_bad HE.out) (by rw [HE.out]; rfl), Sm.refl _⟩
end Go.Proofs.Ytaiafbihcfbglaa
