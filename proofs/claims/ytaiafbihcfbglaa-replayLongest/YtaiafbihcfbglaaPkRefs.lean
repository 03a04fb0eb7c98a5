/- What the document's Number, Text answer. What the document's reader answers. What the calls of the document's reader answer. -/
import Derived.Test.YtaiafbihcfbglaaPkReader
import Derived.OwnWalk
namespace Go.Proofs.Ytaiafbihcfbglaa
open Go.RowKit
theorem one_at (x b : Nat) (w : World) (h : w.cell? ⟨b, 0, none⟩ = some (.int .u8 (x : Int))) : (convert 70 9 (.slice (some ⟨b, 0, none⟩) 1 1)).run Try.prog w = .ok (.string (mkS 1 fun _ => x)) w := by
  refine run_convert_bytes_arg w 70 5 Try.underlying70 Try.underlying5 b 0 1 1 _ (by simp) (fun i hi => ?_) 9 Try.underlying9
  obtain rfl : i = 0 := by omega
  rw [Nat.zero_add, h]
  rfl
theorem after_one {w w1 : World} {x : Nat} (h : Below (w.alloc (.cells #[.int .u8 (x : Int)] 5)).drew.heap.size (w.alloc (.cells #[.int .u8 (x : Int)] 5)).drew w1) : w1.cell? ⟨w.heap.size, 0, none⟩ = some (.int .u8 (x : Int)) :=
  cell_of_block (c := #[.int .u8 (x : Int)]) ((h.block w.heap.size (by show _ < (w.alloc _).heap.size; rw [World.size_alloc]; exact Nat.lt_succ_self _)).trans (heap_alloc_new _ _))
theorem below_one {w w1 : World} {o : Obj} (h : Below (w.alloc o).drew.heap.size (w.alloc o).drew w1) : Below w.heap.size w w1 :=
  ((Below.refl _ _).alloc (Nat.le_refl _) o).drew.trans (h.mono (by show _ ≤ (w.alloc o).heap.size; rw [World.size_alloc]; exact Nat.le_succ _))
theorem one_string (x : Nat) (w : World) : (convert 70 9 (.slice (some ⟨w.heap.size, 0, none⟩) 1 1)).run Try.prog (w.alloc (.cells #[.int .u8 (x : Int)] 5)) = .ok (.string (mkS 1 fun _ => x)) (w.alloc (.cells #[.int .u8 (x : Int)] 5)) :=
  one_at x _ _ (cell_of_block (c := #[.int .u8 (x : Int)]) (heap_alloc_new _ _))
set_option maxRecDepth 100000 in
set_option maxHeartbeats 2000000 in
theorem most_any (w : World) : Calls Try.prog 74 #[] w fun e w' => e = .returned (.int .i64 72057594037927935) ∧ w = w' := by
  go_enter Try.func74, Try.ntmps74
  go_wp2_with fail
  go_ret
  exact ⟨rfl, rfl⟩
set_option maxRecDepth 100000 in
set_option maxHeartbeats 2000000 in
theorem refNum_none (n : Int) (w : World) (h : n < 0 ∨ 72057594037927935 < n) :
    Calls Try.prog 46 #[.int .i64 n] w fun e w' => e = .returned (.string ByteArray.empty) ∧ Below w.heap.size w w' := by
  rcases h with h | h
  · go_enter Try.func46, Try.ntmps46
    go_wp2_with fail
    go_ret
    exact ⟨rfl, Below.refl _ _⟩
  · have h0 : decide (n < 0) = false := by simp; omega
    go_enter Try.func46, Try.ntmps46
    go_wp2_with fail
    refine (most_any w).mono ?_
    rintro e w1 ⟨rfl, rfl⟩
    go_wp2_with fail
    go_ret
    exact ⟨rfl, Below.refl _ _⟩
set_option maxRecDepth 100000 in
set_option maxHeartbeats 2000000 in
theorem refNum_one (n : Nat) (w : World) (hn : n < 128) :
    Calls Try.prog 46 #[.int .i64 (n : Int)] w fun e w' => e = .returned (.string (numS n)) ∧ Below w.heap.size w w' := by
  have h0 : decide ((n : Int) < 0) = false := by simp
  have HN := hide (numS_one hn)
  have hcv := one_string n w
  go_enter Try.func46, Try.ntmps46
  go_wp2_with fail
  refine (most_any w).mono ?_
  rintro e w1 ⟨rfl, rfl⟩
  go_wp2_with fail
  go_ret
  exact ⟨ret_str HN.out.symm, (Below.refl _ _).alloc (Nat.le_refl _) _⟩
set_option maxRecDepth 100000 in
set_option maxHeartbeats 4000000 in
theorem refNum_step (n : Nat) (hn : 128 ≤ n) (hl : n < 72057594037927936) (ih : ∀ w : World, Calls Try.prog 46 #[.int .i64 ((n / 128 : Nat) : Int)] w fun e w' => e = .returned (.string (numS (n / 128))) ∧ Below w.heap.size w w') (w : World) :
    Calls Try.prog 46 #[.int .i64 (n : Int)] w fun e w' => e = .returned (.string (numS n)) ∧ Below w.heap.size w w' := by
  have h0 : decide ((n : Int) < 0) = false := by simp
  have HN := hide (numS_cons hn)
  have HIH := hide ih
  clear ih
  have hz := numS_size (n / 128)
  have hz8 := nlen_top (n := n / 128) (by omega)
  have hz1 : (mkS 1 fun _ => 128 + n % 128).size = 1 := mkS_size _ _
  have hw1 : IntKind.i64.wrap (128 + (n : Int).tmod 128) = ((128 + n % 128 : Nat) : Int) := by
    rw [Int.tmod_eq_emod_of_nonneg (by omega), IntKind.wrap_i64]; omega
  have hw2 : IntKind.u8.wrap ((128 + n % 128 : Nat) : Int) = ((128 + n % 128 : Nat) : Int) := by rw [IntKind.wrap_u8]; omega
  have hw3 : IntKind.i64.wrap ((n : Int) / 128) = ((n / 128 : Nat) : Int) := by rw [IntKind.wrap_i64]; omega
  have hlt : decide ((n : Int) < 128) = false := by simp; omega
  generalize numS (n / 128) = T at *
  generalize 128 + n % 128 = X at *
  generalize n / 128 = Q at *
  have hcv : (convert 70 9 (.slice (some ⟨w.heap.size, 0, none⟩) 1 1)).run Try.prog (w.alloc (.cells #[.int .u8 (X : Int)] 5)).drew = .ok (.string (mkS 1 fun _ => X)) (w.alloc (.cells #[.int .u8 (X : Int)] 5)).drew := one_string X w.drew
  go_enter Try.func46, Try.ntmps46
  go_wp2_with fail
  refine (most_any w).mono ?_
  rintro e w1 ⟨rfl, rfl⟩
  go_wp2_with fail
  go_region_with (first | (go_at_call 46; refine (HIH.out _).mono ?_; rintro e w1 ⟨rfl, hb1⟩; have HB1 := hide hb1; clear hb1; have hcv1 := one_string X w1; first | (have hcv2 := one_at X w.heap.size w1 (after_one HB1.out)) | skip))
  all_goals
    go_wp2_with fail
    go_ret
    first
    | exact ⟨ret_str HN.out.symm, below_one HB1.out⟩
    | exact ⟨ret_str HN.out.symm, ((Below.refl _ _).drew.trans HB1.out).alloc HB1.out.size _⟩
theorem refNum_nat (n : Nat) (hl : n < 72057594037927936) (w : World) : Calls Try.prog 46 #[.int .i64 (n : Int)] w fun e w' => e = .returned (.string (numS n)) ∧ Below w.heap.size w w' := by
  induction n using Nat.strongRecOn generalizing w with
  | _ n ih =>
    by_cases h : n < 128
    · exact refNum_one n w h
    · exact refNum_step n (by omega) hl (fun w => ih (n / 128) (by omega) (by omega) w) w
theorem refNum_any (n : Int) (w : World) :
    Calls Try.prog 46 #[.int .i64 n] w fun e w' => e = .returned (.string (numI n)) ∧ Below w.heap.size w w' := by
  unfold numI
  by_cases h : n < 0 ∨ 72057594037927935 < n
  · rw [if_pos h]; exact refNum_none n w h
  · rw [if_neg h]
    obtain ⟨k, rfl⟩ : ∃ k : Nat, n = (k : Int) := ⟨n.toNat, by omega⟩
    exact refNum_nat k (by omega) w
set_option maxRecDepth 100000 in
set_option maxHeartbeats 2000000 in
theorem refText_any (s : ByteArray) (w : World) (hs : s.size ≤ 1000000) : Calls Try.prog 48 #[.string s] w fun e w' => e = .returned (.string (textS s)) ∧ Below w.heap.size w w' := by
  have HT : Hid (textS s = numS s.size ++ s) := rfl
  have hz := numS_size s.size
  have hz8 := nlen_top (n := s.size) (by omega)
  go_enter Try.func48, Try.ntmps48
  go_wp2_with fail
  refine (refNum_nat s.size (by omega) w).mono ?_
  rintro e w1 ⟨rfl, hb1⟩
  have HB1 := hide hb1
  clear hb1
  generalize numS s.size = N at *
  go_wp2_with fail
  go_ret
  exact ⟨ret_str HT.out.symm, HB1.out⟩
end Go.Proofs.Ytaiafbihcfbglaa
namespace Go.Proofs.Ytaiafbihcfbglaa
open Go.RowKit
/-- memory is as it was -/
structure Sm (w w' : World) : Prop where
  os : w'.os = w.os
  tape : w'.tape = w.tape
  output : w'.output = w.output
  heap : w'.heap = w.heap
theorem Sm.refl (w : World) : Sm w w := ⟨rfl, rfl, rfl, rfl⟩
theorem Sm.drew (w : World) : Sm w w.drew := ⟨rfl, rfl, rfl, rfl⟩
theorem Sm.but {w w' : World} (h : Sm w w') (b : Nat) : But b w w' := ⟨h.os, h.tape, h.output, by rw [h.heap], fun k _ => by rw [h.heap]⟩
theorem RdAt.sm {w w' : World} {b : Nat} {t : TypeId} {s : ByteArray} {e : Nat} (h : RdAt w b t s e) (k : Sm w w') : RdAt w' b t s e := by unfold RdAt; rw [k.heap]; exact h
theorem ret_three {a b : Int} {s t : ByteArray} {c d : Int} (h : a = b) (k : s = t) (l : c = d) : Ending.returned (.tuple #[.int .i64 a, .string s, .int .i64 c]) = .returned (.tuple #[.int .i64 b, .string t, .int .i64 d]) := by rw [h, k, l]
theorem rN_bad {s : ByteArray} {e : Nat} (h : rE s = e + 1) : (0 : Int) = ((rN s : Nat) : Int) := by unfold rN; rw [if_neg (by omega)]; rfl
theorem rR_bad {s : ByteArray} {e : Nat} (h : rE s = e + 1) : ByteArray.empty = rR s := by unfold rR; rw [if_neg (by omega)]
theorem add_step {x c k : Nat} (hx : x < 128 ^ k) (hk : k < 8) : wrap64 ((x : Int) + wrap64 ((c : Int) % 128 * 2 ^ (7 * k))) = ((x + c % 128 * 128 ^ k : Nat) : Int) := by
  have h1 := grp_lt (c := c) hk
  have h2 : (128 : Nat) ^ k ≤ 128 ^ 7 := Nat.pow_le_pow_right (by decide) (by omega)
  rw [grp_int hk]; unfold wrap64; omega
set_option maxRecDepth 100000 in
set_option maxHeartbeats 4000000 in
theorem take_ref (s : ByteArray) (w : World) (hs : s.size ≤ 1000000) : Calls Try.prog 67 #[.string s] w fun e w' => e = .returned (.tuple #[.int .i64 (rN s : Nat), .string (rR s), .int .i64 (rE s : Nat)]) ∧ Sm w w' := by
  go_enter Try.func67, Try.ntmps67
  go_wp2_with fail
  go_loop [5, 6] (fun x y => ∃ k : Nat, k ≤ stop (bt s) ∧ k ≤ 7 ∧ y = .int .i64 k ∧ x = .int .i64 (val (bt s) k : Nat)) (fun _ y => 8 - (intOf y).toNat)
  case atStart => exact ⟨0, by omega, by omega, rfl, rfl⟩
  case round =>
    obtain ⟨k, hk, hk7, rfl, rfl⟩ := hrel
    have HK := hide hk
    clear hk
    by_cases hz : k < s.size
    · have hb : (k : Int) < s.size := by omega
      have hd : decide ((k : Int) < (s.size : Int)) = true := by simp; omega
      have HB := hide (bt_eq hz)
      have hc2 : (s[k]'hz).toNat < 256 := UInt8.toNat_lt _
      generalize hcc : (s[k]'hz).toNat = c at *
      have HX := hide (add_step (c := c) (val_lt (bt s) k) (show k < 8 by omega))
      have HY : Hid (val (bt s) k + c % 128 * 128 ^ k = val (bt s) (k + 1)) := by rw [HB.out]; exact rfl
      by_cases hm : 128 ≤ c
      · have hd2 : decide ((128 : Int) ≤ (c : Int)) = true := by simp; omega
        have HN := hide (sz_next HK.out (by omega) (by rw [← HB.out]; exact hm))
        by_cases h7 : k = 7
        · subst h7
          have HE := hide (e_form (s := s) (by have := HN.out; omega))
          clear HX HY
          generalize val (bt s) 7 = x at *
          go_wp2_with fail
          go_ret3
          exact ⟨ret_three (rN_bad HE.out) (rR_bad HE.out) (by rw [HE.out]; rfl), Sm.refl _⟩
        · have h7' : ((k : Int) == 7) = false := by simp; omega
          have hd3 : decide ((c : Int) < 128) = false := by simp; omega
          generalize val (bt s) k = x at *
          go_wp2_with fail
          exact ⟨⟨k + 1, HN.out, by omega, by go_num, by rw [HX.out, HY.out]⟩, by simp [intOf]; omega⟩
      · have hd2 : decide ((128 : Int) ≤ (c : Int)) = false := by simp; omega
        have hd3 : decide ((c : Int) < 128) = true := by simp; omega
        by_cases h0 : c = 0 ∧ 0 < k
        · have hq : ((c : Int) == 0) = true := by simp; omega
          have hq2 : 0 < k := h0.2
          have HE := hide (e_zero HK.out (by omega) hz (by rw [← HB.out]; exact h0.1) h0.2)
          clear h0 HX HY
          generalize val (bt s) k = x at *
          by_cases h7 : k = 7
          · subst h7
            go_wp2_with fail
            go_ret3
            exact ⟨ret_three (rN_bad HE.out) (rR_bad HE.out) (by rw [HE.out]; rfl), Sm.refl _⟩
          · have h7' : ((k : Int) == 7) = false := by simp; omega
            go_wp2_with fail
            go_ret3
            exact ⟨ret_three (rN_bad HE.out) (rR_bad HE.out) (by rw [HE.out]; rfl), Sm.refl _⟩
        · have HE := hide (e_ok HK.out (by omega) hz (by rw [← HB.out]; omega) (by rw [← HB.out]; omega))
          have HF : Hid (val (bt s) (k + 1) = rN s) := by unfold rN; rw [if_pos HE.out.1, HE.out.2]; exact rfl
          have HG : Hid (s.extract (k + 1) s.size = rR s) := by unfold rR; rw [if_pos HE.out.1, HE.out.2]; exact rfl
          generalize val (bt s) k = x at *
          have hsl : ((k : Int) + 1 ≤ (s.size : Int)) := by omega
          have hsl2 : k + 1 ≤ s.size := by omega
          by_cases h00 : c = 0
          · have hq : ((c : Int) == 0) = true := by simp; omega
            have hk0 : ¬ 0 < k := by omega
            have h7' : ((k : Int) == 7) = false := by simp; omega
            clear h0 h00
            go_wp2_with fail
            go_region
            go_wp2_with fail
            go_ret3
            exact ⟨ret_three (by rw [HX.out, HY.out, HF.out]) HG.out (by rw [HE.out.1]; rfl), Sm.drew _⟩
          · have hq : ((c : Int) == 0) = false := by simp; omega
            clear h0
            by_cases h7 : k = 7
            · have h7' : ((k : Int) == 7) = true := by simp; omega
              clear h7
              go_wp2_with fail
              go_region
              go_wp2_with fail
              go_ret3
              exact ⟨ret_three (by rw [HX.out, HY.out, HF.out]) HG.out (by rw [HE.out.1]; rfl), Sm.drew _⟩
            · have h7' : ((k : Int) == 7) = false := by simp; omega
              go_wp2_with fail
              go_region
              go_wp2_with fail
              go_ret3
              exact ⟨ret_three (by rw [HX.out, HY.out, HF.out]) HG.out (by rw [HE.out.1]; rfl), Sm.drew _⟩
    · have hd : decide ((k : Int) < (s.size : Int)) = false := by simp; omega
      have HE := hide (e_cut HK.out (by omega) (by omega))
      generalize val (bt s) k = x at *
      go_wp2_with fail
      go_ret3
      exact ⟨ret_three (rN_bad HE.out) (rR_bad HE.out) (by rw [HE.out]; rfl), Sm.refl _⟩
end Go.Proofs.Ytaiafbihcfbglaa
namespace Go.Proofs.Ytaiafbihcfbglaa
open Go.RowKit
set_option maxRecDepth 100000 in
set_option maxHeartbeats 2000000 in
theorem qnum_ok (b : Nat) (s : ByteArray) (w : World) (h : RdAt w b 84 s 0) (hs : s.size ≤ 1000000) : Calls Try.prog 38 #[.pointer (some ⟨b, 0, none⟩)] w fun r w' => r = .returned (.int .i64 (rN s : Nat)) ∧ RdAt w' b 84 (rR s) (rE s) ∧ But b w w' := by
  have H := hide h
  have hc0 := h.left
  have hc1 := h.err
  clear h
  have HT := hide (take_ref s w hs)
  generalize rN s = n at *
  generalize rR s = R at *
  generalize rE s = E at *
  go_enter Try.func38, Try.ntmps38
  go_wp2_with fail
  refine HT.out.mono ?_
  rintro e w1 ⟨rfl, hsm⟩
  have HS := hide hsm
  have hr1 := H.out.sm hsm
  have HR1 := hide hr1
  have hc2 := hr1.left
  have hc3 := hr1.err
  have hf2 := hr1.free 0
  have hf3 := hr1.free 1
  clear hsm hr1 hc0 hc1
  go_wp2_with fail
  go_ret
  exact ⟨rfl, (HR1.out.setLeft _).setErr _, ((HS.out.but b).set _).set _⟩
set_option maxRecDepth 100000 in
set_option maxHeartbeats 2000000 in
theorem qnum_err (b : Nat) (s : ByteArray) (e : Nat) (w : World) (h : RdAt w b 84 s e) (he : e ≠ 0) : Calls Try.prog 38 #[.pointer (some ⟨b, 0, none⟩)] w fun r w' => r = .returned (.int .i64 0) ∧ w = w' := by
  have hc1 := h.err
  have hq : ((e : Int) != 0) = true := by simp; omega
  clear h
  go_enter Try.func38, Try.ntmps38
  go_wp2_with fail
  go_ret
  exact ⟨rfl, rfl⟩
set_option maxRecDepth 100000 in
set_option maxHeartbeats 2000000 in
theorem qtext_ok (b : Nat) (s : ByteArray) (w : World) (h : RdAt w b 84 s 0) (hs : s.size ≤ 1000000) : Calls Try.prog 39 #[.pointer (some ⟨b, 0, none⟩)] w fun r w' => r = .returned (.string (tT s)) ∧ RdAt w' b 84 (tR s) (tE s) ∧ But b w w' := by
  have HNU := hide (qnum_ok b s w h hs)
  have hnl := rN_lt s
  have hzs := rR_size s
  clear h
  by_cases h0 : rE s = 0
  · rw [h0] at HNU
    by_cases hc : (rR s).size < rN s
    · have HE : Hid (tE s = 3) := by unfold tE; rw [if_neg (by omega), if_pos hc]; exact rfl
      have HT : Hid (tT s = ByteArray.empty) := by unfold tT; rw [if_neg (by rw [HE.out]; omega)]; exact rfl
      have HR : Hid (tR s = ByteArray.empty) := by unfold tR; rw [if_neg (by rw [HE.out]; omega)]; exact rfl
      clear h0
      generalize rN s = n at *
      generalize rR s = R at *
      have hq : ((R.size : Int) < (n : Int)) := by omega
      go_enter Try.func39, Try.ntmps39
      go_wp2_with fail
      refine HNU.out.mono ?_
      rintro e w1 ⟨rfl, hR1, hB1⟩
      have HR1 := hide hR1
      have HB1 := hide hB1
      have hc0 := hR1.left
      have hc1 := hR1.err
      have hf0 := hR1.free 0
      have hf1 := hR1.free 1
      clear hR1 hB1
      go_wp2_with fail
      go_ret
      exact ⟨ret_str HT.out.symm, by rw [HR.out, HE.out]; exact (HR1.out.setErr 3).setLeft _, (HB1.out.set _).set _⟩
    · have HE : Hid (tE s = 0) := by unfold tE; rw [if_neg (by omega), if_neg hc]; exact rfl
      have HT : Hid (tT s = (rR s).extract 0 (rN s)) := by unfold tT; rw [if_pos HE.out]; exact rfl
      have HR : Hid (tR s = (rR s).extract (rN s) (rR s).size) := by unfold tR; rw [if_pos HE.out]; exact rfl
      clear h0
      generalize rN s = n at *
      generalize rR s = R at *
      have hq : ((n : Int) ≤ (R.size : Int)) := by omega
      have hq2 : n ≤ R.size := by omega
      go_enter Try.func39, Try.ntmps39
      go_wp2_with fail
      refine HNU.out.mono ?_
      rintro e w1 ⟨rfl, hR1, hB1⟩
      have HR1 := hide hR1
      have HB1 := hide hB1
      have hc0 := hR1.left
      have hc1 := hR1.err
      have hf0 := hR1.free 0
      clear hR1 hB1
      go_wp2_with fail
      go_ret
      exact ⟨ret_str HT.out.symm, by rw [HR.out, HE.out]; exact HR1.out.setLeft _, HB1.out.set _⟩
  · have HE : Hid (tE s = rE s) := by unfold tE; rw [if_pos (by omega)]; exact rfl
    have HT : Hid (tT s = ByteArray.empty) := by unfold tT; rw [if_neg (by rw [HE.out]; omega)]; exact rfl
    have HR : Hid (tR s = ByteArray.empty) := by unfold tR; rw [if_neg (by rw [HE.out]; omega)]; exact rfl
    generalize rN s = n at *
    generalize rR s = R at *
    generalize rE s = E at *
    have hq : ((E : Int) == 0) = false := by simp; omega
    have hq2 : ((E : Int) != 0) = true := by simp; omega
    go_enter Try.func39, Try.ntmps39
    go_wp2_with fail
    refine HNU.out.mono ?_
    rintro e w1 ⟨rfl, hR1, hB1⟩
    have HR1 := hide hR1
    have HB1 := hide hB1
    have hc0 := hR1.left
    have hc1 := hR1.err
    have hf0 := hR1.free 0
    clear hR1 hB1
    go_wp2_with fail
    go_ret
    exact ⟨ret_str HT.out.symm, by rw [HR.out, HE.out]; exact HR1.out.setLeft _, HB1.out.set _⟩
set_option maxRecDepth 100000 in
set_option maxHeartbeats 2000000 in
theorem qtext_err (b : Nat) (s : ByteArray) (e : Nat) (w : World) (h : RdAt w b 84 s e) (he : e ≠ 0) : Calls Try.prog 39 #[.pointer (some ⟨b, 0, none⟩)] w fun r w' => r = .returned (.string ByteArray.empty) ∧ RdAt w' b 84 ByteArray.empty e ∧ But b w w' := by
  have H := hide h
  have hc0 := h.left
  have hc1 := h.err
  have hf0 := h.free 0
  have hq : ((e : Int) == 0) = false := by simp; omega
  have hq2 : ((e : Int) != 0) = true := by simp; omega
  clear h
  go_enter Try.func39, Try.ntmps39
  go_wp2_with fail
  refine (qnum_err b s e w H.out he).mono ?_
  rintro e1 w1 ⟨rfl, rfl⟩
  go_wp2_with fail
  go_ret
  exact ⟨rfl, H.out.setLeft _, (But.refl _ _).set _⟩
set_option maxRecDepth 100000 in
set_option maxHeartbeats 2000000 in
theorem qrest_ok (b : Nat) (s : ByteArray) (w : World) (h : RdAt w b 84 s 0) : Calls Try.prog 41 #[.pointer (some ⟨b, 0, none⟩)] w fun r w' => r = .returned (.string s) ∧ RdAt w' b 84 ByteArray.empty 0 ∧ But b w w' := by
  have H := hide h
  have hc0 := h.left
  have hc1 := h.err
  have hf0 := h.free 0
  clear h
  go_enter Try.func41, Try.ntmps41
  go_wp2_with fail
  go_ret
  exact ⟨rfl, H.out.setLeft _, (But.refl _ _).set _⟩
set_option maxRecDepth 100000 in
set_option maxHeartbeats 2000000 in
theorem qrest_err (b : Nat) (s : ByteArray) (e : Nat) (w : World) (h : RdAt w b 84 s e) (he : e ≠ 0) : Calls Try.prog 41 #[.pointer (some ⟨b, 0, none⟩)] w fun r w' => r = .returned (.string ByteArray.empty) ∧ RdAt w' b 84 ByteArray.empty e ∧ But b w w' := by
  have H := hide h
  have hc0 := h.left
  have hc1 := h.err
  have hf0 := h.free 0
  have hq2 : ((e : Int) != 0) = true := by simp; omega
  clear h
  go_enter Try.func41, Try.ntmps41
  go_wp2_with fail
  go_ret
  exact ⟨rfl, H.out.setLeft _, (But.refl _ _).set _⟩
set_option maxRecDepth 100000 in
set_option maxHeartbeats 2000000 in
theorem qend_err (b : Nat) (s : ByteArray) (e : Nat) (w : World) (h : RdAt w b 84 s e) (he : e ≠ 0) : Calls Try.prog 42 #[.pointer (some ⟨b, 0, none⟩)] w fun r w' => r = .returned (.int .i64 (e : Int)) ∧ w = w' := by
  have hc0 := h.left
  have hc1 := h.err
  have hq : ((e : Int) == 0) = false := by simp; omega
  clear h
  go_enter Try.func42, Try.ntmps42
  go_wp2_with fail
  go_ret
  exact ⟨rfl, rfl⟩
set_option maxRecDepth 100000 in
set_option maxHeartbeats 2000000 in
theorem qend_done (b : Nat) (w : World) (h : RdAt w b 84 ByteArray.empty 0) : Calls Try.prog 42 #[.pointer (some ⟨b, 0, none⟩)] w fun r w' => r = .returned (.int .i64 0) ∧ w = w' := by
  have hc0 := h.left
  have hc1 := h.err
  clear h
  go_enter Try.func42, Try.ntmps42
  go_wp2_with fail
  go_ret
  exact ⟨rfl, rfl⟩
set_option maxRecDepth 100000 in
set_option maxHeartbeats 2000000 in
theorem qend_left (b : Nat) (s : ByteArray) (w : World) (h : RdAt w b 84 s 0) (hs : s.size ≠ 0) : Calls Try.prog 42 #[.pointer (some ⟨b, 0, none⟩)] w fun r w' => r = .returned (.int .i64 4) ∧ RdAt w' b 84 s 4 ∧ But b w w' := by
  have H := hide h
  have hc0 := h.left
  have hc1 := h.err
  have hf1 := h.free 1
  have hq : s.toList.isEmpty = false := not_empty hs
  clear h
  go_enter Try.func42, Try.ntmps42
  go_wp2_with fail
  go_ret
  exact ⟨rfl, H.out.setErr 4, (But.refl _ _).set _⟩
end Go.Proofs.Ytaiafbihcfbglaa
