/- What pack.Number, pack.Text and the document's answer the bytes of a number. A reader in memory; what its parts answer. What a reader's calls answer. -/
import Derived.Test.YtaiafbihcfbglaaBase
namespace Go.Proofs.Ytaiafbihcfbglaa
open Go.RowKit
theorem byRel_step {w wr w1 : World} {f : Nat → Nat} {v v' : Value} {k x : Nat} {o : Obj} (h : ByRel w wr f v k) (hx : x = f k) (hown : w1.ownsRow w.heap.size 5 1 v' (k + 1) (bys f k ++ [.int .u8 (x : Int)])) (hgr : (wr.alloc o).grownBy w1 v.ownBlock) : ByRel w w1 f v' (k + 1) := by
  refine ⟨by rw [bys_succ, ← hx]; exact hown, ?_⟩
  refine Below.grown (h.2.alloc h.2.size o) hgr ?_ fun g hg => row_base h.1 hg
  rw [World.size_alloc]
  exact Nat.le_succ_of_le h.2.size
/-- the bytes of any int -/
def numI (n : Int) : ByteArray := if n < 0 ∨ 72057594037927935 < n then ByteArray.empty else numS n.toNat
theorem numI_nat {n : Nat} (h : n < 72057594037927936) : numI (n : Int) = numS n := by unfold numI; rw [if_neg (by omega), Int.toNat_natCast]
set_option maxRecDepth 100000 in
set_option maxHeartbeats 2000000 in
theorem number_none (n : Int) (w : World) (h : n < 0 ∨ 72057594037927935 < n) :
    Calls Try.prog 79 #[.int .i64 n] w fun e w' => e = .returned (.string ByteArray.empty) ∧ Below w.heap.size w w' := by
  rcases h with h | h
  · go_enter Try.func79, Try.ntmps79
    go_wp2_with fail
    go_ret
    exact ⟨rfl, Below.refl _ _⟩
  · have h0 : decide (n < 0) = false := by simp; omega
    go_enter Try.func79, Try.ntmps79
    go_wp2_with fail
    go_ret
    exact ⟨rfl, Below.refl _ _⟩
set_option maxRecDepth 100000 in
set_option maxHeartbeats 2000000 in
theorem number_nat (n : Nat) (w : World) (hn : n < 72057594037927936) :
    Calls Try.prog 79 #[.int .i64 (n : Int)] w fun e w' => e = .returned (.string (numS n)) ∧ Below w.heap.size w w' := by
  obtain ⟨i0, hi0, hz0, hz1, hz2⟩ := info_parts u8_info
  have HI := hide hi0
  have HI0 := hide hz0
  have HI1 := hide hz1
  have HI2 := hide hz2
  clear hi0 hz0 hz1 hz2
  have h8 := nlen_top hn
  have h0 : decide ((n : Int) < 0) = false := by simp
  have hp := nlen_pos n
  go_enter Try.func79, Try.ntmps79
  go_wp2_with fail
  go_loopw [0, 3] (fun y v wr => ∃ k m : Nat, k < nlen n ∧ m = n / 128 ^ k ∧ y = .int .i64 m ∧ ByRel w wr (gb n) v k) (fun y _ _ => (intOf y).toNat)
  case atStart => exact ⟨0, n, by omega, by simp, rfl, World.ownsRow_nil _ _ _ _, Below.refl _ _⟩
  case round =>
    obtain ⟨k, m, hk, hm, rfl, hrel⟩ := hrel
    have H := hide hrel
    have hsz := hrel.2.size
    clear hrel
    have hml : m < 72057594037927936 := by rw [hm]; exact Nat.lt_of_le_of_lt (Nat.div_le_self _ _) hn
    by_cases hlt : 128 ≤ m
    · have hge : 128 ^ (k + 1) ≤ n := by
        rw [hm] at hlt
        have := (Nat.le_div_iff_mul_le (Nat.pow_pos (n := k) (show 0 < 128 by decide))).1 hlt
        rw [Nat.pow_succ, Nat.mul_comm]; exact this
      have hk1 : k + 1 < nlen n := by
        by_cases c : k + 1 < nlen n
        · exact c
        · have : nlen n = k + 1 := by omega
          have := nlen_lt n
          rw [show nlen n = k + 1 by omega] at this
          omega
      have HX : Hid (m % 128 + 128 = gb n k) := by rw [hm]; exact (gb_more hge).symm
      have HM : Hid (m / 128 = n / 128 ^ (k + 1)) := by rw [hm, Nat.div_div_eq_div_mul, Nat.pow_succ]; exact rfl
      clear hm hge
      have hd : decide ((128 : Int) ≤ (m : Int)) = true := by simp; omega
      have hq0 : 0 ≤ (m : Int) % 128 := by omega
      have hq1 : (m : Int) % 128 < 128 := by omega
      have HCV : Hid ((m : Int) % 128 + 128 = ((m % 128 + 128 : Nat) : Int)) := by show (m : Int) % 128 + 128 = ((m % 128 + 128 : Nat) : Int); omega
      have HQ : Hid ((m : Int) / 128 = ((m / 128 : Nat) : Int)) := by show (m : Int) / 128 = ((m / 128 : Nat) : Int); omega
      go_wp2_with (first | (at_builtin; refine wpList_append_own _ rfl (.tmp 12) (.tmp 17) 70 rfl w.heap.size 5 i0 (.int .u8 0) 1 1 Try.underlying70 HI.out HI0.out HI1.out HI2.out rfl (by decide) _ k (bys (gb n) k) rfl (H.out.1.alloc _) ⟨wr.heap.size, 0, none⟩ 1 1 [.int .u8 ((m : Int) % 128 + 128)] rfl rfl (cell_one_new _ _ _) (by simp [Value.oneCell']) (by unfold maxLen; omega) (by omega) (by simp; omega) ?_; intro v' w3 hown hgr hnil; clear hnil; rw [HCV.out] at hown; have HN3 := hide (byRel_step H.out HX.out hown hgr); clear hown hgr))
      exact ⟨⟨k + 1, m / 128, by omega, HM.out, by go_num, HN3.out⟩, by simp [intOf]; omega⟩
    · have hlast : n < 128 ^ (k + 1) := by
        rw [hm] at hlt
        have h := Nat.div_lt_iff_lt_mul (x := n) (y := 128) (Nat.pow_pos (n := k) (show 0 < 128 by decide))
        rw [Nat.pow_succ, Nat.mul_comm]; exact h.1 (by omega)
      have hk1 : nlen n = k + 1 := by have := nlen_le hlast; omega
      have HX : Hid (m = gb n k) := by rw [hm]; exact (gb_last hlast).symm
      have HK : Hid (mkS (k + 1) (gb n) = numS n) := by unfold numS; rw [hk1]; exact rfl
      clear hm hlast
      go_wp2_with (first | (at_builtin; refine wpList_append_own _ rfl (.tmp 21) (.tmp 24) 70 rfl w.heap.size 5 i0 (.int .u8 0) 1 1 Try.underlying70 HI.out HI0.out HI1.out HI2.out rfl (by decide) _ k (bys (gb n) k) rfl (H.out.1.alloc _) ⟨wr.heap.size, 0, none⟩ 1 1 [.int .u8 (m : Int)] rfl rfl (cell_one_new _ _ _) (by simp [Value.oneCell']) (by unfold maxLen; omega) (by omega) (by simp; omega) ?_; intro v' w3 hown hgr hnil; clear hnil; have HN3 := hide (byRel_step H.out HX.out hown hgr); clear hown hgr; have hcv := own_string HN3.out.1))
      go_ret
      exact ⟨ret_str HK.out, HN3.out.2⟩
theorem number_any (n : Int) (w : World) :
    Calls Try.prog 79 #[.int .i64 n] w fun e w' => e = .returned (.string (numI n)) ∧ Below w.heap.size w w' := by
  unfold numI
  by_cases h : n < 0 ∨ 72057594037927935 < n
  · rw [if_pos h]; exact number_none n w h
  · rw [if_neg h]
    obtain ⟨k, rfl⟩ : ∃ k : Nat, n = (k : Int) := ⟨n.toNat, by omega⟩
    exact number_nat k w (by omega)
end Go.Proofs.Ytaiafbihcfbglaa
namespace Go.Proofs.Ytaiafbihcfbglaa
open Go.RowKit
/-- but for one block the world is as it was -/
structure But (b : Nat) (w w' : World) : Prop where
  os : w'.os = w.os
  tape : w'.tape = w.tape
  output : w'.output = w.output
  size : w'.heap.size = w.heap.size
  block : ∀ k, k ≠ b → w'.heap[k]? = w.heap[k]?
theorem But.refl (b : Nat) (w : World) : But b w w := ⟨rfl, rfl, rfl, rfl, fun _ _ => rfl⟩
theorem But.trans {b : Nat} {u v w : World} (h : But b u v) (k : But b v w) : But b u w := ⟨k.os.trans h.os, k.tape.trans h.tape, k.output.trans h.output, k.size.trans h.size, fun i hi => (k.block i hi).trans (h.block i hi)⟩
theorem But.set {b o : Nat} {a w : World} (h : But b a w) (u : Value) : But b a (w.setCell ⟨b, o, none⟩ u) :=
  h.trans ⟨rfl, rfl, rfl, by simp [World.setCell], fun _ hk => Below.heap_setCell _ _ _ _ hk⟩
theorem But.below {b B : Nat} {a w : World} (h : But b a w) (hB : B ≤ b) : Below B a w := ⟨h.os, h.tape, h.output, by rw [h.size]; exact Nat.le_refl _, fun k hk => h.block k (by omega)⟩
/-- a reader of the type t in block b: what is left, and the error -/
def RdAt (w : World) (b : Nat) (t : TypeId) (s : ByteArray) (e : Nat) : Prop := w.heap[b]? = some (.cells #[.string s, .int .i64 (e : Int)] t (0, 0))
theorem RdAt.left {w : World} {b : Nat} {t : TypeId} {s : ByteArray} {e : Nat} (h : RdAt w b t s e) : w.cell? ⟨b, 0, none⟩ = some (.string s) := cell_of_block h
theorem RdAt.err {w : World} {b : Nat} {t : TypeId} {s : ByteArray} {e : Nat} (h : RdAt w b t s e) : w.cell? ⟨b, 1, none⟩ = some (.int .i64 (e : Int)) := cell_of_block h
theorem RdAt.free {w : World} {b : Nat} {t : TypeId} {s : ByteArray} {e : Nat} (h : RdAt w b t s e) (p : Nat) : w.frozen? ⟨b, p, none⟩ = false := free_of_block h
theorem RdAt.setLeft {w : World} {b : Nat} {t : TypeId} {s : ByteArray} {e : Nat} (h : RdAt w b t s e) (s' : ByteArray) : RdAt (w.setCell ⟨b, 0, none⟩ (.string s')) b t s' e := block_setCell _ h
theorem RdAt.setErr {w : World} {b : Nat} {t : TypeId} {s : ByteArray} {e : Nat} (h : RdAt w b t s e) (e' : Nat) : RdAt (w.setCell ⟨b, 1, none⟩ (.int .i64 (e' : Int))) b t s e' := block_setCell _ h
theorem RdAt.but {w w' : World} {b c : Nat} {t : TypeId} {s : ByteArray} {e : Nat} (h : RdAt w b t s e) (hb : But c w w') (hne : b ≠ c) : RdAt w' b t s e := (hb.block b hne).trans h
theorem RdAt.below {w w' : World} {b B : Nat} {t : TypeId} {s : ByteArray} {e : Nat} (h : RdAt w b t s e) (hb : Below B w w') (hB : b < B) : RdAt w' b t s e := (hb.block b hB).trans h
theorem RdAt.lt {w : World} {b : Nat} {t : TypeId} {s : ByteArray} {e : Nat} (h : RdAt w b t s e) : b < w.heap.size := lt_of_block h
set_option maxRecDepth 100000 in
set_option maxHeartbeats 2000000 in
theorem failed_no (b : Nat) (s : ByteArray) (w : World) (h : RdAt w b 131 s 0) : Calls Try.prog 91 #[.pointer (some ⟨b, 0, none⟩)] w fun e w' => e = .returned (.bool false) ∧ w = w' := by
  have hc := h.err
  clear h
  go_enter Try.func91, Try.ntmps91
  go_wp2_with fail
  go_ret
  exact ⟨rfl, rfl⟩
set_option maxRecDepth 100000 in
set_option maxHeartbeats 2000000 in
theorem failed_yes (b : Nat) (s : ByteArray) (e : Nat) (w : World) (h : RdAt w b 131 s e) (he : e ≠ 0) : Calls Try.prog 91 #[.pointer (some ⟨b, 0, none⟩)] w fun e w' => e = .returned (.bool true) ∧ w = w' := by
  have hc := h.err
  have hn : ((e : Int) != 0) = true := by simp; omega
  clear h
  go_enter Try.func91, Try.ntmps91
  go_wp2_with fail
  go_ret
  exact ⟨rfl, rfl⟩
set_option maxRecDepth 100000 in
set_option maxHeartbeats 2000000 in
theorem failed_nil (w : World) : Calls Try.prog 91 #[.pointer none] w fun e w' => e = .returned (.bool true) ∧ w = w' := by
  go_enter Try.func91, Try.ntmps91
  go_wp2_with fail
  go_ret
  exact ⟨rfl, rfl⟩
set_option maxRecDepth 100000 in
set_option maxHeartbeats 2000000 in
theorem fail_any (b : Nat) (s : ByteArray) (e0 e : Nat) (w : World) (h : RdAt w b 131 s e0) : Calls Try.prog 93 #[.pointer (some ⟨b, 0, none⟩), .int .i64 (e : Int)] w fun r w' => r = .returned (.tuple #[]) ∧ RdAt w' b 131 ByteArray.empty e ∧ But b w w' := by
  have H := hide h
  have hc := h.err
  have hc0 := h.left
  have hf0 := h.free 0
  have hf1 := h.free 1
  clear h
  go_enter Try.func93, Try.ntmps93
  go_wp2_with fail
  go_end0
  exact ⟨rfl, (H.out.setLeft _).setErr _, ((But.refl _ _).set _).set _⟩
set_option maxRecDepth 100000 in
set_option maxHeartbeats 2000000 in
theorem take_any (b : Nat) (s : ByteArray) (e n : Nat) (w : World) (h : RdAt w b 131 s e) (hn : n ≤ s.size) : Calls Try.prog 95 #[.pointer (some ⟨b, 0, none⟩), .int .i64 (n : Int)] w fun r w' => r = .returned (.string (s.extract 0 n)) ∧ RdAt w' b 131 (s.extract n s.size) e ∧ But b w w' := by
  have H := hide h
  have hc0 := h.left
  have hf0 := h.free 0
  clear h
  go_enter Try.func95, Try.ntmps95
  go_wp2_with fail
  go_ret
  exact ⟨rfl, (H.out.setLeft _), ((But.refl _ _).set _)⟩
theorem sz_next {s : ByteArray} {k : Nat} (hk : k ≤ stop (bt s)) (h8 : k < 8) (h : 128 ≤ bt s k) : k + 1 ≤ stop (bt s) := by
  by_cases c : k = stop (bt s)
  · have := stop_end (f := bt s) (by omega); rw [← c] at this; omega
  · omega
theorem sz_last {s : ByteArray} {k : Nat} (hk : k ≤ stop (bt s)) (h : bt s k < 128) : stop (bt s) = k := by
  by_cases c : k < stop (bt s)
  · have := stop_more c; omega
  · omega
theorem e_cut {s : ByteArray} {k : Nat} (hk : k ≤ stop (bt s)) (h8 : k < 8) (hs : s.size ≤ k) : rE s = 3 := by
  have := stop_size s
  unfold rE; rw [if_neg (by omega), if_pos (by omega)]
theorem e_form {s : ByteArray} (h : 8 ≤ stop (bt s)) : rE s = 4 := by
  have := stop_le (bt s)
  unfold rE; rw [if_pos (by omega)]
theorem e_zero {s : ByteArray} {k : Nat} (hk : k ≤ stop (bt s)) (h8 : k < 8) (hs : k < s.size) (h0 : bt s k = 0) (h : 0 < k) : rE s = 4 := by
  have := sz_last hk (by omega)
  unfold rE; rw [this, if_neg (by omega), if_neg (by omega), if_pos ⟨h0, h⟩]
theorem e_ok {s : ByteArray} {k : Nat} (hk : k ≤ stop (bt s)) (h8 : k < 8) (hs : k < s.size) (hl : bt s k < 128) (h : k = 0 ∨ bt s k ≠ 0) : rE s = 0 ∧ stop (bt s) = k := by
  have := sz_last hk hl
  refine ⟨?_, this⟩
  unfold rE; rw [this, if_neg (by omega), if_neg (by omega), if_neg (by rintro ⟨h0, h1⟩; rcases h with h | h <;> omega)]
/-- what numberSize tells -/
def szK (s : ByteArray) : Nat := if rE s = 0 then stop (bt s) + 1 else 0
theorem ret_two {a b c d : Int} (h : a = b) (k : c = d) : Ending.returned (.tuple #[.int .i64 a, .int .i64 c]) = .returned (.tuple #[.int .i64 b, .int .i64 d]) := by rw [h, k]
theorem szK_bad {s : ByteArray} {e : Nat} (h : rE s = e + 1) : (0 : Int) = ((szK s : Nat) : Int) := by unfold szK; rw [if_neg (by omega)]; rfl
set_option maxRecDepth 100000 in
set_option maxHeartbeats 2000000 in
theorem size_any (s : ByteArray) (w : World) (hs : s.size ≤ 1000000000000000) : Calls Try.prog 92 #[.string s] w fun e w' => e = .returned (.tuple #[.int .i64 (szK s : Nat), .int .i64 (rE s : Nat)]) ∧ w = w' := by
  go_enter Try.func92, Try.ntmps92
  go_wp2_with fail
  go_loop [5] (fun y => ∃ k : Nat, k ≤ stop (bt s) ∧ k ≤ 8 ∧ y = .int .i64 k) (fun y => 8 - (intOf y).toNat)
  case atStart => exact ⟨0, by omega, by omega, rfl⟩
  case round =>
    obtain ⟨k, hk, hk8, rfl⟩ := hrel
    have HK := hide hk
    clear hk
    by_cases h8 : k < 8
    · have hd : decide ((k : Int) < 8) = true := by simp; omega
      by_cases hz : k < s.size
      · have he : ((k : Int) == (s.size : Int)) = false := by simp; omega
        have hb : (k : Int) < s.size := by omega
        have HB := hide (bt_eq hz)
        generalize hcc : (s[k]'hz).toNat = c at *
        by_cases hm : 128 ≤ c
        · have hd2 : decide ((128 : Int) ≤ (c : Int)) = true := by simp; omega
          have HN := hide (sz_next HK.out h8 (by rw [← HB.out]; exact hm))
          go_wp2_with fail
          exact ⟨⟨k + 1, HN.out, by omega, by go_num⟩, by simp [intOf]; omega⟩
        · have hd2 : decide ((128 : Int) ≤ (c : Int)) = false := by simp; omega
          by_cases h0 : c = 0 ∧ 0 < k
          · have hq : ((c : Int) == 0) = true := by simp; omega
            have hq2 : 0 < k := h0.2
            have HE := hide (e_zero HK.out h8 hz (by rw [← HB.out]; exact h0.1) h0.2)
            clear h0
            go_wp2_with fail
            go_ret2
            exact ⟨ret_two (szK_bad HE.out) (by rw [HE.out]; rfl), rfl⟩
          · have HE := hide (e_ok HK.out h8 hz (by rw [← HB.out]; omega) (by rw [← HB.out]; omega))
            have HF : Hid (((k : Int) + 1) = ((szK s : Nat) : Int)) := by show ((k : Int) + 1) = ((szK s : Nat) : Int); unfold szK; rw [if_pos HE.out.1, HE.out.2]; omega
            by_cases h00 : c = 0
            · have hq : ((c : Int) == 0) = true := by simp; omega
              obtain rfl : k = 0 := by omega
              clear h0
              go_wp2_with fail
              go_ret2
              exact ⟨ret_two HF.out (by rw [HE.out.1]; rfl), rfl⟩
            · have hq : ((c : Int) == 0) = false := by simp; omega
              clear h0
              go_wp2_with fail
              go_ret2
              exact ⟨ret_two HF.out (by rw [HE.out.1]; rfl), rfl⟩
      · have he : ((k : Int) == (s.size : Int)) = true := by have := stop_size s; have := HK.out; simp; omega
        have HE := hide (e_cut HK.out h8 (by omega))
        go_wp2_with fail
        go_ret2
        exact ⟨ret_two (szK_bad HE.out) (by rw [HE.out]; rfl), rfl⟩
    · have hd : decide ((k : Int) < 8) = false := by simp; omega
      have HE : Hid (rE s = 4) := e_form (by have := HK.out; omega)
      go_wp2_with fail
      go_ret2
      exact ⟨ret_two (szK_bad HE.out) (by rw [HE.out]; rfl), rfl⟩
theorem i64_or_nat (a b : Nat) (ha : a < 9223372036854775808) (hb : b < 9223372036854775808) : bits .or .i64 (a : Int) (b : Int) = ((a ||| b : Nat) : Int) := by
  have hx : a ||| b < 2 ^ 63 := Nat.or_lt_two_pow (by omega) (by omega)
  show IntKind.i64.wrap ((BitVec.ofInt 64 (a : Int) ||| BitVec.ofInt 64 (b : Int)).toNat : Int) = _
  rw [BitVec.toNat_or, ofInt_u64 a (by omega), ofInt_u64 b (by omega), IntKind.wrap_i64]
  omega
theorem pow7 (k : Nat) : (2 : Nat) ^ (7 * k) = 128 ^ k := by rw [Nat.pow_mul]
theorem grp_lt {c k : Nat} (hk : k < 8) : c % 128 * 128 ^ k < 72057594037927936 := by
  have h1 : c % 128 * 128 ^ k ≤ 127 * 128 ^ k := Nat.mul_le_mul_right _ (by omega)
  have h2 : (128 : Nat) ^ k ≤ 128 ^ 7 := Nat.pow_le_pow_right (by decide) (by omega)
  omega
theorem grp_int {c k : Nat} (hk : k < 8) : wrap64 ((c : Int) % 128 * 2 ^ (7 * k)) = ((c % 128 * 128 ^ k : Nat) : Int) := by
  have e : (c : Int) % 128 * 2 ^ (7 * k) = ((c % 128 * 128 ^ k : Nat) : Int) := by rw [← pow7]; simp
  have := grp_lt (c := c) hk
  rw [e]; unfold wrap64; omega
theorem or_step {x c k : Nat} (hx : x < 128 ^ k) (hk : k < 8) : bits .or .i64 (x : Int) (wrap64 ((c : Int) % 128 * 2 ^ (7 * k))) = ((x + c % 128 * 128 ^ k : Nat) : Int) := by
  have h1 := grp_lt (c := c) hk
  have h2 : (128 : Nat) ^ k ≤ 128 ^ 7 := Nat.pow_le_pow_right (by decide) (by omega)
  rw [grp_int hk, i64_or_nat _ _ (by omega) (by omega), ← pow7, Nat.or_comm, ← Nat.shiftLeft_eq, ← Nat.shiftLeft_add_eq_or_of_lt (by rw [pow7]; exact hx), Nat.add_comm]
set_option maxRecDepth 100000 in
set_option maxHeartbeats 2000000 in
theorem nof_any (s : ByteArray) (w : World) (hs : s.size ≤ 8) : Calls Try.prog 94 #[.string s] w fun e w' => e = .returned (.int .i64 (val (bt s) s.size : Nat)) ∧ w = w' := by
  go_enter Try.func94, Try.ntmps94
  go_wp2_with fail
  go_loop [3, 7] (fun x y => ∃ k : Nat, k ≤ s.size ∧ y = .int .i64 k ∧ x = .int .i64 (val (bt s) k : Nat)) (fun _ y => s.size - (intOf y).toNat)
  case atStart => exact ⟨0, by omega, rfl, rfl⟩
  case round =>
    obtain ⟨k, hk, rfl, rfl⟩ := hrel
    by_cases hlt : k < s.size
    · have hd : decide ((k : Int) < (s.size : Int)) = true := by simp; omega
      have hb : (k : Int) < s.size := by omega
      have HB := hide (bt_eq hlt)
      have hc2 : (s[k]'hlt).toNat < 256 := UInt8.toNat_lt _
      generalize hcc : (s[k]'hlt).toNat = c at *
      have HX := hide (or_step (c := c) (val_lt (bt s) k) (show k < 8 by omega))
      have HY : Hid (val (bt s) k + c % 128 * 128 ^ k = val (bt s) (k + 1)) := by rw [HB.out]; exact rfl
      generalize val (bt s) k = x at *
      go_wp2_with fail
      exact ⟨⟨k + 1, by omega, by go_num, by rw [HX.out, HY.out]⟩, by simp [intOf]; omega⟩
    · obtain rfl : k = s.size := by omega
      go_wp2_with fail
      go_ret
      exact ⟨rfl, rfl⟩
end Go.Proofs.Ytaiafbihcfbglaa
namespace Go.Proofs.Ytaiafbihcfbglaa
open Go.RowKit
theorem val_ext {s : ByteArray} {k : Nat} (h : k ≤ s.size) : val (bt (s.extract 0 k)) (s.extract 0 k).size = val (bt s) k := by
  have hz : (s.extract 0 k).size = k := by rw [ByteArray.size_extract]; omega
  rw [hz]
  exact val_congr fun p hp => by rw [bt_extract _ _ _ _ (by omega) h, Nat.zero_add]
set_option maxRecDepth 100000 in
set_option maxHeartbeats 2000000 in
theorem rnum_ok (b : Nat) (s : ByteArray) (w : World) (h : RdAt w b 131 s 0) (hs : s.size ≤ 1000000000000000) : Calls Try.prog 81 #[.pointer (some ⟨b, 0, none⟩)] w fun r w' => r = .returned (.int .i64 (rN s : Nat)) ∧ RdAt w' b 131 (rR s) (rE s) ∧ But b w w' := by
  have H := hide h
  have hc0 := h.left
  clear h
  have hsz := size_any s w hs
  by_cases h0 : rE s = 0
  · have HN : Hid (val (bt (s.extract 0 (szK s))) (s.extract 0 (szK s)).size = rN s) := by
      show _ = _
      rw [val_ext (by unfold szK; rw [if_pos h0]; have := (rE_ok h0).2.1; omega)]
      unfold rN szK; rw [if_pos h0, if_pos h0]
    have HR : Hid (s.extract (szK s) s.size = rR s) := by unfold rR szK; rw [if_pos h0, if_pos h0]; exact rfl
    have hK : szK s ≤ s.size := by unfold szK; rw [if_pos h0]; have := (rE_ok h0).2.1; omega
    have hK8 : szK s ≤ 8 := by unfold szK; rw [if_pos h0]; have := (rE_ok h0).1; omega
    rw [h0] at hsz ⊢
    have HS := hide hsz
    clear hsz h0
    generalize szK s = K at *
    go_enter Try.func81, Try.ntmps81
    go_wp2_with fail
    refine (failed_no b s w H.out).mono ?_
    rintro e w1 ⟨rfl, rfl⟩
    go_wp2_with fail
    refine HS.out.mono ?_
    rintro e w1 ⟨rfl, rfl⟩
    go_wp2_with fail
    refine (take_any b s 0 K w H.out hK).mono ?_
    rintro e w1 ⟨rfl, hR1, hB1⟩
    have HR1 := hide hR1
    have HB1 := hide hB1
    clear hR1 hB1 hc0
    have hz : (s.extract 0 K).size = K := by rw [ByteArray.size_extract]; omega
    go_wp2_with fail
    refine (nof_any (s.extract 0 K) w1 (by omega)).mono ?_
    rintro e w2 ⟨rfl, rfl⟩
    rw [HN.out]
    go_wp2_with fail
    go_ret
    exact ⟨rfl, by rw [← HR.out]; exact HR1.out, HB1.out⟩
  · have hK : szK s = 0 := by unfold szK; rw [if_neg h0]
    have HR : Hid (rR s = ByteArray.empty) := by unfold rR; rw [if_neg h0]; exact rfl
    have HN : Hid (rN s = 0) := by unfold rN; rw [if_neg h0]; exact rfl
    rw [hK] at hsz
    have HS := hide hsz
    clear hsz hK
    generalize rE s = E at *
    have hq : ((E : Int) != 0) = true := by simp; omega
    go_enter Try.func81, Try.ntmps81
    go_wp2_with fail
    refine (failed_no b s w H.out).mono ?_
    rintro e w1 ⟨rfl, rfl⟩
    go_wp2_with fail
    refine HS.out.mono ?_
    rintro e w1 ⟨rfl, rfl⟩
    go_wp2_with fail
    refine (fail_any b s 0 E w H.out).mono ?_
    rintro e w1 ⟨rfl, hR1, hB1⟩
    have HR1 := hide hR1
    have HB1 := hide hB1
    clear hR1 hB1 hc0
    go_wp2_with fail
    go_ret
    exact ⟨ret_int (by rw [HN.out]; rfl), by rw [HR.out]; exact HR1.out, HB1.out⟩
set_option maxRecDepth 100000 in
set_option maxHeartbeats 2000000 in
theorem rnum_err (b : Nat) (s : ByteArray) (e : Nat) (w : World) (h : RdAt w b 131 s e) (he : e ≠ 0) : Calls Try.prog 81 #[.pointer (some ⟨b, 0, none⟩)] w fun r w' => r = .returned (.int .i64 0) ∧ w = w' := by
  have H := hide h
  clear h
  go_enter Try.func81, Try.ntmps81
  go_wp2_with fail
  refine (failed_yes b s e w H.out he).mono ?_
  rintro e w1 ⟨rfl, rfl⟩
  go_wp2_with fail
  go_ret
  exact ⟨rfl, rfl⟩
set_option maxRecDepth 100000 in
set_option maxHeartbeats 2000000 in
theorem rnum_nil (w : World) : Calls Try.prog 81 #[.pointer none] w fun r w' => r = .returned (.int .i64 0) ∧ w = w' := by
  go_enter Try.func81, Try.ntmps81
  go_wp2_with fail
  refine (failed_nil w).mono ?_
  rintro e w1 ⟨rfl, rfl⟩
  go_wp2_with fail
  go_ret
  exact ⟨rfl, rfl⟩
set_option maxRecDepth 100000 in
set_option maxHeartbeats 2000000 in
theorem rtext_ok (b : Nat) (s : ByteArray) (w : World) (h : RdAt w b 131 s 0) (hs : s.size ≤ 1000000000000000) : Calls Try.prog 83 #[.pointer (some ⟨b, 0, none⟩)] w fun r w' => r = .returned (.string (tT s)) ∧ RdAt w' b 131 (tR s) (tE s) ∧ But b w w' := by
  have H := hide h
  clear h
  have hn := rnum_ok b s w H.out hs
  have hzs := rR_size s
  have hnl := rN_lt s
  by_cases h0 : rE s = 0
  · rw [h0] at hn
    have HNU := hide hn
    clear hn
    by_cases hc : (rR s).size < rN s
    · have HE : Hid (tE s = 3) := by unfold tE; rw [if_neg (by omega), if_pos hc]; exact rfl
      have HT : Hid (tT s = ByteArray.empty) := by unfold tT; rw [if_neg (by rw [HE.out]; omega)]; exact rfl
      have HR : Hid (tR s = ByteArray.empty) := by unfold tR; rw [if_neg (by rw [HE.out]; omega)]; exact rfl
      clear h0
      generalize rN s = n at *
      generalize rR s = R at *
      have hq : ((R.size : Int) < (n : Int)) := by omega
      go_enter Try.func83, Try.ntmps83
      go_wp2_with fail
      refine HNU.out.mono ?_
      rintro e w1 ⟨rfl, hR1, hB1⟩
      have HR1 := hide hR1
      have HB1 := hide hB1
      have hc1 := hR1.left
      clear hR1 hB1
      go_wp2_with fail
      refine (failed_no b R w1 HR1.out).mono ?_
      rintro e w2 ⟨rfl, rfl⟩
      go_wp2_with fail
      refine (fail_any b R 0 3 w1 HR1.out).mono ?_
      rintro e w2 ⟨rfl, hR2, hB2⟩
      have HR2 := hide hR2
      have HB2 := hide (HB1.out.trans hB2)
      clear hR2 hB2 hc1
      go_wp2_with fail
      go_ret
      exact ⟨ret_str HT.out.symm, by rw [HR.out, HE.out]; exact HR2.out, HB2.out⟩
    · have HE : Hid (tE s = 0) := by unfold tE; rw [if_neg (by omega), if_neg hc]; exact rfl
      have HT : Hid (tT s = (rR s).extract 0 (rN s)) := by unfold tT; rw [if_pos HE.out]; exact rfl
      have HR : Hid (tR s = (rR s).extract (rN s) (rR s).size) := by unfold tR; rw [if_pos HE.out]; exact rfl
      clear h0
      generalize rN s = n at *
      generalize rR s = R at *
      have hq : ((n : Int) ≤ (R.size : Int)) := by omega
      have hq2 : n ≤ R.size := by omega
      go_enter Try.func83, Try.ntmps83
      go_wp2_with fail
      refine HNU.out.mono ?_
      rintro e w1 ⟨rfl, hR1, hB1⟩
      have HR1 := hide hR1
      have HB1 := hide hB1
      have hc1 := hR1.left
      clear hR1 hB1
      go_wp2_with fail
      refine (failed_no b R w1 HR1.out).mono ?_
      rintro e w2 ⟨rfl, rfl⟩
      go_wp2_with fail
      refine (take_any b R 0 n w1 HR1.out hq2).mono ?_
      rintro e w2 ⟨rfl, hR2, hB2⟩
      have HR2 := hide hR2
      have HB2 := hide (HB1.out.trans hB2)
      clear hR2 hB2 hc1
      go_wp2_with fail
      go_ret
      exact ⟨ret_str HT.out.symm, by rw [HR.out, HE.out]; exact HR2.out, HB2.out⟩
  · have HE : Hid (tE s = rE s) := by unfold tE; rw [if_pos (by omega)]; exact rfl
    have HT : Hid (tT s = ByteArray.empty) := by unfold tT; rw [if_neg (by rw [HE.out]; omega)]; exact rfl
    have HR : Hid (tR s = ByteArray.empty) := by unfold tR; rw [if_neg (by rw [HE.out]; omega)]; exact rfl
    have HRR : Hid (rR s = ByteArray.empty) := by unfold rR; rw [if_neg h0]; exact rfl
    have HNU := hide hn
    clear hn
    generalize rN s = n at *
    generalize rR s = R at *
    generalize rE s = E at *
    go_enter Try.func83, Try.ntmps83
    go_wp2_with fail
    refine HNU.out.mono ?_
    rintro e w1 ⟨rfl, hR1, hB1⟩
    have HR1 := hide hR1
    have HB1 := hide hB1
    clear hR1 hB1
    go_wp2_with fail
    refine (failed_yes b R E w1 HR1.out h0).mono ?_
    rintro e w2 ⟨rfl, rfl⟩
    go_wp2_with fail
    go_ret
    exact ⟨ret_str HT.out.symm, by rw [HR.out, HE.out, ← HRR.out]; exact HR1.out, HB1.out⟩
set_option maxRecDepth 100000 in
set_option maxHeartbeats 2000000 in
theorem rtext_err (b : Nat) (s : ByteArray) (e : Nat) (w : World) (h : RdAt w b 131 s e) (he : e ≠ 0) : Calls Try.prog 83 #[.pointer (some ⟨b, 0, none⟩)] w fun r w' => r = .returned (.string ByteArray.empty) ∧ w = w' := by
  have H := hide h
  clear h
  go_enter Try.func83, Try.ntmps83
  go_wp2_with fail
  refine (rnum_err b s e w H.out he).mono ?_
  rintro e1 w1 ⟨rfl, rfl⟩
  go_wp2_with fail
  refine (failed_yes b s e w H.out he).mono ?_
  rintro e w1 ⟨rfl, rfl⟩
  go_wp2_with fail
  go_ret
  exact ⟨rfl, rfl⟩
set_option maxRecDepth 100000 in
set_option maxHeartbeats 2000000 in
theorem rtext_nil (w : World) : Calls Try.prog 83 #[.pointer none] w fun r w' => r = .returned (.string ByteArray.empty) ∧ w = w' := by
  go_enter Try.func83, Try.ntmps83
  go_wp2_with fail
  refine (rnum_nil w).mono ?_
  rintro e1 w1 ⟨rfl, rfl⟩
  go_wp2_with fail
  refine (failed_nil w).mono ?_
  rintro e w1 ⟨rfl, rfl⟩
  go_wp2_with fail
  go_ret
  exact ⟨rfl, rfl⟩
theorem not_empty {s : ByteArray} (h : s.size ≠ 0) : s.toList.isEmpty = false := by
  rw [ByteArray.toList_eq]
  have : s.data.toList.length ≠ 0 := by rw [Array.length_toList]; exact h
  cases hl : s.data.toList with
  | nil => rw [hl] at this; exact absurd rfl this
  | cons _ _ => rfl
theorem ext_all (s : ByteArray) : s.extract 0 s.size = s := by
  have h := ext_head s ByteArray.empty
  rw [app_nil] at h
  exact h
theorem ext_none (s : ByteArray) : s.extract s.size s.size = ByteArray.empty := size_zero (by rw [ByteArray.size_extract]; omega)
set_option maxRecDepth 100000 in
set_option maxHeartbeats 2000000 in
theorem rrest_ok (b : Nat) (s : ByteArray) (w : World) (h : RdAt w b 131 s 0) : Calls Try.prog 84 #[.pointer (some ⟨b, 0, none⟩)] w fun r w' => r = .returned (.string s) ∧ RdAt w' b 131 ByteArray.empty 0 ∧ But b w w' := by
  have H := hide h
  have hc0 := h.left
  clear h
  go_enter Try.func84, Try.ntmps84
  go_wp2_with fail
  refine (failed_no b s w H.out).mono ?_
  rintro e w1 ⟨rfl, rfl⟩
  go_wp2_with fail
  refine (take_any b s 0 s.size w H.out (Nat.le_refl _)).mono ?_
  rw [ext_all, ext_none]
  rintro e w1 ⟨rfl, hR1, hB1⟩
  have HR1 := hide hR1
  have HB1 := hide hB1
  clear hR1 hB1 hc0
  go_wp2_with fail
  go_ret
  exact ⟨rfl, HR1.out, HB1.out⟩
set_option maxRecDepth 100000 in
set_option maxHeartbeats 2000000 in
theorem rrest_err (b : Nat) (s : ByteArray) (e : Nat) (w : World) (h : RdAt w b 131 s e) (he : e ≠ 0) : Calls Try.prog 84 #[.pointer (some ⟨b, 0, none⟩)] w fun r w' => r = .returned (.string ByteArray.empty) ∧ w = w' := by
  have H := hide h
  clear h
  go_enter Try.func84, Try.ntmps84
  go_wp2_with fail
  refine (failed_yes b s e w H.out he).mono ?_
  rintro e w1 ⟨rfl, rfl⟩
  go_wp2_with fail
  go_ret
  exact ⟨rfl, rfl⟩
set_option maxRecDepth 100000 in
set_option maxHeartbeats 2000000 in
theorem rrest_nil (w : World) : Calls Try.prog 84 #[.pointer none] w fun r w' => r = .returned (.string ByteArray.empty) ∧ w = w' := by
  go_enter Try.func84, Try.ntmps84
  go_wp2_with fail
  refine (failed_nil w).mono ?_
  rintro e w1 ⟨rfl, rfl⟩
  go_wp2_with fail
  go_ret
  exact ⟨rfl, rfl⟩
set_option maxRecDepth 100000 in
set_option maxHeartbeats 2000000 in
theorem read_any (s : ByteArray) (w : World) : Calls Try.prog 65 #[.string s] w fun r w' => ∃ b, r = .returned (.pointer (some ⟨b, 0, none⟩)) ∧ b = w.heap.size ∧ w'.heap.size = b + 1 ∧ RdAt w' b 131 s 0 ∧ Below w.heap.size w w' := by
  go_enter Try.func65, Try.ntmps65
  go_wp2_with fail
  go_ret
  exact ⟨_, rfl, rfl, World.size_alloc _ _, heap_alloc_new _ _, (Below.refl _ _).alloc (Nat.le_refl _) _⟩
set_option maxRecDepth 100000 in
set_option maxHeartbeats 2000000 in
theorem ptext_any (s : ByteArray) (w : World) (hs : s.size ≤ 1000000000000000) : Calls Try.prog 60 #[.string s] w fun e w' => e = .returned (.string (textS s)) ∧ Below w.heap.size w w' := by
  have HT : Hid (textS s = numS s.size ++ s) := rfl
  have hz := numS_size s.size
  have hz8 := nlen_top (n := s.size) (by omega)
  go_enter Try.func60, Try.ntmps60
  go_wp2_with fail
  refine (number_nat s.size w (by omega)).mono ?_
  rintro e w1 ⟨rfl, hb1⟩
  have HB1 := hide hb1
  clear hb1
  generalize numS s.size = N at *
  go_wp2_with fail
  go_ret
  exact ⟨ret_str HT.out.symm, HB1.out⟩
end Go.Proofs.Ytaiafbihcfbglaa
