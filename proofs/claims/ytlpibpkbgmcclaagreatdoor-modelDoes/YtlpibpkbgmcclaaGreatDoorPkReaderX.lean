/- What pack.Number, pack.Text and the document's answer the bytes of a number. A reader in memory; what its parts answer. What a reader's calls answer. -/
import Derived.Test.YtlpibpkbgmcclaaGreatDoorBaseX
namespace Go.Proofs.YtlpibpkbgmcclaaGreatDoor
open Go.RowKit
theorem byRel_step {w wr w1 : World} {f : Nat → Nat} {v v' : Value} {k x : Nat} {o : Obj} (h : ByRel w wr f v k) (hx : x = f k) (hown : w1.ownsRow w.heap.size 5 1 v' (k + 1) (bys f k ++ [.int .u8 (x : Int)])) (hgr : (wr.alloc o).grownBy w1 v.ownBlock) : ByRel w w1 f v' (k + 1) := by
  refine ⟨by rw [bys_succ, ← hx]; exact hown, ?_⟩
  refine Below.grown (h.2.alloc h.2.size o) hgr ?_ fun g hg => row_base h.1 hg
  rw [World.size_alloc]
  exact Nat.le_succ_of_le h.2.size
/-- the bytes of any int -/
def numI (n : Int) : ByteArray := if n < 0 ∨ 72057594037927935 < n then ByteArray.empty else numS n.toNat
theorem numI_nat {n : Nat} (h : n < 72057594037927936) : numI (n : Int) = numS n := by unfold numI; rw [if_neg (by omega), Int.toNat_natCast]
set_option maxRecDepth 100000 in
set_option maxHeartbeats 2000000 in
theorem number_none (n : Int) (w : World) (h : n < 0 ∨ 72057594037927935 < n) :
    Calls Tryz.prog 72 #[.int .i64 n] w fun e w' => e = .returned (.string ByteArray.empty) ∧ Below w.heap.size w w' := by
  rcases h with h | h
  · go_enter Tryz.func72, Tryz.ntmps72
    go_wp2_with fail
    go_ret
    exact ⟨rfl, Below.refl _ _⟩
  · have h0 : decide (n < 0) = false := by simp; omega
    go_enter Tryz.func72, Tryz.ntmps72
    go_wp2_with fail
    go_ret
    exact ⟨rfl, Below.refl _ _⟩
set_option maxRecDepth 100000 in
set_option maxHeartbeats 2000000 in
theorem number_nat (n : Nat) (w : World) (hn : n < 72057594037927936) :
    Calls Tryz.prog 72 #[.int .i64 (n : Int)] w fun e w' => e = .returned (.string (numS n)) ∧ Below w.heap.size w w' := by
  obtain ⟨i0, hi0, hz0, hz1, hz2⟩ := info_parts u8_info
  have HI := hide hi0
  have HI0 := hide hz0
  have HI1 := hide hz1
  have HI2 := hide hz2
  clear hi0 hz0 hz1 hz2
  have h8 := nlen_top hn
  have h0 : decide ((n : Int) < 0) = false := by simp
  have hp := nlen_pos n
  go_enter Tryz.func72, Tryz.ntmps72
  go_wp2_with fail
  go_loopw [0, 3] (fun y v wr => ∃ k m : Nat, k < nlen n ∧ m = n / 128 ^ k ∧ y = .int .i64 m ∧ ByRel w wr (gb n) v k) (fun y _ _ => (intOf y).toNat)
  case atStart => exact ⟨0, n, by omega, by simp, rfl, World.ownsRow_nil _ _ _ _, Below.refl _ _⟩
  case round =>
    obtain ⟨k, m, hk, hm, rfl, hrel⟩ := hrel
    have H := hide hrel
    have hsz := hrel.2.size
    clear hrel
    have hml : m < 72057594037927936 := by rw [hm]; exact Nat.lt_of_le_of_lt (Nat.div_le_self _ _) hn
    by_cases hlt : 128 ≤ m
    · have hge : 128 ^ (k + 1) ≤ n := by
        rw [hm] at hlt
        have := (Nat.le_div_iff_mul_le (Nat.pow_pos (n := k) (show 0 < 128 by decide))).1 hlt
        rw [Nat.pow_succ, Nat.mul_comm]; exact this
      have hk1 : k + 1 < nlen n := by
        by_cases c : k + 1 < nlen n
        · exact c
        · have : nlen n = k + 1 := by omega
          have := nlen_lt n
          rw [show nlen n = k + 1 by omega] at this
          omega
      have HX : Hid (m % 128 + 128 = gb n k) := by rw [hm]; exact (gb_more hge).symm
      have HM : Hid (m / 128 = n / 128 ^ (k + 1)) := by rw [hm, Nat.div_div_eq_div_mul, Nat.pow_succ]; exact rfl
      clear hm hge
      have hd : decide ((128 : Int) ≤ (m : Int)) = true := by simp; omega
      have hq0 : 0 ≤ (m : Int) % 128 := by omega
      have hq1 : (m : Int) % 128 < 128 := by omega
      have HCV : Hid ((m : Int) % 128 + 128 = ((m % 128 + 128 : Nat) : Int)) := by show (m : Int) % 128 + 128 = ((m % 128 + 128 : Nat) : Int); omega
      have HQ : Hid ((m : Int) / 128 = ((m / 128 : Nat) : Int)) := by show (m : Int) / 128 = ((m / 128 : Nat) : Int); omega
      go_wp2_with (first | (at_builtin; refine wpList_append_own _ rfl (.tmp 12) (.tmp 17) 57 rfl w.heap.size 5 i0 (.int .u8 0) 1 1 Tryz.underlying57 HI.out HI0.out HI1.out HI2.out rfl (by decide) _ k (bys (gb n) k) rfl (H.out.1.alloc _) ⟨wr.heap.size, 0, none⟩ 1 1 [.int .u8 ((m : Int) % 128 + 128)] rfl rfl (cell_one_new _ _ _) (by simp [Value.oneCell']) (by unfold maxLen; omega) (by omega) (by simp; omega) ?_; intro v' w3 hown hgr hnil; clear hnil; rw [HCV.out] at hown; have HN3 := hide (byRel_step H.out HX.out hown hgr); clear hown hgr))
      exact ⟨⟨k + 1, m / 128, by omega, HM.out, by go_num, HN3.out⟩, by simp [intOf]; omega⟩
    · have hlast : n < 128 ^ (k + 1) := by
        rw [hm] at hlt
        have h := Nat.div_lt_iff_lt_mul (x := n) (y := 128) (Nat.pow_pos (n := k) (show 0 < 128 by decide))
        rw [Nat.pow_succ, Nat.mul_comm]; exact h.1 (by omega)
      have hk1 : nlen n = k + 1 := by have := nlen_le hlast; omega
      have HX : Hid (m = gb n k) := by rw [hm]; exact (gb_last hlast).symm
      have HK : Hid (mkS (k + 1) (gb n) = numS n) := by unfold numS; rw [hk1]; exact rfl
      clear hm hlast
      go_wp2_with (first | (at_builtin; refine wpList_append_own _ rfl (.tmp 21) (.tmp 24) 57 rfl w.heap.size 5 i0 (.int .u8 0) 1 1 Tryz.underlying57 HI.out HI0.out HI1.out HI2.out rfl (by decide) _ k (bys (gb n) k) rfl (H.out.1.alloc _) ⟨wr.heap.size, 0, none⟩ 1 1 [.int .u8 (m : Int)] rfl rfl (cell_one_new _ _ _) (by simp [Value.oneCell']) (by unfold maxLen; omega) (by omega) (by simp; omega) ?_; intro v' w3 hown hgr hnil; clear hnil; have HN3 := hide (byRel_step H.out HX.out hown hgr); clear hown hgr; have hcv := own_string HN3.out.1))
      go_ret
      exact ⟨ret_str HK.out, HN3.out.2⟩
theorem number_any (n : Int) (w : World) :
    Calls Tryz.prog 72 #[.int .i64 n] w fun e w' => e = .returned (.string (numI n)) ∧ Below w.heap.size w w' := by
  unfold numI
  by_cases h : n < 0 ∨ 72057594037927935 < n
  · rw [if_pos h]; exact number_none n w h
  · rw [if_neg h]
    obtain ⟨k, rfl⟩ : ∃ k : Nat, n = (k : Int) := ⟨n.toNat, by omega⟩
    exact number_nat k w (by omega)
end Go.Proofs.YtlpibpkbgmcclaaGreatDoor
namespace Go.Proofs.YtlpibpkbgmcclaaGreatDoor
open Go.RowKit
/-- but for one block the world is as it was -/
structure But (b : Nat) (w w' : World) : Prop where
  os : w'.os = w.os
  tape : w'.tape = w.tape
  output : w'.output = w.output
  size : w'.heap.size = w.heap.size
  block : ∀ k, k ≠ b → w'.heap[k]? = w.heap[k]?
theorem But.refl (b : Nat) (w : World) : But b w w := ⟨rfl, rfl, rfl, rfl, fun _ _ => rfl⟩
theorem But.trans {b : Nat} {u v w : World} (h : But b u v) (k : But b v w) : But b u w := ⟨k.os.trans h.os, k.tape.trans h.tape, k.output.trans h.output, k.size.trans h.size, fun i hi => (k.block i hi).trans (h.block i hi)⟩
theorem But.set {b o : Nat} {a w : World} (h : But b a w) (u : Value) : But b a (w.setCell ⟨b, o, none⟩ u) :=
  h.trans ⟨rfl, rfl, rfl, by simp [World.setCell], fun _ hk => Below.heap_setCell _ _ _ _ hk⟩
theorem But.below {b B : Nat} {a w : World} (h : But b a w) (hB : B ≤ b) : Below B a w := ⟨h.os, h.tape, h.output, by rw [h.size]; exact Nat.le_refl _, fun k hk => h.block k (by omega)⟩
/-- a reader of the type t in block b: what is left, and the error -/
def RdAt (w : World) (b : Nat) (t : TypeId) (s : ByteArray) (e : Nat) : Prop := w.heap[b]? = some (.cells #[.string s, .int .i64 (e : Int)] t (0, 0))
theorem RdAt.left {w : World} {b : Nat} {t : TypeId} {s : ByteArray} {e : Nat} (h : RdAt w b t s e) : w.cell? ⟨b, 0, none⟩ = some (.string s) := cell_of_block h
theorem RdAt.err {w : World} {b : Nat} {t : TypeId} {s : ByteArray} {e : Nat} (h : RdAt w b t s e) : w.cell? ⟨b, 1, none⟩ = some (.int .i64 (e : Int)) := cell_of_block h
theorem RdAt.free {w : World} {b : Nat} {t : TypeId} {s : ByteArray} {e : Nat} (h : RdAt w b t s e) (p : Nat) : w.frozen? ⟨b, p, none⟩ = false := free_of_block h
theorem RdAt.setLeft {w : World} {b : Nat} {t : TypeId} {s : ByteArray} {e : Nat} (h : RdAt w b t s e) (s' : ByteArray) : RdAt (w.setCell ⟨b, 0, none⟩ (.string s')) b t s' e := block_setCell _ h
theorem RdAt.setErr {w : World} {b : Nat} {t : TypeId} {s : ByteArray} {e : Nat} (h : RdAt w b t s e) (e' : Nat) : RdAt (w.setCell ⟨b, 1, none⟩ (.int .i64 (e' : Int))) b t s e' := block_setCell _ h
theorem RdAt.but {w w' : World} {b c : Nat} {t : TypeId} {s : ByteArray} {e : Nat} (h : RdAt w b t s e) (hb : But c w w') (hne : b ≠ c) : RdAt w' b t s e := (hb.block b hne).trans h
theorem RdAt.below {w w' : World} {b B : Nat} {t : TypeId} {s : ByteArray} {e : Nat} (h : RdAt w b t s e) (hb : Below B w w') (hB : b < B) : RdAt w' b t s e := (hb.block b hB).trans h
theorem RdAt.lt {w : World} {b : Nat} {t : TypeId} {s : ByteArray} {e : Nat} (h : RdAt w b t s e) : b < w.heap.size := lt_of_block h
theorem sz_next {s : ByteArray} {k : Nat} (hk : k ≤ stop (bt s)) (h8 : k < 8) (h : 128 ≤ bt s k) : k + 1 ≤ stop (bt s) := by
  by_cases c : k = stop (bt s)
  · have := stop_end (f := bt s) (by omega); rw [← c] at this; omega
  · omega
theorem sz_last {s : ByteArray} {k : Nat} (hk : k ≤ stop (bt s)) (h : bt s k < 128) : stop (bt s) = k := by
  by_cases c : k < stop (bt s)
  · have := stop_more c; omega
  · omega
theorem e_cut {s : ByteArray} {k : Nat} (hk : k ≤ stop (bt s)) (h8 : k < 8) (hs : s.size ≤ k) : rE s = 3 := by
  have := stop_size s
  unfold rE; rw [if_neg (by omega), if_pos (by omega)]
theorem e_form {s : ByteArray} (h : 8 ≤ stop (bt s)) : rE s = 4 := by
  have := stop_le (bt s)
  unfold rE; rw [if_pos (by omega)]
theorem e_zero {s : ByteArray} {k : Nat} (hk : k ≤ stop (bt s)) (h8 : k < 8) (hs : k < s.size) (h0 : bt s k = 0) (h : 0 < k) : rE s = 4 := by
  have := sz_last hk (by omega)
  unfold rE; rw [this, if_neg (by omega), if_neg (by omega), if_pos ⟨h0, h⟩]
theorem e_ok {s : ByteArray} {k : Nat} (hk : k ≤ stop (bt s)) (h8 : k < 8) (hs : k < s.size) (hl : bt s k < 128) (h : k = 0 ∨ bt s k ≠ 0) : rE s = 0 ∧ stop (bt s) = k := by
  have := sz_last hk hl
  refine ⟨?_, this⟩
  unfold rE; rw [this, if_neg (by omega), if_neg (by omega), if_neg (by rintro ⟨h0, h1⟩; rcases h with h | h <;> omega)]
/-- what numberSize tells -/
def szK (s : ByteArray) : Nat := if rE s = 0 then stop (bt s) + 1 else 0
theorem ret_two {a b c d : Int} (h : a = b) (k : c = d) : Ending.returned (.tuple #[.int .i64 a, .int .i64 c]) = .returned (.tuple #[.int .i64 b, .int .i64 d]) := by rw [h, k]
theorem szK_bad {s : ByteArray} {e : Nat} (h : rE s = e + 1) : (0 : Int) = ((szK s : Nat) : Int) := by unfold szK; rw [if_neg (by omega)]; rfl
theorem i64_or_nat (a b : Nat) (ha : a < 9223372036854775808) (hb : b < 9223372036854775808) : bits .or .i64 (a : Int) (b : Int) = ((a ||| b : Nat) : Int) := by
  have hx : a ||| b < 2 ^ 63 := Nat.or_lt_two_pow (by omega) (by omega)
  show IntKind.i64.wrap ((BitVec.ofInt 64 (a : Int) ||| BitVec.ofInt 64 (b : Int)).toNat : Int) = _
  rw [BitVec.toNat_or, ofInt_u64 a (by omega), ofInt_u64 b (by omega), IntKind.wrap_i64]
  omega
theorem pow7 (k : Nat) : (2 : Nat) ^ (7 * k) = 128 ^ k := by rw [Nat.pow_mul]
theorem grp_lt {c k : Nat} (hk : k < 8) : c % 128 * 128 ^ k < 72057594037927936 := by
  have h1 : c % 128 * 128 ^ k ≤ 127 * 128 ^ k := Nat.mul_le_mul_right _ (by omega)
  have h2 : (128 : Nat) ^ k ≤ 128 ^ 7 := Nat.pow_le_pow_right (by decide) (by omega)
  omega
theorem grp_int {c k : Nat} (hk : k < 8) : wrap64 ((c : Int) % 128 * 2 ^ (7 * k)) = ((c % 128 * 128 ^ k : Nat) : Int) := by
  have e : (c : Int) % 128 * 2 ^ (7 * k) = ((c % 128 * 128 ^ k : Nat) : Int) := by rw [← pow7]; simp
  have := grp_lt (c := c) hk
  rw [e]; unfold wrap64; omega
theorem or_step {x c k : Nat} (hx : x < 128 ^ k) (hk : k < 8) : bits .or .i64 (x : Int) (wrap64 ((c : Int) % 128 * 2 ^ (7 * k))) = ((x + c % 128 * 128 ^ k : Nat) : Int) := by
  have h1 := grp_lt (c := c) hk
  have h2 : (128 : Nat) ^ k ≤ 128 ^ 7 := Nat.pow_le_pow_right (by decide) (by omega)
  rw [grp_int hk, i64_or_nat _ _ (by omega) (by omega), ← pow7, Nat.or_comm, ← Nat.shiftLeft_eq, ← Nat.shiftLeft_add_eq_or_of_lt (by rw [pow7]; exact hx), Nat.add_comm]
end Go.Proofs.YtlpibpkbgmcclaaGreatDoor
namespace Go.Proofs.YtlpibpkbgmcclaaGreatDoor
open Go.RowKit
theorem val_ext {s : ByteArray} {k : Nat} (h : k ≤ s.size) : val (bt (s.extract 0 k)) (s.extract 0 k).size = val (bt s) k := by
  have hz : (s.extract 0 k).size = k := by rw [ByteArray.size_extract]; omega
  rw [hz]
  exact val_congr fun p hp => by rw [bt_extract _ _ _ _ (by omega) h, Nat.zero_add]
theorem not_empty {s : ByteArray} (h : s.size ≠ 0) : s.toList.isEmpty = false := by
  rw [ByteArray.toList_eq]
  have : s.data.toList.length ≠ 0 := by rw [Array.length_toList]; exact h
  cases hl : s.data.toList with
  | nil => rw [hl] at this; exact absurd rfl this
  | cons _ _ => rfl
theorem ext_all (s : ByteArray) : s.extract 0 s.size = s := by
  have h := ext_head s ByteArray.empty
  rw [app_nil] at h
  exact h
theorem ext_none (s : ByteArray) : s.extract s.size s.size = ByteArray.empty := size_zero (by rw [ByteArray.size_extract]; omega)
end Go.Proofs.YtlpibpkbgmcclaaGreatDoor
