/- What pack.Number, pack.Text and the document's answer the bytes of a number. -/
import Derived.Test.YtlpibpkbgmcclaaDoorPkMath
import Derived.Test.YtlpibpkbgmcclaaDoorOwn
namespace Go.Proofs.YtlpibpkbgmcclaaDoor
open Go.RowKit
theorem byRel_step {w wr w1 : World} {f : Nat → Nat} {v v' : Value} {k x : Nat} {o : Obj} (h : ByRel w wr f v k) (hx : x = f k) (hown : w1.ownsRow w.heap.size 5 1 v' (k + 1) (bys f k ++ [.int .u8 (x : Int)])) (hgr : (wr.alloc o).grownBy w1 v.ownBlock) : ByRel w w1 f v' (k + 1) := by
  refine ⟨by rw [bys_succ, ← hx]; exact hown, ?_⟩
  refine Below.grown (h.2.alloc h.2.size o) hgr ?_ fun g hg => row_base h.1 hg
  rw [World.size_alloc]
  exact Nat.le_succ_of_le h.2.size
/-- the bytes of any int -/
def numI (n : Int) : ByteArray := if n < 0 ∨ 72057594037927935 < n then ByteArray.empty else numS n.toNat
theorem numI_nat {n : Nat} (h : n < 72057594037927936) : numI (n : Int) = numS n := by unfold numI; rw [if_neg (by omega), Int.toNat_natCast]
set_option maxRecDepth 100000 in
set_option maxHeartbeats 2000000 in
theorem number_none (n : Int) (w : World) (h : n < 0 ∨ 72057594037927935 < n) :
    Calls Tryd.prog 61 #[.int .i64 n] w fun e w' => e = .returned (.string ByteArray.empty) ∧ Below w.heap.size w w' := by
  rcases h with h | h
  · go_enter Tryd.func61, Tryd.ntmps61
    go_wp2_with fail
    go_ret
    exact ⟨rfl, Below.refl _ _⟩
  · have h0 : decide (n < 0) = false := by simp; omega
    go_enter Tryd.func61, Tryd.ntmps61
    go_wp2_with fail
    go_ret
    exact ⟨rfl, Below.refl _ _⟩
set_option maxRecDepth 100000 in
set_option maxHeartbeats 2000000 in
theorem number_nat (n : Nat) (w : World) (hn : n < 72057594037927936) :
    Calls Tryd.prog 61 #[.int .i64 (n : Int)] w fun e w' => e = .returned (.string (numS n)) ∧ Below w.heap.size w w' := by
  obtain ⟨i0, hi0, hz0, hz1, hz2⟩ := info_parts u8_info
  have HI := hide hi0
  have HI0 := hide hz0
  have HI1 := hide hz1
  have HI2 := hide hz2
  clear hi0 hz0 hz1 hz2
  have h8 := nlen_top hn
  have h0 : decide ((n : Int) < 0) = false := by simp
  have hp := nlen_pos n
  go_enter Tryd.func61, Tryd.ntmps61
  go_wp2_with fail
  go_loopw [0, 3] (fun y v wr => ∃ k m : Nat, k < nlen n ∧ m = n / 128 ^ k ∧ y = .int .i64 m ∧ ByRel w wr (gb n) v k) (fun y _ _ => (intOf y).toNat)
  case atStart => exact ⟨0, n, by omega, by simp, rfl, World.ownsRow_nil _ _ _ _, Below.refl _ _⟩
  case round =>
    obtain ⟨k, m, hk, hm, rfl, hrel⟩ := hrel
    have H := hide hrel
    have hsz := hrel.2.size
    clear hrel
    have hml : m < 72057594037927936 := by rw [hm]; exact Nat.lt_of_le_of_lt (Nat.div_le_self _ _) hn
    by_cases hlt : 128 ≤ m
    · have hge : 128 ^ (k + 1) ≤ n := by
        rw [hm] at hlt
        have := (Nat.le_div_iff_mul_le (Nat.pow_pos (n := k) (show 0 < 128 by decide))).1 hlt
        rw [Nat.pow_succ, Nat.mul_comm]; exact this
      have hk1 : k + 1 < nlen n := by
        by_cases c : k + 1 < nlen n
        · exact c
        · have : nlen n = k + 1 := by omega
          have := nlen_lt n
          rw [show nlen n = k + 1 by omega] at this
          omega
      have HX : Hid (m % 128 + 128 = gb n k) := by rw [hm]; exact (gb_more hge).symm
      have HM : Hid (m / 128 = n / 128 ^ (k + 1)) := by rw [hm, Nat.div_div_eq_div_mul, Nat.pow_succ]; exact rfl
      clear hm hge
      have hd : decide ((128 : Int) ≤ (m : Int)) = true := by simp; omega
      have hq0 : 0 ≤ (m : Int) % 128 := by omega
      have hq1 : (m : Int) % 128 < 128 := by omega
      have HCV : Hid ((m : Int) % 128 + 128 = ((m % 128 + 128 : Nat) : Int)) := by show (m : Int) % 128 + 128 = ((m % 128 + 128 : Nat) : Int); omega
      have HQ : Hid ((m : Int) / 128 = ((m / 128 : Nat) : Int)) := by show (m : Int) / 128 = ((m / 128 : Nat) : Int); omega
      go_wp2_with (first | (at_builtin; refine wpList_append_own _ rfl (.tmp 12) (.tmp 17) 48 rfl w.heap.size 5 i0 (.int .u8 0) 1 1 Tryd.underlying48 HI.out HI0.out HI1.out HI2.out rfl (by decide) _ k (bys (gb n) k) rfl (H.out.1.alloc _) ⟨wr.heap.size, 0, none⟩ 1 1 [.int .u8 ((m : Int) % 128 + 128)] rfl rfl (cell_one_new _ _ _) (by simp [Value.oneCell']) (by unfold maxLen; omega) (by omega) (by simp; omega) ?_; intro v' w3 hown hgr hnil; clear hnil; rw [HCV.out] at hown; have HN3 := hide (byRel_step H.out HX.out hown hgr); clear hown hgr))
      exact ⟨⟨k + 1, m / 128, by omega, HM.out, by go_num, HN3.out⟩, by simp [intOf]; omega⟩
    · have hlast : n < 128 ^ (k + 1) := by
        rw [hm] at hlt
        have h := Nat.div_lt_iff_lt_mul (x := n) (y := 128) (Nat.pow_pos (n := k) (show 0 < 128 by decide))
        rw [Nat.pow_succ, Nat.mul_comm]; exact h.1 (by omega)
      have hk1 : nlen n = k + 1 := by have := nlen_le hlast; omega
      have HX : Hid (m = gb n k) := by rw [hm]; exact (gb_last hlast).symm
      have HK : Hid (mkS (k + 1) (gb n) = numS n) := by unfold numS; rw [hk1]; exact rfl
      clear hm hlast
      go_wp2_with (first | (at_builtin; refine wpList_append_own _ rfl (.tmp 21) (.tmp 24) 48 rfl w.heap.size 5 i0 (.int .u8 0) 1 1 Tryd.underlying48 HI.out HI0.out HI1.out HI2.out rfl (by decide) _ k (bys (gb n) k) rfl (H.out.1.alloc _) ⟨wr.heap.size, 0, none⟩ 1 1 [.int .u8 (m : Int)] rfl rfl (cell_one_new _ _ _) (by simp [Value.oneCell']) (by unfold maxLen; omega) (by omega) (by simp; omega) ?_; intro v' w3 hown hgr hnil; clear hnil; have HN3 := hide (byRel_step H.out HX.out hown hgr); clear hown hgr; have hcv := own_string HN3.out.1))
      go_ret
      exact ⟨ret_str HK.out, HN3.out.2⟩
theorem number_any (n : Int) (w : World) :
    Calls Tryd.prog 61 #[.int .i64 n] w fun e w' => e = .returned (.string (numI n)) ∧ Below w.heap.size w w' := by
  unfold numI
  by_cases h : n < 0 ∨ 72057594037927935 < n
  · rw [if_pos h]; exact number_none n w h
  · rw [if_neg h]
    obtain ⟨k, rfl⟩ : ∃ k : Nat, n = (k : Int) := ⟨n.toNat, by omega⟩
    exact number_nat k w (by omega)
end Go.Proofs.YtlpibpkbgmcclaaDoor
