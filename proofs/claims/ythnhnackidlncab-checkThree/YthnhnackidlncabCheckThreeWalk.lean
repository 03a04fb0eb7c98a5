/- The law CheckThree returns true at every input, and writes nothing that was there. -/
import Derived.Test.YthnhnackidlncabCrLive
import Derived.Test.YthnhnackidlncabOwn
import Derived.OpenShut
namespace Go.Proofs.Ythnhnackidlncab
open Go.RowKit
theorem three_u8 {a b c : Nat} (ha : a < 256) (hb : b < 256) (hc : c < 256) : bits .xor .u8 (bits .xor .u8 (a : Int) (b : Int)) (c : Int) = ((a ^^^ b ^^^ c : Nat) : Int) := by
  have h := Nat.xor_lt_two_pow (n := 8) ha hb
  rw [u8_xor_nat _ _ ha hb, u8_xor_nat _ _ h hc]
set_option maxRecDepth 100000 in
set_option maxHeartbeats 4000000 in
theorem walkCheckThree (s t u : ByteArray) (w : World) (w0 : s.data.toList.length ≤ reachBytes) (w1 : t.data.toList.length ≤ reachBytes) (w2 : u.data.toList.length ≤ reachBytes) :
    Calls Try.prog 6 #[.string s, .string t, .string u] w fun e w' => e = .returned (.bool true) ∧ Below w.heap.size w w' := by
  have hs : s.size ≤ reachBytes := by simpa using w0
  have ht : t.size ≤ reachBytes := by simpa using w1
  have hu : u.size ≤ reachBytes := by simpa using w2
  have hr : reachBytes < 2 ^ 47 := by decide
  clear w0 w1 w2
  by_cases hbig : 1000 < s.size ∨ s.size ≠ t.size ∨ s.size ≠ u.size
  · by_cases c1 : 1000 < s.size
    · clear hbig
      go_enter Try.func6, Try.ntmps6
      go_wp2_with fail
      refine (live_any _).mono ?_
      rintro e w1 ⟨rfl, hb⟩
      go_wp2_with fail
      go_ret
      exact ⟨rfl, hb⟩
    by_cases c2 : s.size = t.size
    · have e1 : ((s.size : Int) != (t.size : Int)) = false := by rw [c2]; simp
      have e2 : ((s.size : Int) != (u.size : Int)) = true := by simp; omega
      clear hbig c2
      go_enter Try.func6, Try.ntmps6
      go_wp2_with fail
      refine (live_any _).mono ?_
      rintro e w1 ⟨rfl, hb⟩
      go_wp2_with fail
      go_ret
      exact ⟨rfl, hb⟩
    · have e1 : ((s.size : Int) != (t.size : Int)) = true := by simp; omega
      clear hbig c2
      go_enter Try.func6, Try.ntmps6
      go_wp2_with fail
      refine (live_any _).mono ?_
      rintro e w1 ⟨rfl, hb⟩
      go_wp2_with fail
      go_ret
      exact ⟨rfl, hb⟩
  obtain ⟨i0, hi0, hz0, hz1, hz2⟩ := info_parts u8_info
  have HI := hide hi0
  have HI0 := hide hz0
  have HI1 := hide hz1
  have HI2 := hide hz2
  clear hi0 hz0 hz1 hz2
  have h1 : s.size ≤ 1000 := by omega
  have h2 : t.size = s.size := by omega
  have h3 : u.size = s.size := by omega
  clear hbig hs ht hu hr
  have e1 : ((s.size : Int) != (t.size : Int)) = false := by rw [h2]; simp
  have e2 : ((s.size : Int) != (u.size : Int)) = false := by rw [h3]; simp
  have H2 := hide h2
  have H3 := hide h3
  clear h2 h3
  go_enter Try.func6, Try.ntmps6
  go_wp2_with fail
  clear e1 e2
  go_loopw [7, 8] (fun v y wr => ∃ k : Nat, k ≤ s.size ∧ y = .int .i64 k ∧ ByRel w wr (fun p => bt s p ^^^ bt t p ^^^ bt u p) v k) (fun _ y _ => s.size - (intOf y).toNat)
  case atStart => exact ⟨0, by omega, rfl, World.ownsRow_nil _ _ _ _, Below.refl _ _⟩
  case round =>
    obtain ⟨k, hk, rfl, hrel⟩ := hrel
    have H := hide hrel
    have hsz := hrel.2.size
    clear hrel
    by_cases hlt : k < s.size
    · have b1 : (k : Int) < s.size := by omega
      have b2 : (k : Int) < t.size := by have := H2.out; omega
      have b3 : (k : Int) < u.size := by have := H3.out; omega
      have n1 : k < t.size := by have := H2.out; omega
      have n2 : k < u.size := by have := H3.out; omega
      have HB1 := hide (bt_eq hlt)
      have HB2 := hide (bt_eq n1)
      have HB3 := hide (bt_eq n2)
      go_wp2_with fail
      go_region_law (refine step_append_own rfl (.tmp 33) (.tmp 45) 31 rfl w.heap.size 5 i0 (.int .u8 0) 1 1 Try.underlying31 HI.out HI0.out HI1.out HI2.out rfl (by decide) _ k (bys (fun p => bt s p ^^^ bt t p ^^^ bt u p) k) (by simp [Act.eval]) ((own_drew H.out.1).alloc _) ⟨wr.heap.size, 0, none⟩ 1 1 [.int .u8 (bits .xor .u8 (bits .xor .u8 ((s[k]'hlt).toNat : Int) ((t[k]'n1).toNat : Int)) ((u[k]'n2).toNat : Int))] (by simp [Act.eval]) rfl (cell_one_new wr.drew _ _) (by simp [Value.oneCell']) (by unfold maxLen; omega) (by omega) (by simp; omega) ?_; intro v' w3 hown hgr hnil; clear hnil; rw [HB1.out, HB2.out, HB3.out, three_u8 (bt_lt _ _) (bt_lt _ _) (bt_lt _ _)] at hown; have HN3 := hide (byRel_drew H.out rfl hown hgr); clear hown hgr)
      all_goals
        go_wp2_with fail
        exact ⟨⟨k + 1, by omega, by go_num, HN3.out⟩, by simp [intOf]; omega⟩
    · obtain rfl : k = s.size := by omega
      have hcv := own_string H.out.1
      have hX : Hid (Cr.sum (bt (mkS s.size fun p => bt s p ^^^ bt t p ^^^ bt u p)) (mkS s.size fun p => bt s p ^^^ bt t p ^^^ bt u p).size = Cr.sum (bt s) s.size ^^^ Cr.sum (bt t) t.size ^^^ Cr.sum (bt u) u.size) := by
        unfold Hid
        rw [mkS_size, H2.out, H3.out, ← Cr.sum_three]
        exact sum_congr fun p hp => mkS_bt hp (Nat.xor_lt_two_pow (n := 8) (Nat.xor_lt_two_pow (n := 8) (bt_lt _ _) (bt_lt _ _)) (bt_lt _ _))
      have hzT : (mkS s.size fun p => bt s p ^^^ bt t p ^^^ bt u p).size = s.size := mkS_size _ _
      generalize (mkS s.size fun p => bt s p ^^^ bt t p ^^^ bt u p) = T at *
      go_wp2_with fail
      clear hcv
      refine (of_any T wr (by omega)).mono ?_
      rintro e w1 ⟨rfl, hb1⟩
      have HB1 := hide (H.out.2.trans (hb1.mono H.out.2.size))
      clear hb1 H
      go_wp2_with fail
      refine (of_any s w1 (by omega)).mono ?_
      rintro e w2 ⟨rfl, hb2⟩
      have HB2 := hide (HB1.out.trans (hb2.mono HB1.out.size))
      clear hb2 HB1
      go_wp2_with fail
      refine (of_any t w2 (by have := H2.out; omega)).mono ?_
      rintro e w3 ⟨rfl, hb3⟩
      have HB3 := hide (HB2.out.trans (hb3.mono HB2.out.size))
      clear hb3 HB2
      go_wp2_with fail
      refine (of_any u w3 (by have := H3.out; omega)).mono ?_
      rintro e w4 ⟨rfl, hb4⟩
      have HB4 := hide (HB3.out.trans (hb4.mono HB3.out.size))
      clear hb4 HB3
      have l1 := Cr.sum_lt (bt_lt s) s.size
      have l2 := Cr.sum_lt (bt_lt t) t.size
      have l3 := Cr.sum_lt (bt_lt u) u.size
      have heq : (((Cr.sum (bt T) T.size : Nat) : Int) == bits .xor .u32 (bits .xor .u32 ((Cr.sum (bt s) s.size : Nat) : Int) ((Cr.sum (bt t) t.size : Nat) : Int)) ((Cr.sum (bt u) u.size : Nat) : Int)) = true := by
        rw [u32_xor_nat _ _ l1 l2, u32_xor_nat _ _ (Nat.xor_lt_two_pow (n := 32) l1 l2) l3, hX.out]
        simp
      rw [hzT] at heq
      generalize Cr.sum (bt T) s.size = X at *
      generalize Cr.sum (bt s) s.size = X1 at *
      generalize Cr.sum (bt t) t.size = X2 at *
      generalize Cr.sum (bt u) u.size = X3 at *
      go_wp2_with fail
      refine (live_any _).mono ?_
      rintro e w5 ⟨rfl, hb5⟩
      have HB5 := hide (HB4.out.trans (hb5.mono HB4.out.size))
      clear hb5 HB4
      go_wp2_with fail
      go_ret
      exact ⟨rfl, HB5.out⟩
end Go.Proofs.Ythnhnackidlncab
