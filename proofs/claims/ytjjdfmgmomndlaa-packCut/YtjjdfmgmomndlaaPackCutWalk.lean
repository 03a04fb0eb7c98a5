/- The law PackCut returns true at every input, and writes nothing that was there. -/
import Derived.Test.YtjjdfmgmomndlaaPkLive
namespace Go.Proofs.Ytjjdfmgmomndlaa
open Go.RowKit
theorem rN_cut {s : ByteArray} (h : rE s = 3) : rN s = 0 := by unfold rN; rw [if_neg (by omega)]
theorem tT_cut {s : ByteArray} (h : tE s = 3) : tT s = ByteArray.empty := by unfold tT; rw [if_neg (by omega)]
set_option maxRecDepth 100000 in
set_option maxHeartbeats 4000000 in
theorem walkPackCut (n : Int) (s : ByteArray) (at_ : Int) (w : World) (_w0 : (Lit.int .i64 n).wf = true) (w1 : s.data.toList.length ≤ reachBytes) (_w2 : (Lit.int .i64 at_).wf = true) :
    Calls Try.prog 7 #[.int .i64 n, .string s, .int .i64 at_] w fun e w' => e = .returned (.bool true) ∧ Below w.heap.size w w' := by
  have hs : s.size ≤ reachBytes := by simpa using w1
  have hr : reachBytes < 2 ^ 47 := by decide
  clear _w0 w1 _w2
  by_cases hbig : n < 0 ∨ 72057594037927935 < n ∨ 1000 < s.size ∨ at_ < 0
  · have key : (n < 0) ∨ (¬ n < 0 ∧ 72057594037927935 < n) ∨ (¬ n < 0 ∧ ¬ 72057594037927935 < n ∧ 1000 < s.size) ∨ (¬ n < 0 ∧ ¬ 72057594037927935 < n ∧ ¬ 1000 < s.size ∧ at_ < 0) := by omega
    clear hbig
    rcases key with c | ⟨c1, c⟩ | ⟨c1, c2, c⟩ | ⟨c1, c2, c3, c⟩
    all_goals
      go_enter Try.func7, Try.ntmps7
      go_wp2_with fail
      refine (live_any _).mono ?_
      rintro e w1 ⟨rfl, hb⟩
      go_wp2_with fail
      go_ret
      exact ⟨rfl, hb⟩
  · obtain ⟨k, rfl⟩ : ∃ k : Nat, n = (k : Int) := ⟨n.toNat, by omega⟩
    obtain ⟨j, rfl⟩ : ∃ j : Nat, at_ = (j : Int) := ⟨at_.toNat, by omega⟩
    have hk : k < 72057594037927936 := by omega
    have hs1 : s.size ≤ 1000 := by omega
    have h0 : decide ((k : Int) < 0) = false := by simp
    have h1 : ¬ (72057594037927935 < (k : Int)) := by omega
    have h2 : decide ((j : Int) < 0) = false := by simp
    clear hbig hs hr
    have hz1 : (numS k).size ≤ 8 := by rw [numS_size]; exact nlen_top hk
    have hz2 : (textS s).size ≤ 1008 := by unfold textS; rw [ByteArray.size_append, numS_size]; have := nlen_top (n := s.size) (by omega); omega
    have HX : Hid (j < (numS k).size → rE ((numS k).extract 0 j) = 3) := fun h => cut_num hk (by rw [numS_size] at h; exact h)
    have HY : Hid (j < (textS s).size → tE ((textS s).extract 0 j) = 3) := fun h => cut_text (by omega) h
    have HN := hide (number_nat k w hk)
    have HT : Hid (∀ w, Calls Try.prog 13 #[.string s] w fun e w' => e = .returned (.string (textS s)) ∧ Below w.heap.size w w') := fun w => text_any s w (by omega)
    generalize numS k = N at *
    generalize textS s = T at *
    by_cases cx : j < N.size
    all_goals by_cases cy : j < T.size
    · have ix : ((j : Int) < (N.size : Int)) := by omega
      have ix2 : j ≤ N.size := by omega
      have iy : ((j : Int) < (T.size : Int)) := by omega
      have iy2 : j ≤ T.size := by omega
      go_enter Try.func7, Try.ntmps7
      go_wp2_with fail
      refine HN.out.mono ?_
      rintro e w1 ⟨rfl, hb1⟩
      have HB1 := hide hb1
      clear hb1
      go_wp2_with fail
      refine (HT.out w1).mono ?_
      rintro e w2 ⟨rfl, hb2⟩
      have HB2 := hide (HB1.out.trans (hb2.mono HB1.out.size))
      clear hb2 HB1
      go_wp2_with fail
      refine (read_any (N.extract 0 j) w2).mono ?_
      rintro e wa1 ⟨b1, rfl, hb, _, hR, hb3⟩
      have HR1 := hide hR
      have HC1 := hide (HB2.out.trans (hb3.mono HB2.out.size))
      have HBB1 : Hid (w.heap.size ≤ b1) := by rw [hb]; exact HB2.out.size
      clear hR hb3 HB2 hb
      have hze1 : (N.extract 0 j).size ≤ 1000000 := by rw [ByteArray.size_extract]; omega
      go_wp2_with fail
      refine (rnum_ok b1 _ wa1 HR1.out hze1).mono ?_
      rw [HX.out cx, rN_cut (HX.out cx)]
      rintro e wb1 ⟨rfl, hR, hb4⟩
      have HD1 := hide hR
      have HB2 := hide (HC1.out.trans (hb4.below HBB1.out))
      clear hR hb4 HC1 hze1
      go_wp2_with fail
      refine (rend_err b1 _ 3 wb1 HD1.out (by decide)).mono ?_
      rintro e wc1 ⟨rfl, rfl⟩
      go_wp2_with fail
      refine (read_any (T.extract 0 j) wb1).mono ?_
      rintro e wa2 ⟨b2, rfl, hb, _, hR, hb3⟩
      have HR2 := hide hR
      have HC2 := hide (HB2.out.trans (hb3.mono HB2.out.size))
      have HBB2 : Hid (w.heap.size ≤ b2) := by rw [hb]; exact HB2.out.size
      clear hR hb3 HB2 hb
      have hze2 : (T.extract 0 j).size ≤ 1000000 := by rw [ByteArray.size_extract]; omega
      go_wp2_with fail
      refine (rtext_ok b2 _ wa2 HR2.out hze2).mono ?_
      rw [HY.out cy, tT_cut (HY.out cy)]
      rintro e wb2 ⟨rfl, hR, hb4⟩
      have HD2 := hide hR
      have HB2 := hide (HC2.out.trans (hb4.below HBB2.out))
      clear hR hb4 HC2 hze2
      go_wp2_with fail
      refine (rend_err b2 _ 3 wb2 HD2.out (by decide)).mono ?_
      rintro e wc2 ⟨rfl, rfl⟩
      go_wp2_with fail
      refine (rnum_nil _).mono ?_
      rintro e w5 ⟨rfl, rfl⟩
      go_wp2_with fail
      refine (rtext_nil _).mono ?_
      rintro e w5 ⟨rfl, rfl⟩
      go_wp2_with fail
      refine (rrest_nil _).mono ?_
      rintro e w5 ⟨rfl, rfl⟩
      go_wp2_with fail
      refine (rend_nil _).mono ?_
      rintro e w5 ⟨rfl, rfl⟩
      go_wp2_with fail
      refine (live_any _).mono ?_
      rintro e w8 ⟨rfl, hb8⟩
      have HB8 := hide (HB2.out.trans (hb8.mono HB2.out.size))
      clear hb8 HB2
      go_wp2_with fail
      go_ret
      exact ⟨rfl, HB8.out⟩
    · have ix : ((j : Int) < (N.size : Int)) := by omega
      have ix2 : j ≤ N.size := by omega
      have iy : ¬ ((j : Int) < (T.size : Int)) := by omega
      go_enter Try.func7, Try.ntmps7
      go_wp2_with fail
      refine HN.out.mono ?_
      rintro e w1 ⟨rfl, hb1⟩
      have HB1 := hide hb1
      clear hb1
      go_wp2_with fail
      refine (HT.out w1).mono ?_
      rintro e w2 ⟨rfl, hb2⟩
      have HB2 := hide (HB1.out.trans (hb2.mono HB1.out.size))
      clear hb2 HB1
      go_wp2_with fail
      refine (read_any (N.extract 0 j) w2).mono ?_
      rintro e wa1 ⟨b1, rfl, hb, _, hR, hb3⟩
      have HR1 := hide hR
      have HC1 := hide (HB2.out.trans (hb3.mono HB2.out.size))
      have HBB1 : Hid (w.heap.size ≤ b1) := by rw [hb]; exact HB2.out.size
      clear hR hb3 HB2 hb
      have hze1 : (N.extract 0 j).size ≤ 1000000 := by rw [ByteArray.size_extract]; omega
      go_wp2_with fail
      refine (rnum_ok b1 _ wa1 HR1.out hze1).mono ?_
      rw [HX.out cx, rN_cut (HX.out cx)]
      rintro e wb1 ⟨rfl, hR, hb4⟩
      have HD1 := hide hR
      have HB2 := hide (HC1.out.trans (hb4.below HBB1.out))
      clear hR hb4 HC1 hze1
      go_wp2_with fail
      refine (rend_err b1 _ 3 wb1 HD1.out (by decide)).mono ?_
      rintro e wc1 ⟨rfl, rfl⟩
      go_wp2_with fail
      refine (rnum_nil _).mono ?_
      rintro e w5 ⟨rfl, rfl⟩
      go_wp2_with fail
      refine (rtext_nil _).mono ?_
      rintro e w5 ⟨rfl, rfl⟩
      go_wp2_with fail
      refine (rrest_nil _).mono ?_
      rintro e w5 ⟨rfl, rfl⟩
      go_wp2_with fail
      refine (rend_nil _).mono ?_
      rintro e w5 ⟨rfl, rfl⟩
      go_wp2_with fail
      refine (live_any _).mono ?_
      rintro e w8 ⟨rfl, hb8⟩
      have HB8 := hide (HB2.out.trans (hb8.mono HB2.out.size))
      clear hb8 HB2
      go_wp2_with fail
      go_ret
      exact ⟨rfl, HB8.out⟩
    · have ix : ¬ ((j : Int) < (N.size : Int)) := by omega
      have iy : ((j : Int) < (T.size : Int)) := by omega
      have iy2 : j ≤ T.size := by omega
      go_enter Try.func7, Try.ntmps7
      go_wp2_with fail
      refine HN.out.mono ?_
      rintro e w1 ⟨rfl, hb1⟩
      have HB1 := hide hb1
      clear hb1
      go_wp2_with fail
      refine (HT.out w1).mono ?_
      rintro e w2 ⟨rfl, hb2⟩
      have HB2 := hide (HB1.out.trans (hb2.mono HB1.out.size))
      clear hb2 HB1
      go_wp2_with fail
      refine (read_any (T.extract 0 j) w2).mono ?_
      rintro e wa2 ⟨b2, rfl, hb, _, hR, hb3⟩
      have HR2 := hide hR
      have HC2 := hide (HB2.out.trans (hb3.mono HB2.out.size))
      have HBB2 : Hid (w.heap.size ≤ b2) := by rw [hb]; exact HB2.out.size
      clear hR hb3 HB2 hb
      have hze2 : (T.extract 0 j).size ≤ 1000000 := by rw [ByteArray.size_extract]; omega
      go_wp2_with fail
      refine (rtext_ok b2 _ wa2 HR2.out hze2).mono ?_
      rw [HY.out cy, tT_cut (HY.out cy)]
      rintro e wb2 ⟨rfl, hR, hb4⟩
      have HD2 := hide hR
      have HB2 := hide (HC2.out.trans (hb4.below HBB2.out))
      clear hR hb4 HC2 hze2
      go_wp2_with fail
      refine (rend_err b2 _ 3 wb2 HD2.out (by decide)).mono ?_
      rintro e wc2 ⟨rfl, rfl⟩
      go_wp2_with fail
      refine (rnum_nil _).mono ?_
      rintro e w5 ⟨rfl, rfl⟩
      go_wp2_with fail
      refine (rtext_nil _).mono ?_
      rintro e w5 ⟨rfl, rfl⟩
      go_wp2_with fail
      refine (rrest_nil _).mono ?_
      rintro e w5 ⟨rfl, rfl⟩
      go_wp2_with fail
      refine (rend_nil _).mono ?_
      rintro e w5 ⟨rfl, rfl⟩
      go_wp2_with fail
      refine (live_any _).mono ?_
      rintro e w8 ⟨rfl, hb8⟩
      have HB8 := hide (HB2.out.trans (hb8.mono HB2.out.size))
      clear hb8 HB2
      go_wp2_with fail
      go_ret
      exact ⟨rfl, HB8.out⟩
    · have ix : ¬ ((j : Int) < (N.size : Int)) := by omega
      have iy : ¬ ((j : Int) < (T.size : Int)) := by omega
      go_enter Try.func7, Try.ntmps7
      go_wp2_with fail
      refine HN.out.mono ?_
      rintro e w1 ⟨rfl, hb1⟩
      have HB1 := hide hb1
      clear hb1
      go_wp2_with fail
      refine (HT.out w1).mono ?_
      rintro e w2 ⟨rfl, hb2⟩
      have HB2 := hide (HB1.out.trans (hb2.mono HB1.out.size))
      clear hb2 HB1
      go_wp2_with fail
      refine (rnum_nil _).mono ?_
      rintro e w5 ⟨rfl, rfl⟩
      go_wp2_with fail
      refine (rtext_nil _).mono ?_
      rintro e w5 ⟨rfl, rfl⟩
      go_wp2_with fail
      refine (rrest_nil _).mono ?_
      rintro e w5 ⟨rfl, rfl⟩
      go_wp2_with fail
      refine (rend_nil _).mono ?_
      rintro e w5 ⟨rfl, rfl⟩
      go_wp2_with fail
      refine (live_any _).mono ?_
      rintro e w8 ⟨rfl, hb8⟩
      have HB8 := hide (HB2.out.trans (hb8.mono HB2.out.size))
      clear hb8 HB2
      go_wp2_with fail
      go_ret
      exact ⟨rfl, HB8.out⟩
end Go.Proofs.Ytjjdfmgmomndlaa
