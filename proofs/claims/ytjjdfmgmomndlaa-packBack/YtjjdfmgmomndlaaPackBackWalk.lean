/- The law PackBack returns true at every input, and writes nothing that was there. -/
import Derived.Test.YtjjdfmgmomndlaaPkLive
namespace Go.Proofs.Ytjjdfmgmomndlaa
open Go.RowKit
set_option maxRecDepth 100000 in
set_option maxHeartbeats 2000000 in
theorem walkPackBack (n : Int) (s more : ByteArray) (w : World) (_w0 : (Lit.int .i64 n).wf = true) (w1 : s.data.toList.length ≤ reachBytes) (w2 : more.data.toList.length ≤ reachBytes) :
    Calls Try.prog 5 #[.int .i64 n, .string s, .string more] w fun e w' => e = .returned (.bool true) ∧ Below w.heap.size w w' := by
  have hs : s.size ≤ reachBytes := by simpa using w1
  have hm : more.size ≤ reachBytes := by simpa using w2
  have hr : reachBytes < 2 ^ 47 := by decide
  clear _w0 w1 w2
  by_cases hbig : n < 0 ∨ 72057594037927935 < n ∨ 1000 < s.size ∨ 1000 < more.size
  · have key : (n < 0) ∨ (¬ n < 0 ∧ 72057594037927935 < n) ∨ (¬ n < 0 ∧ ¬ 72057594037927935 < n ∧ 1000 < s.size) ∨ (¬ n < 0 ∧ ¬ 72057594037927935 < n ∧ ¬ 1000 < s.size ∧ 1000 < more.size) := by omega
    clear hbig
    rcases key with c | ⟨c1, c⟩ | ⟨c1, c2, c⟩ | ⟨c1, c2, c3, c⟩
    all_goals
      go_enter Try.func5, Try.ntmps5
      go_wp2_with fail
      refine (live_any _).mono ?_
      rintro e w1 ⟨rfl, hb⟩
      go_wp2_with fail
      go_ret
      exact ⟨rfl, hb⟩
  · obtain ⟨k, rfl⟩ : ∃ k : Nat, n = (k : Int) := ⟨n.toNat, by omega⟩
    have hk : k < 72057594037927936 := by omega
    have hs1 : s.size ≤ 1000 := by omega
    have hm1 : more.size ≤ 1000 := by omega
    have h0 : decide ((k : Int) < 0) = false := by simp
    have h1 : ¬ (72057594037927935 < (k : Int)) := by omega
    clear hbig hs hm hr
    have HE : Hid (numS k ++ textS s ++ more = numS k ++ (textS s ++ more)) := app_assoc _ _ _
    obtain ⟨_, a1, a2, a3⟩ := rd_num (n := k) (textS s ++ more) hk
    obtain ⟨b1, b2, b3⟩ := rd_text (s := s) more (by omega)
    have A1 := hide a1
    have A2 := hide a2
    have A3 := hide a3
    have B1 := hide b1
    have B2 := hide b2
    have B3 := hide b3
    have hz1 : (numS k).size ≤ 8 := by rw [numS_size]; exact nlen_top hk
    have hz2 : (textS s).size ≤ 1008 := by unfold textS; rw [ByteArray.size_append, numS_size]; have := nlen_top (n := s.size) (by omega); omega
    clear a1 a2 a3 b1 b2 b3
    have hN := number_nat k w hk
    generalize numS k = N at *
    have HNN := hide hN
    clear hN
    go_enter Try.func5, Try.ntmps5
    go_wp2_with fail
    refine HNN.out.mono ?_
    rintro e w1 ⟨rfl, hb1⟩
    have HB1 := hide hb1
    clear hb1
    go_wp2_with fail
    refine (text_any s w1 (by omega)).mono ?_
    generalize textS s = T at *
    rintro e w2 ⟨rfl, hb2⟩
    have HB2 := hide (HB1.out.trans (hb2.mono HB1.out.size))
    clear hb2 HB1
    have hz3 : (N ++ T).size = N.size + T.size := ByteArray.size_append
    have hz4 : (N ++ T ++ more).size = N.size + T.size + more.size := by rw [ByteArray.size_append, ByteArray.size_append]
    go_wp2_with fail
    refine (read_any (N ++ T ++ more) w2).mono ?_
    rintro e w3 ⟨b, rfl, hb, _, hR3, hb3⟩
    rw [HE.out] at hR3
    have HR3 := hide hR3
    have HB3 := hide (HB2.out.trans (hb3.mono HB2.out.size))
    have HB : Hid (w.heap.size ≤ b) := by rw [hb]; exact HB2.out.size
    clear hR3 hb3 HB2 hb
    go_wp2_with fail
    refine (rnum_ok b _ w3 HR3.out (by rw [← HE.out]; omega)).mono ?_
    rw [A1.out, A2.out, A3.out]
    rintro e w4 ⟨rfl, hR4, hb4⟩
    have HR4 := hide hR4
    have HB4 := hide (HB3.out.trans (hb4.below HB.out))
    clear hR4 hb4 HB3
    go_wp2_with fail
    refine (rtext_ok b _ w4 HR4.out (by rw [ByteArray.size_append]; omega)).mono ?_
    rw [B1.out, B2.out, B3.out]
    rintro e w5 ⟨rfl, hR5, hb5⟩
    have HR5 := hide hR5
    have HB5 := hide (HB4.out.trans (hb5.below HB.out))
    clear hR5 hb5 HB4
    go_wp2_with fail
    refine (rrest_ok b _ w5 HR5.out).mono ?_
    rintro e w6 ⟨rfl, hR6, hb6⟩
    have HR6 := hide hR6
    have HB6 := hide (HB5.out.trans (hb6.below HB.out))
    clear hR6 hb6 HB5
    go_wp2_with fail
    refine (rend_done b w6 HR6.out).mono ?_
    rintro e w7 ⟨rfl, rfl⟩
    go_wp2_with fail
    refine (live_any _).mono ?_
    rintro e w8 ⟨rfl, hb8⟩
    have HB8 := hide (HB6.out.trans (hb8.mono HB6.out.size))
    clear hb8 HB6
    go_wp2_with fail
    go_ret
    exact ⟨rfl, HB8.out⟩
end Go.Proofs.Ytjjdfmgmomndlaa
