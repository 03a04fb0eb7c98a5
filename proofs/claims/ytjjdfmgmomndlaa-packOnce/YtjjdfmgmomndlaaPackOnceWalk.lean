/- The law PackOnce returns true at every input, and writes nothing that was there. -/
import Derived.Test.YtjjdfmgmomndlaaPkLive
namespace Go.Proofs.Ytjjdfmgmomndlaa
open Go.RowKit
set_option maxRecDepth 100000 in
set_option maxHeartbeats 2000000 in
theorem walkPackOnce (s : ByteArray) (w : World) (w0 : s.data.toList.length ≤ reachBytes) :
    Calls Try.prog 6 #[.string s] w fun e w' => e = .returned (.bool true) ∧ Below w.heap.size w w' := by
  have hs : s.size ≤ reachBytes := by simpa using w0
  have hr : reachBytes < 2 ^ 47 := by decide
  clear w0
  by_cases hbig : 20 < s.size
  · go_enter Try.func6, Try.ntmps6
    go_wp2_with fail
    refine (live_any _).mono ?_
    rintro e w1 ⟨rfl, hb⟩
    go_wp2_with fail
    go_ret
    exact ⟨rfl, hb⟩
  have hs1 : s.size ≤ 20 := by omega
  clear hbig hs hr
  have hon := once_num s
  have hlt := rN_lt s
  go_enter Try.func6, Try.ntmps6
  go_wp2_with fail
  refine (read_any s w).mono ?_
  rintro e w3 ⟨b, rfl, hb, _, hR3, hb3⟩
  have HR3 := hide hR3
  have HB3 := hide hb3
  have HB : Hid (w.heap.size ≤ b) := by rw [hb]; exact Nat.le_refl _
  clear hR3 hb3 hb
  have HON := hide hon
  clear hon
  go_wp2_with fail
  refine (rnum_ok b _ w3 HR3.out (by omega)).mono ?_
  rintro e w4 ⟨rfl, hR4, hb4⟩
  have HB4 := hide (HB3.out.trans (hb4.below HB.out))
  have HR4 := hide hR4
  clear hb4 HB3 hR4
  by_cases hok : rE s = 0 ∧ (rR s).size = 0
  · have hR5 := HR4.out
    rw [hok.1, size_zero hok.2] at hR5
    have HR5 := hide hR5
    have HEQ := hide (HON.out.1 hok)
    have hq : (s.toList == s.toList) = true := by simp
    clear hR5 hok HR4
    generalize rN s = n at *
    go_wp2_with fail
    refine (rend_done b w4 HR5.out).mono ?_
    rintro e w7 ⟨rfl, rfl⟩
    go_wp2_with fail
    refine (number_nat n w4 hlt).mono ?_
    rw [HEQ.out]
    rintro e w5 ⟨rfl, hb5⟩
    have HB5 := hide (HB4.out.trans (hb5.mono HB4.out.size))
    clear hb5 HB4
    go_wp2_with fail
    refine (live_any _).mono ?_
    rintro e w8 ⟨rfl, hb8⟩
    have HB8 := hide (HB5.out.trans (hb8.mono HB5.out.size))
    clear hb8 HB5
    go_wp2_with fail
    go_ret
    exact ⟨rfl, HB8.out⟩
  · have HEQ : Hid (numS (rN s) ≠ s) := fun e => hok (HON.out.2 e)
    have hq : ((numS (rN s)).toList == s.toList) = false := str_ne HEQ.out
    by_cases he : rE s = 0
    · have hR5 := HR4.out
      rw [he] at hR5
      have HR5 := hide hR5
      have hne : (rR s).size ≠ 0 := fun h => hok ⟨he, h⟩
      clear hR5 hok HR4 he
      have hN := fun w => number_nat (rN s) w hlt
      have HN := hide hN
      clear hN
      generalize numS (rN s) = T at *
      generalize rN s = n at *
      generalize rR s = R at *
      go_wp2_with fail
      refine (rend_left b R w4 HR5.out hne).mono ?_
      rintro e w7 ⟨rfl, hR7, hb7⟩
      have HB7 := hide (HB4.out.trans (hb7.below HB.out))
      clear hb7 hR7 HB4
      go_wp2_with fail
      refine (HN.out w7).mono ?_
      rintro e w5 ⟨rfl, hb5⟩
      have HB5 := hide (HB7.out.trans (hb5.mono HB7.out.size))
      clear hb5 HB7
      go_wp2_with fail
      refine (live_any _).mono ?_
      rintro e w8 ⟨rfl, hb8⟩
      have HB8 := hide (HB5.out.trans (hb8.mono HB5.out.size))
      clear hb8 HB5
      go_wp2_with fail
      go_ret
      exact ⟨rfl, HB8.out⟩
    · clear hok
      have hN := fun w => number_nat (rN s) w hlt
      have HN := hide hN
      clear hN
      generalize numS (rN s) = T at *
      generalize rN s = n at *
      generalize rR s = R at *
      generalize rE s = E at *
      have hqe : ((E : Int) == 0) = false := by simp; omega
      go_wp2_with fail
      refine (rend_err b R E w4 HR4.out he).mono ?_
      rintro e w7 ⟨rfl, rfl⟩
      go_wp2_with fail
      refine (HN.out w4).mono ?_
      rintro e w5 ⟨rfl, hb5⟩
      have HB5 := hide (HB4.out.trans (hb5.mono HB4.out.size))
      clear hb5 HB4
      go_wp2_with fail
      refine (live_any _).mono ?_
      rintro e w8 ⟨rfl, hb8⟩
      have HB8 := hide (HB5.out.trans (hb8.mono HB5.out.size))
      clear hb8 HB5
      go_wp2_with fail
      go_ret
      exact ⟨rfl, HB8.out⟩
end Go.Proofs.Ytjjdfmgmomndlaa
