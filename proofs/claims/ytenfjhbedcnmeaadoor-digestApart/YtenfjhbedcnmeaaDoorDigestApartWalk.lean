/- The law DigestApart returns true at every input, and writes nothing that was there. -/
import Derived.Test.YtenfjhbedcnmeaaDoorShRefSum
import Derived.Test.YtenfjhbedcnmeaaDoorDigestHexWalk
namespace Go.Proofs.YtenfjhbedcnmeaaDoor
open Go.RowKit
set_option maxRecDepth 100000 in
set_option maxHeartbeats 2000000 in
theorem walkDigestApart (a b : ByteArray) (w : World) (hK : KAt w) (w0 : a.data.toList.length ≤ reachBytes) (w1 : b.data.toList.length ≤ reachBytes) :
    Calls Tryd.prog 8 #[.string a, .string b] w fun e w' => e = .returned (.bool true) ∧ Below w.heap.size w w' := by
  have ha : a.size ≤ reachBytes := by simpa using w0
  have hb : b.size ≤ reachBytes := by simpa using w1
  have hr : reachBytes < 2 ^ 47 := by decide
  have HK := hide hK
  clear w0 w1 hK
  by_cases hbig : (decide ((2 : Int) < a.size) || decide ((2 : Int) < b.size)) = true
  · go_enter Tryd.func8, Tryd.ntmps8
    go_wp2_with fail
    all_goals
      refine (live_any w HK.out).mono ?_
      rintro e w1 ⟨rfl, hb⟩
      go_wp2_with fail
      go_ret
      exact ⟨rfl, hb⟩
  have h1 : a.size ≤ 2 := by simp at hbig; omega
  have h2 : b.size ≤ 2 := by simp at hbig; omega
  clear hbig ha hb hr
  have HEQ : Hid (a = b → dig (bt a) a.size = dig (bt b) b.size) := fun h => by rw [h]
  have S1 := hide (dsum_any a w HK.out (by omega))
  have S2 : Hid (∀ W, KAt W → Calls Tryd.prog 10 #[.string b] W fun e w' => e = .returned (.string (dig (bt b) b.size)) ∧ Below W.heap.size W w') := fun W h => dsum_any b W h (by omega)
  have R1 : Hid (∀ W, Calls Tryd.prog 11 #[.string a] W fun e w' => e = .returned (.string (dig (bt a) a.size)) ∧ Below W.heap.size W w') := fun W => refSum_any a W (by omega)
  have R2 : Hid (∀ W, Calls Tryd.prog 11 #[.string b] W fun e w' => e = .returned (.string (dig (bt b) b.size)) ∧ Below W.heap.size W w') := fun W => refSum_any b W (by omega)
  generalize dig (bt a) a.size = X at *
  generalize dig (bt b) b.size = Y at *
  by_cases he : a = b
  · have hx : (X.toList == Y.toList) = true := by rw [HEQ.out he]; simp
    have hn : (a.toList == b.toList) = true := by rw [he]; simp
    have hn2 : (a.toList != b.toList) = false := by rw [he]; simp
    clear he
    go_enter Tryd.func8, Tryd.ntmps8
    go_wp2_with fail
    refine S1.out.mono ?_
    rintro e w1 ⟨rfl, hb1⟩
    have HB1 := hide hb1
    clear hb1
    go_wp2_with fail
    refine (S2.out w1 (HK.out.below HB1.out)).mono ?_
    rintro e w2 ⟨rfl, hb2⟩
    have HB2 := hide (HB1.out.trans (hb2.mono HB1.out.size))
    clear hb2 HB1
    go_wp2_with fail
    refine (R1.out w2).mono ?_
    rintro e w3 ⟨rfl, hb3⟩
    have HB3 := hide (HB2.out.trans (hb3.mono HB2.out.size))
    clear hb3 HB2
    go_wp2_with fail
    refine (R2.out w3).mono ?_
    rintro e w4 ⟨rfl, hb4⟩
    have HB4 := hide (HB3.out.trans (hb4.mono HB3.out.size))
    clear hb4 HB3
    go_wp2_with fail
    refine (live_any w4 (HK.out.below HB4.out)).mono ?_
    rintro e w5 ⟨rfl, hb5⟩
    have HB5 := hide (HB4.out.trans (hb5.mono HB4.out.size))
    clear hb5 HB4
    go_wp2_with fail
    go_ret
    exact ⟨rfl, HB5.out⟩
  · have hn : (a.toList == b.toList) = false := str_ne he
    have hn2 : (a.toList != b.toList) = true := by simp [bne, hn]
    clear he
    go_enter Tryd.func8, Tryd.ntmps8
    go_wp2_with fail
    refine S1.out.mono ?_
    rintro e w1 ⟨rfl, hb1⟩
    have HB1 := hide hb1
    clear hb1
    go_wp2_with fail
    refine (S2.out w1 (HK.out.below HB1.out)).mono ?_
    rintro e w2 ⟨rfl, hb2⟩
    have HB2 := hide (HB1.out.trans (hb2.mono HB1.out.size))
    clear hb2 HB1
    go_wp2_with fail
    refine (R1.out w2).mono ?_
    rintro e w3 ⟨rfl, hb3⟩
    have HB3 := hide (HB2.out.trans (hb3.mono HB2.out.size))
    clear hb3 HB2
    go_wp2_with fail
    refine (R2.out w3).mono ?_
    rintro e w4 ⟨rfl, hb4⟩
    have HB4 := hide (HB3.out.trans (hb4.mono HB3.out.size))
    clear hb4 HB3
    go_wp2_with fail
    refine (live_any w4 (HK.out.below HB4.out)).mono ?_
    rintro e w5 ⟨rfl, hb5⟩
    have HB5 := hide (HB4.out.trans (hb5.mono HB4.out.size))
    clear hb5 HB4
    go_wp2_with fail
    go_ret
    exact ⟨rfl, HB5.out⟩
end Go.Proofs.YtenfjhbedcnmeaaDoor
