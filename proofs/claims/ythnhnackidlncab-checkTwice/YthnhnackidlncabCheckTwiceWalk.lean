/- The law CheckTwice returns true at every input, and writes nothing that was there. -/
import Derived.Test.YthnhnackidlncabCrLive
import Derived.OpenShut
namespace Go.Proofs.Ythnhnackidlncab
open Go.RowKit
set_option maxRecDepth 100000 in
set_option maxHeartbeats 2000000 in
theorem walkCheckTwice (s t : ByteArray) (w : World) (w0 : s.data.toList.length ≤ reachBytes) (w1 : t.data.toList.length ≤ reachBytes) :
    Calls Try.prog 8 #[.string s, .string t] w fun e w' => e = .returned (.bool true) ∧ Below w.heap.size w w' := by
  have hs : s.size ≤ reachBytes := by simpa using w0
  have ht : t.size ≤ reachBytes := by simpa using w1
  have hr : reachBytes < 2 ^ 47 := by decide
  clear w0 w1
  by_cases hbig : (decide ((1000 : Int) < s.size) || decide ((1000 : Int) < t.size)) = true
  · go_enter Try.func8, Try.ntmps8
    go_wp2_with fail
    all_goals
      refine (live_any _).mono ?_
      rintro e w1 ⟨rfl, hb⟩
      go_wp2_with fail
      go_ret
      exact ⟨rfl, hb⟩
  have h1 : s.size ≤ 1000 := by simp at hbig; omega
  have h2 : t.size ≤ 1000 := by simp at hbig; omega
  clear hbig
  have hz := sealS_size s
  have hzt := sealS_size t
  have hzz := sealS_size (sealS s)
  go_enter Try.func8, Try.ntmps8
  go_wp2_with fail
  refine (seal_any s w (by omega)).mono ?_
  rintro e w1 ⟨rfl, hb1⟩
  have HB1 := hide hb1
  clear hb1
  go_wp2_with fail
  refine (seal_any (sealS s) w1 (by omega)).mono ?_
  rintro e w2 ⟨rfl, hb2⟩
  have HB2 := hide (HB1.out.trans (hb2.mono HB1.out.size))
  clear hb2 HB1
  go_wp2_with fail
  refine (open_any (sealS (sealS s)) w2 (by omega)).mono ?_
  rw [opT_seal, opE_seal]
  rintro e w3 ⟨rfl, hb3⟩
  have HB3 := hide (HB2.out.trans (hb3.mono HB2.out.size))
  clear hb3 HB2
  go_wp2_with fail
  refine (open_any (sealS s) w3 (by omega)).mono ?_
  rw [opT_seal, opE_seal]
  rintro e w4 ⟨rfl, hb4⟩
  have HB4 := hide (HB3.out.trans (hb4.mono HB3.out.size))
  clear hb4 HB3
  go_wp2_with fail
  refine (seal_any s w4 (by omega)).mono ?_
  rintro e w5 ⟨rfl, hb5⟩
  have HB5 := hide (HB4.out.trans (hb5.mono HB4.out.size))
  clear hb5 HB4
  go_wp2_with fail
  refine (of_any (sealS s) w5 (by omega)).mono ?_
  rw [sum_seal]
  rintro e w6 ⟨rfl, hb6⟩
  have HB6 := hide (HB5.out.trans (hb6.mono HB5.out.size))
  clear hb6 HB5
  generalize hX : Cr.stN 32 Cr.F ^^^ Cr.F = X
  have HX := hide hX
  clear hX
  go_wp2_with fail
  refine (seal_any t w6 (by omega)).mono ?_
  rintro e w7 ⟨rfl, hb7⟩
  have HB7 := hide (HB6.out.trans (hb7.mono HB6.out.size))
  clear hb7 HB6
  go_wp2_with fail
  refine (of_any (sealS t) w7 (by omega)).mono ?_
  rw [sum_seal, HX.out]
  rintro e w8 ⟨rfl, hb8⟩
  have HB8 := hide (HB7.out.trans (hb8.mono HB7.out.size))
  clear hb8 HB7
  go_wp2_with fail
  refine (live_any _).mono ?_
  rintro e w9 ⟨rfl, hb9⟩
  have HB9 := hide (HB8.out.trans (hb9.mono HB8.out.size))
  clear hb9 HB8
  go_wp2_with fail
  go_ret
  exact ⟨rfl, HB9.out⟩
end Go.Proofs.Ythnhnackidlncab
