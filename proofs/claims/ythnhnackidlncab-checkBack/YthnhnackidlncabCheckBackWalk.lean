/- The law CheckBack returns true at every input, and writes nothing that was there. -/
import Derived.Test.YthnhnackidlncabCrLive
import Derived.OpenShut
namespace Go.Proofs.Ythnhnackidlncab
open Go.RowKit
/-- a sealed text, cut, is none that has that text -/
theorem cut_other {s : ByteArray} {n : Nat} (h : n < (sealS s).size) : opE ((sealS s).extract 0 n) ≠ 0 ∨ opT ((sealS s).extract 0 n) ≠ s := by
  by_cases h0 : opE ((sealS s).extract 0 n) = 0
  · right
    intro e
    have hz := congrArg ByteArray.size e
    have hsz := sealS_size s
    have hx : ((sealS s).extract 0 n).size = n := by rw [ByteArray.size_extract]; omega
    unfold opE at h0
    split at h0
    · cases h0
    · rename_i h4
      split at h0
      · rename_i hs
        unfold opT at hz
        rw [if_neg h4, if_pos hs, headS_size] at hz
        omega
      · cases h0
  · exact .inl h0
set_option maxRecDepth 100000 in
set_option maxHeartbeats 2000000 in
theorem walkCheckBack (s : ByteArray) (n : Int) (w : World) (w0 : s.data.toList.length ≤ reachBytes) (w1 : (Lit.int .i64 n).wf = true) :
    Calls Try.prog 4 #[.string s, .int .i64 n] w fun e w' => e = .returned (.bool true) ∧ Below w.heap.size w w' := by
  have hs : s.size ≤ reachBytes := by simpa using w0
  have hr : reachBytes < 2 ^ 47 := by decide
  clear w0
  by_cases hbig : 2000 < s.size
  · go_enter Try.func4, Try.ntmps4
    go_wp2_with fail
    refine (live_any _).mono ?_
    rintro e w1 ⟨rfl, hb⟩
    go_wp2_with fail
    go_ret
    exact ⟨rfl, hb⟩
  have hz := sealS_size s
  by_cases hin : 0 ≤ n ∧ n < (s.size : Int) + 4
  · obtain ⟨k, rfl⟩ : ∃ k : Nat, n = (k : Int) := ⟨n.toNat, by omega⟩
    have hk : k < (sealS s).size := by omega
    have HO := hide (cut_other hk)
    have hxz : ((sealS s).extract 0 k).size ≤ 100000 := by rw [ByteArray.size_extract]; omega
    clear w1
    go_enter Try.func4, Try.ntmps4
    go_wp2_with fail
    refine (seal_any s w (by omega)).mono ?_
    rintro e w1 ⟨rfl, hb1⟩
    have HB1 := hide hb1
    clear hb1
    go_wp2_with fail
    refine (open_any (sealS s) w1 (by omega)).mono ?_
    rw [opT_seal, opE_seal]
    rintro e w2 ⟨rfl, hb2⟩
    have HB2 := hide (HB1.out.trans (hb2.mono HB1.out.size))
    clear hb2 HB1
    go_wp2_with fail
    refine (open_any _ w2 hxz).mono ?_
    generalize opE ((sealS s).extract 0 k) = E at *
    generalize opT ((sealS s).extract 0 k) = T at *
    rintro e w3 ⟨rfl, hb3⟩
    have HB3 := hide (HB2.out.trans (hb3.mono HB2.out.size))
    clear hb3 HB2
    by_cases hE : E = 0
    · have hT := str_ne (HO.out.resolve_left fun h => h hE)
      subst hE
      go_wp2_with fail
      refine (live_any _).mono ?_
      rintro e w4 ⟨rfl, hb4⟩
      have HB4 := hide (HB3.out.trans (hb4.mono HB3.out.size))
      clear hb4 HB3
      go_wp2_with fail
      go_ret
      exact ⟨rfl, HB4.out⟩
    · have hE' : (E != 0) = true := by simp [hE]
      clear hE
      go_wp2_with fail
      refine (live_any _).mono ?_
      rintro e w4 ⟨rfl, hb4⟩
      have HB4 := hide (HB3.out.trans (hb4.mono HB3.out.size))
      clear hb4 HB3
      go_wp2_with fail
      go_ret
      exact ⟨rfl, HB4.out⟩
  · have hout : (decide (n < 0) || decide ((s.size : Int) + 4 ≤ n)) = true := by simp; omega
    clear w1 hin
    go_enter Try.func4, Try.ntmps4
    go_wp2_with fail
    refine (seal_any s w (by omega)).mono ?_
    rintro e w1 ⟨rfl, hb1⟩
    have HB1 := hide hb1
    clear hb1
    go_wp2_with fail
    refine (open_any (sealS s) w1 (by omega)).mono ?_
    rw [opT_seal, opE_seal]
    rintro e w2 ⟨rfl, hb2⟩
    have HB2 := hide (HB1.out.trans (hb2.mono HB1.out.size))
    clear hb2 HB1
    go_wp2_with fail
    all_goals
      refine (live_any _).mono ?_
      rintro e w4 ⟨rfl, hb4⟩
      have HB4 := hide (HB2.out.trans (hb4.mono HB2.out.size))
      clear hb4 HB2
      go_wp2_with fail
      go_ret
      exact ⟨rfl, HB4.out⟩
end Go.Proofs.Ythnhnackidlncab
