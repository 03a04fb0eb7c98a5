/- The law DigestSums returns true at every input, and writes nothing that was there. -/
import Derived.Test.YtenfjhbedcnmeaaDoorShRefSum
import Derived.Test.YtenfjhbedcnmeaaDoorShRefHex
import Derived.Test.YtenfjhbedcnmeaaDoorDigestHexWalk
namespace Go.Proofs.YtenfjhbedcnmeaaDoor
open Go.RowKit
set_option maxRecDepth 100000 in
set_option maxHeartbeats 2000000 in
theorem walkDigestSums (s : ByteArray) (w : World) (hK : KAt w) (w0 : s.data.toList.length ≤ reachBytes) :
    Calls Tryd.prog 3 #[.string s] w fun e w' => e = .returned (.bool true) ∧ Below w.heap.size w w' := by
  have hs : s.size ≤ reachBytes := by simpa using w0
  have hr : reachBytes < 2 ^ 47 := by decide
  have HK := hide hK
  clear w0 hK
  by_cases hbig : 600 < s.size
  · go_enter Tryd.func3, Tryd.ntmps3
    go_wp2_with fail
    refine (live_any w HK.out).mono ?_
    rintro e w1 ⟨rfl, hb⟩
    go_wp2_with fail
    go_ret
    exact ⟨rfl, hb⟩
  have h1 : s.size ≤ 600 := by omega
  clear hbig hs hr
  go_enter Tryd.func3, Tryd.ntmps3
  go_wp2_with fail
  refine (dsum_any s w HK.out (by omega)).mono ?_
  rintro e w1 ⟨rfl, hb1⟩
  have HB1 := hide hb1
  clear hb1
  go_wp2_with fail
  refine (refSum_any s w1 (by omega)).mono ?_
  rintro e w2 ⟨rfl, hb2⟩
  have HB2 := hide (HB1.out.trans (hb2.mono HB1.out.size))
  clear hb2 HB1
  generalize dig (bt s) s.size = D at *
  go_wp2_with fail
  refine (hex_any s w2 (by omega)).mono ?_
  rintro e w3 ⟨rfl, hb3⟩
  have HB3 := hide (HB2.out.trans (hb3.mono HB2.out.size))
  clear hb3 HB2
  go_wp2_with fail
  refine (refHex_any s w3 (by omega)).mono ?_
  rintro e w4 ⟨rfl, hn4⟩
  have HB4 : Hid (Below w.heap.size w w4) := by
    obtain ⟨n, rfl⟩ := hn4
    exact below_draws HB3.out n
  clear hn4 HB3
  generalize mkS (2 * s.size) (hx (bt s)) = X at *
  go_wp2_with fail
  refine (live_any w4 (HK.out.below HB4.out)).mono ?_
  rintro e w5 ⟨rfl, hb5⟩
  have HB5 := hide (HB4.out.trans (hb5.mono HB4.out.size))
  clear hb5 HB4
  go_wp2_with fail
  go_ret
  exact ⟨rfl, HB5.out⟩
end Go.Proofs.YtenfjhbedcnmeaaDoor
