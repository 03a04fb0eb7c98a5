/- The law DigestNil returns true at every input, and writes nothing that was there. -/
import Derived.Test.YthnhnackidlncaaDoorShLive
import Derived.OpenShut
namespace Go.Proofs.YthnhnackidlncaaDoor
open Go.RowKit
set_option maxRecDepth 100000 in
set_option maxHeartbeats 1000000 in
theorem walkDigestNil (s : ByteArray) (w : World) (hK : KAt w) (_ : s.data.toList.length ≤ reachBytes) :
    Calls Tryd.prog 7 #[.string s] w fun e w' => e = .returned (.bool true) ∧ Below w.heap.size w w' := by
  have HK := hide hK
  clear hK
  go_enter Tryd.func7, Tryd.ntmps7
  go_wp2_with fail
  refine (stAdd_nil s w).mono ?_
  rintro e w1 ⟨rfl, rfl⟩
  go_wp2_with fail
  refine (stSum_nil w).mono ?_
  rintro e w1 ⟨rfl, rfl⟩
  have hl : ByteArray.empty.toList = [] := by rw [ByteArray.toList_eq]; rfl
  go_wp2_with fail
  refine (live_any w HK.out).mono ?_
  rintro e w1 ⟨rfl, hb⟩
  go_wp2_with fail
  go_ret
  exact ⟨rfl, hb⟩
end Go.Proofs.YthnhnackidlncaaDoor
