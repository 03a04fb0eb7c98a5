/- The law IndexNil, walked. -/
import Derived.Test.YtonhmihmnkicdaaIxLive
import Derived.Test.YtonhmihmnkicdaaIxNilC
namespace Go.Proofs.Ytonhmihmnkicdaa
open Go.RowKit
set_option linter.unusedVariables false
set_option maxRecDepth 100000 in
set_option maxHeartbeats 16000000 in
theorem walkIndexNil (k : ByteArray) (id : Int) (w : World) (wk : k.data.toList.length ≤ reachBytes) (wi : (Lit.int .i64 id).wf = true) : Calls Try.prog 6 #[.string k, .int .i64 id] w fun e w' => e = .returned (.bool true) ∧ Below w.heap.size w w' := by
  clear wk wi
  go_enter Try.func6, Try.ntmps6
  go_wp2_with fail
  refine (nil_get k w).mono ?_
  rintro e w1 ⟨rfl, hb⟩
  simp only [enV, en0]
  have HB1 := hide (hb.alloc hb.size (.cells #[.string ByteArray.empty, .int .i64 0, .int .i64 0, .int .i64 0, .string ByteArray.empty] 31))
  clear hb
  go_upto_region 3 with fail
  generalize w1.alloc (.cells #[.string ByteArray.empty, .int .i64 0, .int .i64 0, .int .i64 0, .string ByteArray.empty] 31) = w2 at *
  go_wp2_with fail
  refine (nil_volume id w2).mono ?_
  rintro e w3 ⟨rfl, hb⟩
  have HB3 := hide ((HB1.out.trans (hb.mono HB1.out.size)).alloc (HB1.out.trans (hb.mono HB1.out.size)).size (.cells #[.int .i64 0, .int .i64 0, .int .i64 0, .slice none 0 0] 29))
  clear hb HB1
  go_upto_region 4 with fail
  generalize w3.alloc (.cells #[.int .i64 0, .int .i64 0, .int .i64 0, .slice none 0 0] 29) = w4 at *
  go_wp2_with fail
  refine (put_any kA 0 w4).mono ?_
  rintro e w5 ⟨a5, c5, rfl, -, hb⟩
  have HB5 := hide (HB3.out.trans (hb.mono HB3.out.size))
  clear hb HB3
  go_wp2_with fail
  refine (nil_apply (rPut kA 0) a5 c5 w5).mono ?_
  rintro e w6 ⟨rfl, hb⟩
  have HB6 := hide (HB5.out.trans (hb.mono HB5.out.size))
  clear hb HB5
  go_wp2_with fail
  refine (put_any kA 0 w6).mono ?_
  rintro e w7 ⟨a7, c7, rfl, -, hb⟩
  have HB7 := hide (HB6.out.trans (hb.mono HB6.out.size))
  clear hb HB6
  go_wp2_with fail
  refine (nil_may (rPut kA 0) a7 c7 w7).mono ?_
  rintro e w8 ⟨rfl, hb⟩
  have HB8 := hide (HB7.out.trans (hb.mono HB7.out.size))
  clear hb HB7
  go_wp2_with fail
  refine (nil_known k w8).mono ?_
  rintro e w9 ⟨rfl, hb⟩
  have HB9 := hide (HB8.out.trans (hb.mono HB8.out.size))
  clear hb HB8
  go_wp2_with fail
  refine (nil_list k 3 w9).mono ?_
  rintro e w10 ⟨rfl, hb⟩
  have HB10 := hide (HB9.out.trans (hb.mono HB9.out.size))
  clear hb HB9
  go_wp2_with fail
  refine (nil_volumes w10).mono ?_
  rintro e w11 ⟨rfl, hb⟩
  have HB11 := hide (HB10.out.trans (hb.mono HB10.out.size))
  clear hb HB10
  go_wp2_with fail
  refine (nil_next w11).mono ?_
  rintro e w12 ⟨rfl, hb⟩
  have HB12 := hide (HB11.out.trans (hb.mono HB11.out.size))
  clear hb HB11
  go_wp2_with fail
  refine (live13_any w12).mono ?_
  rintro e w13 ⟨rfl, hb⟩
  have HB13 := hide (HB12.out.trans (hb.mono HB12.out.size))
  clear hb HB12
  go_wp2_with fail
  try go_ret
  exact ⟨rfl, HB13.out⟩
end Go.Proofs.Ytonhmihmnkicdaa
