/- What the law's own live answers: true. -/
import Derived.Test.YtenfjhbedcnmeaaDoorShFin
namespace Go.Proofs.YtenfjhbedcnmeaaDoor
open Go.RowKit
def hAbc : ByteArray := ⟨#[98, 97, 55, 56, 49, 54, 98, 102, 56, 102, 48, 49, 99, 102, 101, 97, 52, 49, 52, 49, 52, 48, 100, 101, 53, 100, 97, 101, 50, 50, 50, 51, 98, 48, 48, 51, 54, 49, 97, 51, 57, 54, 49, 55, 55, 97, 57, 99, 98, 52, 49, 48, 102, 102, 54, 49, 102, 50, 48, 48, 49, 53, 97, 100]⟩
def hNul : ByteArray := ⟨#[101, 51, 98, 48, 99, 52, 52, 50, 57, 56, 102, 99, 49, 99, 49, 52, 57, 97, 102, 98, 102, 52, 99, 56, 57, 57, 54, 102, 98, 57, 50, 52, 50, 55, 97, 101, 52, 49, 101, 52, 54, 52, 57, 98, 57, 51, 52, 99, 97, 52, 57, 53, 57, 57, 49, 98, 55, 56, 53, 50, 98, 56, 53, 53]⟩
theorem hex_abc : mkS 64 (hx (bt (mkS 32 (by8 Sh.abc)))) = hAbc := by decide +kernel
theorem hex_nul : mkS 64 (hx (bt (mkS 32 (by8 Sh.nul)))) = hNul := by decide +kernel
theorem hex_two : mkS 4 (hx (bt ⟨#[15, 160]⟩)) = ⟨#[48, 102, 97, 48]⟩ := by decide +kernel
set_option maxRecDepth 100000 in
set_option maxHeartbeats 2000000 in
theorem live_any (w : World) (hK : KAt w) : Calls Tryd.prog 9 #[] w fun e w' => e = .returned (.bool true) ∧ Below w.heap.size w w' := by
  have HK := hide hK
  clear hK
  go_enter Tryd.func9, Tryd.ntmps9
  go_wp2_with fail
  refine (dsum_any sAbc w HK.out (by decide)).mono ?_
  rw [show sAbc.size = 3 from rfl, dig_abc]
  rintro e w1 ⟨rfl, hb1⟩
  have HB1 := hide hb1
  clear hb1
  have hz1 : (mkS 32 (by8 Sh.abc)).size = 32 := mkS_size _ _
  have HH1 := hide hex_abc
  generalize mkS 32 (by8 Sh.abc) = A1 at *
  go_wp2_with fail
  refine (hex_any A1 w1 (by omega)).mono ?_
  rw [hz1, HH1.out]
  rintro e w2 ⟨rfl, hb2⟩
  have HB2 := hide (HB1.out.trans (hb2.mono HB1.out.size))
  clear hb2 HB1 hz1
  have hl1 : hAbc.toList = [98, 97, 55, 56, 49, 54, 98, 102, 56, 102, 48, 49, 99, 102, 101, 97, 52, 49, 52, 49, 52, 48, 100, 101, 53, 100, 97, 101, 50, 50, 50, 51, 98, 48, 48, 51, 54, 49, 97, 51, 57, 54, 49, 55, 55, 97, 57, 99, 98, 52, 49, 48, 102, 102, 54, 49, 102, 50, 48, 48, 49, 53, 97, 100] := by rw [ByteArray.toList_eq]; rfl
  go_wp2_with fail
  refine (dsum_any ByteArray.empty w2 (HK.out.below HB2.out) (by decide)).mono ?_
  rw [show ByteArray.empty.size = 0 from rfl, dig_nul]
  rintro e w3 ⟨rfl, hb3⟩
  have HB3 := hide (HB2.out.trans (hb3.mono HB2.out.size))
  clear hb3 HB2 hl1
  have hz2 : (mkS 32 (by8 Sh.nul)).size = 32 := mkS_size _ _
  have HH2 := hide hex_nul
  generalize mkS 32 (by8 Sh.nul) = A2 at *
  go_wp2_with fail
  refine (hex_any A2 w3 (by omega)).mono ?_
  rw [hz2, HH2.out]
  rintro e w4 ⟨rfl, hb4⟩
  have HB4 := hide (HB3.out.trans (hb4.mono HB3.out.size))
  clear hb4 HB3 hz2
  have hl2 : hNul.toList = [101, 51, 98, 48, 99, 52, 52, 50, 57, 56, 102, 99, 49, 99, 49, 52, 57, 97, 102, 98, 102, 52, 99, 56, 57, 57, 54, 102, 98, 57, 50, 52, 50, 55, 97, 101, 52, 49, 101, 52, 54, 52, 57, 98, 57, 51, 52, 99, 97, 52, 57, 53, 57, 57, 49, 98, 55, 56, 53, 50, 98, 56, 53, 53] := by rw [ByteArray.toList_eq]; rfl
  go_wp2_with fail
  refine (hex_any ⟨#[15, 160]⟩ w4 (by decide)).mono ?_
  rw [show 2 * (ByteArray.size ⟨#[15, 160]⟩) = 4 from rfl, hex_two]
  rintro e w5 ⟨rfl, hb5⟩
  have HB5 := hide (HB4.out.trans (hb5.mono HB4.out.size))
  clear hb5 HB4 hl2
  have hl3 : (⟨#[48, 102, 97, 48]⟩ : ByteArray).toList = [48, 102, 97, 48] := by rw [ByteArray.toList_eq]
  go_wp2_with fail
  all_goals
    go_ret
    exact ⟨rfl, HB5.out⟩
end Go.Proofs.YtenfjhbedcnmeaaDoor
