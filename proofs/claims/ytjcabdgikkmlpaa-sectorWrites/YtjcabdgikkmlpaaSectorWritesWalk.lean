/- The law SectorWrites returns true at every input, and writes nothing that was there. -/
import Derived.Test.YtjcabdgikkmlpaaSeLive
namespace Go.Proofs.Ytjcabdgikkmlpaa
open Go.RowKit
set_option linter.unusedVariables false
set_option maxRecDepth 100000 in
set_option maxHeartbeats 8000000 in
theorem walkSectorWrites (vv : Value) (w : World) (c : CameV 25 6 w vv) : Calls Try.prog 3 #[vv] w fun e w' => e = .returned (.bool true) ∧ Below w.heap.size w w' := by
  obtain ⟨h, rfl, h63⟩ := hd_open c
  clear c
  have HA : Hid (Below w.heap.size w (w.alloc (.cells (hcs h) 25))) := (Below.refl _ _).alloc (Nat.le_refl _) _
  by_cases hbig : 200 < h.x.size
  · obtain ⟨v, g, i, d, l, z⟩ := h
    simp only [hcs] at HA hbig ⊢
    go_enter Try.func3, Try.ntmps3
    go_wp2_with fail
    refine (slive_any _).mono ?_
    rintro e w1 ⟨rfl, hb⟩
    have HB := hide (HA.out.trans (hb.mono HA.out.size))
    clear hb
    go_wp2_with fail
    try go_ret
    exact ⟨rfl, HB.out⟩
  have HX := hide (hbx_new 25 h w)
  have H1 := hide (own_any h)
  have H2 := hide (write_any h)
  have H3 := hide (refWrite_any h)
  generalize wS h = S at *
  generalize wE h = E at *
  obtain ⟨v, g, i, d, l, z⟩ := h
  simp only [hcs] at HA HX H1 H2 H3 hbig ⊢
  go_enter Try.func3, Try.ntmps3
  go_wp2_with fail
  refine (H1.out _).mono ?_
  rintro e w1 ⟨rfl, hb⟩
  have B1 := hide (HA.out.trans (hb.mono HA.out.size))
  have X1 := hide (HX.out.below hb HX.out.lt)
  clear hb HA HX
  go_wp2_with fail
  refine (H2.out _).mono ?_
  rintro e w2 ⟨rfl, hb⟩
  have B2 := hide (B1.out.trans (hb.mono B1.out.size))
  obtain ⟨⟨s0, s1, s2, s3, s4, s5⟩, -⟩ := (X1.out.below hb X1.out.lt).cells
  simp only at s0 s1 s2 s3 s4 s5
  clear hb B1 X1
  go_wp2_with fail
  refine (H3.out _).mono ?_
  rintro e w3 ⟨rfl, hb⟩
  have B3 := hide (B2.out.trans (hb.mono B2.out.size))
  clear hb B2
  go_wp2_with fail
  refine (slive_any _).mono ?_
  rintro e w4 ⟨rfl, hb⟩
  have B4 := hide (B3.out.trans (hb.mono B3.out.size))
  clear hb B3
  go_wp2_with fail
  try go_ret
  exact ⟨rfl, B4.out⟩
end Go.Proofs.Ytjcabdgikkmlpaa
