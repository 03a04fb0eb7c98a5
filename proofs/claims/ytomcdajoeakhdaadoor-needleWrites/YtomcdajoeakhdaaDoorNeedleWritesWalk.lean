/- The law NeedleWrites returns true at every input, and writes nothing that was there. -/
import Derived.Test.YtomcdajoeakhdaaDoorNeLive
import Derived.Test.YtomcdajoeakhdaaDoorCameNd
namespace Go.Proofs.YtomcdajoeakhdaaDoor
open Go.RowKit
set_option linter.unusedVariables false
set_option maxRecDepth 100000 in
set_option maxHeartbeats 8000000 in
theorem walkNeedleWrites (vv : Value) (w : World) (hK : KAt w) (cv : CameV 23 2 w vv) : Calls Tryd.prog 3 #[vv] w fun e w' => e = .returned (.bool true) ∧ Below w.heap.size w w' := by
  obtain ⟨⟨k, v⟩, rfl, w0, w1⟩ := nd_open cv
  clear cv
  simp only [ncs] at w0 w1 ⊢
  have hal : Below w.heap.size w (w.alloc (.cells #[.string k, .string v] 23)) := (Below.refl _ _).alloc (Nat.le_refl _) _
  have HA := hide hal
  have KA := hide (hK.below hal)
  clear hal hK w0 w1
  by_cases hbig : 100 < k.size
  · go_enter Tryd.func3, Tryd.ntmps3
    go_wp2_with fail
    refine (nlive_any _ KA.out).mono ?_
    rintro e w1 ⟨rfl, hb⟩
    have HB := hide (HA.out.trans (hb.mono HA.out.size))
    clear hb
    go_wp2_with fail
    try go_ret
    exact ⟨rfl, HB.out⟩
  by_cases hbig2 : 1000 < v.size
  · go_enter Tryd.func3, Tryd.ntmps3
    go_wp2_with fail
    refine (nlive_any _ KA.out).mono ?_
    rintro e w1 ⟨rfl, hb⟩
    have HB := hide (HA.out.trans (hb.mono HA.out.size))
    clear hb
    go_wp2_with fail
    try go_ret
    exact ⟨rfl, HB.out⟩
  have H1 := hide (nown_any ⟨k, v⟩)
  have H2 := hide (fun w hK => nwrite_any ⟨k, v⟩ w hK (by show k.size ≤ _; omega) (by show v.size ≤ _; omega))
  have H3 := hide (fun w => rwrite_any ⟨k, v⟩ w (by show k.size ≤ _; omega) (by show v.size ≤ _; omega))
  have H4 := hide (fun w => ncheck_any ⟨k, v⟩ w (by show k.size ≤ _; omega) (by show v.size ≤ _; omega))
  have H5 := hide (fun w => rcheck_any ⟨k, v⟩ w (by show k.size ≤ _; omega) (by show v.size ≤ _; omega))
  have HX : Hid (NBx w.heap.size 23 ⟨k, v⟩ (w.alloc (.cells #[.string k, .string v] 23))) := nbx_new 23 ⟨k, v⟩ w
  generalize nwS ⟨k, v⟩ = S at *
  generalize ckE ⟨k, v⟩ = E at *
  simp only [ncs] at H1 H2 H3 H4 H5
  go_enter Tryd.func3, Tryd.ntmps3
  go_wp2_with fail
  generalize w.alloc (.cells #[.string k, .string v] 23) = W0 at *
  refine (H1.out _).mono ?_
  rintro e w1 ⟨rfl, hb⟩
  have B1 := hide (HA.out.trans (hb.mono HA.out.size))
  have K1 := hide (KA.out.below hb)
  have X1 := hide (HX.out.below hb HX.out.lt)
  clear hb HA KA HX
  go_wp2_with fail
  refine (H2.out _ K1.out).mono ?_
  rintro e w2 ⟨rfl, hb⟩
  have B2 := hide (B1.out.trans (hb.mono B1.out.size))
  have K2 := hide (K1.out.below hb)
  have X2 := hide (X1.out.below hb X1.out.lt)
  clear hb B1 K1 X1
  obtain ⟨⟨c0, c1⟩, -⟩ := X2.out.cells
  simp only at c0 c1
  go_wp2_with fail
  clear c0 c1
  refine (H3.out _).mono ?_
  rintro e w3 ⟨rfl, hb⟩
  have B3 := hide (B2.out.trans (hb.mono B2.out.size))
  have K3 := hide (K2.out.below hb)
  have X3 := hide (X2.out.below hb X2.out.lt)
  clear hb B2 K2 X2
  have q1 : (S.toList == S.toList) = true := by simp
  have q2 : (E == E) = true := by simp
  have e0 := cell_regrown X3.out.c0
  have e1 := cell_regrown X3.out.c1
  simp only at e0 e1
  have r1 : ∀ q os, Calls Tryd.prog 11 #[.agg #[.string k, .string v]] (Go.Sort.grow (redrawn w3 q) os) fun e w'' => e = .returned (.agg #[.string k, .string v]) ∧ ∃ p : Regrown, w'' = Go.Sort.grow (redrawn w3 p.d) p.os := fun q os => Calls.regrown_of (H1.out _)
  have r2 : ∀ q os, Calls Tryd.prog 13 #[.agg #[.string k, .string v]] (Go.Sort.grow (redrawn w3 q) os) fun e w'' => e = .returned (.int .i64 E) ∧ ∃ p : Regrown, w'' = Go.Sort.grow (redrawn w3 p.d) p.os := fun q os => Calls.regrown_of (H4.out _)
  have r3 : ∀ q os, Calls Tryd.prog 14 #[.agg #[.string k, .string v]] (Go.Sort.grow (redrawn w3 q) os) fun e w'' => e = .returned (.int .i64 E) ∧ ∃ p : Regrown, w'' = Go.Sort.grow (redrawn w3 p.d) p.os := fun q os => Calls.regrown_of (H5.out _)
  have r4 : ∀ q os, Calls Tryd.prog 9 #[] (Go.Sort.grow (redrawn w3 q) os) fun e w'' => e = .returned (.bool true) ∧ ∃ p : Regrown, w'' = Go.Sort.grow (redrawn w3 p.d) p.os := fun q os => Calls.regrown_of (nlive_any _ (K3.out.below (below_regrown w3 q os)))
  go_upto_region 5 with fail
  refine wp_region_quiet_below (by kernel_rfl) (by kernel_rfl) ?_
  repeat (quiet_step (first | (with_reducible exact r1 _ _) | (with_reducible exact r2 _ _) | (with_reducible exact r3 _ _) | (with_reducible exact r4 _ _)))
  refine wpQuiet_nil ?_
  intro _ hw'
  obtain ⟨pq, hw''⟩ := hw'
  subst hw''
  have HQ := hide (B3.out.trans ((below_regrown w3 pq.d pq.os).mono B3.out.size))
  generalize Go.Sort.grow (redrawn w3 pq.d) pq.os = WQ at *
  go_wp2_with fail
  try go_ret
  exact ⟨rfl, HQ.out⟩
end Go.Proofs.YtomcdajoeakhdaaDoor
