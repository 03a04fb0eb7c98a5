/- What May of the index answers. -/
import Derived.Test.YtonhmihmnkicdaaIxGet
import Derived.Test.YtonhmihmnkicdaaRcCheck
import Derived.Deep.Cut
namespace Go.Proofs.Ytonhmihmnkicdaa
open Go.RowKit
set_option linter.unusedVariables false
/-- numbers of a record that may be are keys -/
theorem numR_ok {n : Int} (h : numR n) : OkI n := by unfold numR at h; unfold OkI; omega
set_option maxRecDepth 100000 in
set_option maxHeartbeats 4000000 in
theorem ix_mayPut {B n : Nat} {I : Ix} {X : FX} {w : World} (h : IxAt B w I n X) (r : Rc) (a : Option Addr) (c : Nat) (hk : okS r.ek) (hv : OkI r.vid) : Calls Try.prog 38 #[.pointer (some ⟨I.xb, 0, none⟩), .agg (rcs r a c)] w fun e w' => e = .returned (.int .i64 (X.putE r)) ∧ Below w.heap.size w w' := by
  have HPE : Hid (X.putE r = if X.known r.ek || X.H r.vid then 13 else 0) := rfl
  have HR := hide (rbx_new 38 r a c w)
  have hb1 : Below w.heap.size w (w.alloc (.cells (rcs r a c) 38)) := (Below.refl _ _).alloc (Nat.le_refl _) _
  have HB := hide hb1
  have HX := hide (h.below hb1)
  have HK := hide hk
  have HV := hide hv
  have e2 := HR.out.c2
  have e6 := HR.out.c6
  clear h hk hv hb1
  go_enter Try.func38, Try.ntmps38
  go_upto_region 1 with fail
  generalize w.alloc (.cells (rcs r a c) 38) = W1 at *
  go_wp2_with fail
  refine (ix_known HX.out r.ek HK.out).mono ?_
  rintro e w2 ⟨rfl, hb2⟩
  have HX2 := hide (HX.out.below hb2)
  have HB2 := hide (HB.out.trans (hb2.mono HB.out.size))
  have e2' : w2.cell? ⟨w.heap.size, 2, none⟩ = some (.int .i64 r.vid) := (hb2.cell (p := ⟨w.heap.size, 2, none⟩) HR.out.lt).trans e2
  clear hb2 e2 e6
  cases hkn : X.known r.ek with
  | true =>
    rw [hkn] at HPE
    go_wp2_with fail
    try go_ret
    exact ⟨by rw [HPE.out]; rfl, HB2.out⟩
  | false =>
    rw [hkn] at HPE
    go_wp2_with fail
    refine (ix_was HX2.out r.vid HV.out).mono ?_
    rintro e w3 ⟨rfl, hb3⟩
    have HB3 := hide (HB2.out.trans (hb3.mono HB2.out.size))
    clear hb3
    cases hh : X.H r.vid with
    | true =>
      rw [hh] at HPE
      go_wp2_with fail
      try go_ret
      exact ⟨by rw [HPE.out]; rfl, HB3.out⟩
    | false =>
      rw [hh] at HPE
      go_wp2_with fail
      try go_ret
      exact ⟨by rw [HPE.out]; rfl, HB3.out⟩
set_option maxRecDepth 100000 in
set_option maxHeartbeats 4000000 in
theorem ix_mayRemove {B n : Nat} {I : Ix} {X : FX} {w : World} (h : IxAt B w I n X) (r : Rc) (a : Option Addr) (c : Nat) (hk : okS r.k) : Calls Try.prog 39 #[.pointer (some ⟨I.xb, 0, none⟩), .agg (rcs r a c)] w fun e w' => e = .returned (.int .i64 (X.getE r.k)) ∧ Below w.heap.size w w' := by
  have HR := hide (rbx_new 38 r a c w)
  have hb1 : Below w.heap.size w (w.alloc (.cells (rcs r a c) 38)) := (Below.refl _ _).alloc (Nat.le_refl _) _
  have HB := hide hb1
  have HX := hide (h.below hb1)
  have HK := hide hk
  have e11 := HR.out.c11
  have hze := en_zero
  clear h hk hb1
  go_enter Try.func39, Try.ntmps39
  go_upto_region 1 with fail
  generalize w.alloc (.cells (rcs r a c) 38) = W1 at *
  go_wp2_with fail
  refine (ix_get HX.out r.k HK.out).mono ?_
  rintro e w2 ⟨rfl, hb2⟩
  have HB2 := hide (HB.out.trans (hb2.mono HB.out.size))
  generalize (X.T r.k).getD en0 = e0
  obtain ⟨q1, q2, q3, q4, q5⟩ := e0
  simp only [enV]
  clear hb2 e11
  go_wp2_with fail
  try go_ret
  exact ⟨rfl, HB2.out.alloc HB2.out.size _⟩
/-- one volume, or the zero one, as the map's lookup tells it -/
def vo0 : Vo := ⟨vd0, none, 0⟩
theorem vo_get (o : Option Vo) : (o.map voF).getD (.agg #[.int .i64 0, .int .i64 0, .int .i64 0, .slice none 0 0]) = voF (o.getD vo0) := by cases o <;> rfl
theorem VAt.look {B n : Nat} {w : World} {b : Nat} {V : Int → Option VD} (h : VAt B w b n V) (id : Int) (hk : OkI id) : ∃ x : Vo, x.d = (V id).getD vd0 ∧ LocsK B w x.a x.d.ls ∧ ∀ W, Below w.heap.size w W → (Instr.lookup 65 (.map (some b)) (.int .i64 id) true).run Try.prog W = .ok (.tuple #[voF x, .bool (V id).isSome]) W := by
  obtain ⟨f, h1, h2, h3⟩ := h
  have hs : (V id).isSome = (f id).isSome := by rw [← h1]; cases f id <;> rfl
  refine ⟨(f id).getD vo0, ?_, ?_, fun W hW => ?_⟩
  · rw [← h1]; cases f id <;> rfl
  · cases hf : f id with
    | none => exact .inl rfl
    | some x => exact h3 id x hf
  · have := (h2.below hW).look ke_int Try.underlying65 (vol_zero W) hk
    rw [vo_get] at this
    rw [hs]
    rw [show (f id).isSome = ((f id).map voF).isSome by cases f id <;> rfl]
    exact this
end Go.Proofs.Ytonhmihmnkicdaa
