/- What May of the index answers. What mayMove, mayMerge and May of the index answer. (Written by genxm.py.) -/
import Derived.Test.YtonhmihmnkicdaaGreatIxGet
import Derived.Test.YtonhmihmnkicdaaGreatRcCheck
import Derived.Deep.Cut
import Derived.Test.YtonhmihmnkicdaaGreatRcLive
namespace Go.Proofs.YtonhmihmnkicdaaGreat
open Go.RowKit
set_option linter.unusedVariables false
/-- numbers of a record that may be are keys -/
theorem numR_ok {n : Int} (h : numR n) : OkI n := by unfold numR at h; unfold OkI; omega
set_option maxRecDepth 100000 in
set_option maxHeartbeats 4000000 in
theorem ix_mayPut {B n : Nat} {I : Ix} {X : FX} {w : World} (h : IxAt B w I n X) (r : Rc) (a : Option Addr) (c : Nat) (hk : okS r.ek) (hv : OkI r.vid) : Calls Tryz.prog 26 #[.pointer (some ⟨I.xb, 0, none⟩), .agg (rcs r a c)] w fun e w' => e = .returned (.int .i64 (X.putE r)) ∧ Below w.heap.size w w' := by
  have HPE : Hid (X.putE r = if X.known r.ek || X.H r.vid then 13 else 0) := rfl
  have HR := hide (rbx_new 43 r a c w)
  have hb1 : Below w.heap.size w (w.alloc (.cells (rcs r a c) 43)) := (Below.refl _ _).alloc (Nat.le_refl _) _
  have HB := hide hb1
  have HX := hide (h.below hb1)
  have HK := hide hk
  have HV := hide hv
  have e2 := HR.out.c2
  have e6 := HR.out.c6
  clear h hk hv hb1
  go_enter Tryz.func26, Tryz.ntmps26
  go_upto_region 1 with fail
  generalize w.alloc (.cells (rcs r a c) 43) = W1 at *
  go_wp2_with fail
  refine (ix_known HX.out r.ek HK.out).mono ?_
  rintro e w2 ⟨rfl, hb2⟩
  have HX2 := hide (HX.out.below hb2)
  have HB2 := hide (HB.out.trans (hb2.mono HB.out.size))
  have e2' : w2.cell? ⟨w.heap.size, 2, none⟩ = some (.int .i64 r.vid) := (hb2.cell (p := ⟨w.heap.size, 2, none⟩) HR.out.lt).trans e2
  clear hb2 e2 e6
  cases hkn : X.known r.ek with
  | true =>
    rw [hkn] at HPE
    go_wp2_with fail
    try go_ret
    exact ⟨by rw [HPE.out]; rfl, HB2.out⟩
  | false =>
    rw [hkn] at HPE
    go_wp2_with fail
    refine (ix_was HX2.out r.vid HV.out).mono ?_
    rintro e w3 ⟨rfl, hb3⟩
    have HB3 := hide (HB2.out.trans (hb3.mono HB2.out.size))
    clear hb3
    cases hh : X.H r.vid with
    | true =>
      rw [hh] at HPE
      go_wp2_with fail
      try go_ret
      exact ⟨by rw [HPE.out]; rfl, HB3.out⟩
    | false =>
      rw [hh] at HPE
      go_wp2_with fail
      try go_ret
      exact ⟨by rw [HPE.out]; rfl, HB3.out⟩
set_option maxRecDepth 100000 in
set_option maxHeartbeats 4000000 in
theorem ix_mayRemove {B n : Nat} {I : Ix} {X : FX} {w : World} (h : IxAt B w I n X) (r : Rc) (a : Option Addr) (c : Nat) (hk : okS r.k) : Calls Tryz.prog 27 #[.pointer (some ⟨I.xb, 0, none⟩), .agg (rcs r a c)] w fun e w' => e = .returned (.int .i64 (X.getE r.k)) ∧ Below w.heap.size w w' := by
  have HR := hide (rbx_new 43 r a c w)
  have hb1 : Below w.heap.size w (w.alloc (.cells (rcs r a c) 43)) := (Below.refl _ _).alloc (Nat.le_refl _) _
  have HB := hide hb1
  have HX := hide (h.below hb1)
  have HK := hide hk
  have e11 := HR.out.c11
  have hze := en_zero
  clear h hk hb1
  go_enter Tryz.func27, Tryz.ntmps27
  go_upto_region 1 with fail
  generalize w.alloc (.cells (rcs r a c) 43) = W1 at *
  go_wp2_with fail
  refine (ix_get HX.out r.k HK.out).mono ?_
  rintro e w2 ⟨rfl, hb2⟩
  have HB2 := hide (HB.out.trans (hb2.mono HB.out.size))
  generalize (X.T r.k).getD en0 = e0
  obtain ⟨q1, q2, q3, q4, q5⟩ := e0
  simp only [enV]
  clear hb2 e11
  go_wp2_with fail
  try go_ret
  exact ⟨rfl, HB2.out.alloc HB2.out.size _⟩
/-- one volume, or the zero one, as the map's lookup tells it -/
def vo0 : Vo := ⟨vd0, none, 0⟩
theorem vo_get (o : Option Vo) : (o.map voF).getD (.agg #[.int .i64 0, .int .i64 0, .int .i64 0, .slice none 0 0]) = voF (o.getD vo0) := by cases o <;> rfl
theorem VAt.look {B n : Nat} {w : World} {b : Nat} {V : Int → Option VD} (h : VAt B w b n V) (id : Int) (hk : OkI id) : ∃ x : Vo, x.d = (V id).getD vd0 ∧ LocsK B w x.a x.d.ls ∧ ∀ W, Below w.heap.size w W → (Instr.lookup 67 (.map (some b)) (.int .i64 id) true).run Tryz.prog W = .ok (.tuple #[voF x, .bool (V id).isSome]) W := by
  obtain ⟨f, h1, h2, h3⟩ := h
  have hs : (V id).isSome = (f id).isSome := by rw [← h1]; cases f id <;> rfl
  refine ⟨(f id).getD vo0, ?_, ?_, fun W hW => ?_⟩
  · rw [← h1]; cases f id <;> rfl
  · cases hf : f id with
    | none => exact .inl rfl
    | some x => exact h3 id x hf
  · have := (h2.below hW).look ke_int Tryz.underlying67 (vol_zero W) hk
    rw [vo_get] at this
    rw [hs]
    rw [show (f id).isSome = ((f id).map voF).isSome by cases f id <;> rfl]
    exact this
end Go.Proofs.YtonhmihmnkicdaaGreat
namespace Go.Proofs.YtonhmihmnkicdaaGreat
open Go.RowKit
set_option linter.unusedVariables false
theorem vcs {W : World} {b : Nat} {v0 v1 v2 v3 : Value} (h : W.heap[b]? = some (.cells #[v0, v1, v2, v3] 36 (0, 0))) : W.cell? ⟨b, 0, none⟩ = some v0 ∧ W.cell? ⟨b, 1, none⟩ = some v1 ∧ W.cell? ⟨b, 2, none⟩ = some v2 ∧ W.cell? ⟨b, 3, none⟩ = some v3 :=
  ⟨cell_of_block h, cell_of_block h, cell_of_block h, cell_of_block h⟩
/-- a volume that was looked up lies in a block of its own -/
theorem vst {w W : World} (hb : Below w.heap.size w W) {b : Nat} (e : b = W.heap.size) (q1 q2 q3 : Int) (a : Option Addr) (m c : Nat) : ((W.alloc (.cells #[.int .i64 0, .int .i64 0, .int .i64 0, .slice none 0 0] 36)).setRow b #[.int .i64 q1, .int .i64 q2, .int .i64 q3, .slice a m c]).heap[b]? = some (.cells #[.int .i64 q1, .int .i64 q2, .int .i64 q3, .slice a m c] 36 (0, 0)) ∧ Below w.heap.size w ((W.alloc (.cells #[.int .i64 0, .int .i64 0, .int .i64 0, .slice none 0 0] 36)).setRow b #[.int .i64 q1, .int .i64 q2, .int .i64 q3, .slice a m c]) := by
  subst e
  have hS := hb.alloc hb.size (.cells #[.int .i64 0, .int .i64 0, .int .i64 0, .slice none 0 0] 36)
  exact ⟨setRow_heap _ _ _ _ _ _ (heap_alloc_new _ _), below_setRow hS hb.size _⟩
/-- of a record that may be, what an index looks up is a key -/
def Rc.ins (r : Rc) : Prop := ckR r = 0 → okS r.ek ∧ OkI r.vid ∧ okS r.k ∧ OkI r.f ∧ OkI r.t
theorem ins_of {r : Rc} (h1 : okS r.ek) (h2 : okS r.k) : r.ins := by
  intro hc
  obtain ⟨hq, hk, ha⟩ := ckR_zero.1 hc
  have z : OkI 0 := ⟨by decide, by decide⟩
  have hn : ∀ {m : Int}, numR m → OkI m := fun h => ⟨by have := h.1; omega, by have := h.2; omega⟩
  rcases kind_four hq with h | h | h | h
  · have hv : OkI r.vid := by
      by_cases q : r.volOk
      · exact hn q.1
      · simp [ckK, h, q] at hk
    simp [Rc.alone, h] at ha
    have e1 := congrArg Rc.f ha; have e2 := congrArg Rc.t ha
    simp only at e1 e2
    exact ⟨h1, hv, h2, e1 ▸ z, e2 ▸ z⟩
  · simp [Rc.alone, h] at ha
    have e0 := congrArg Rc.vid ha; have e1 := congrArg Rc.f ha; have e2 := congrArg Rc.t ha
    simp only at e0 e1 e2
    exact ⟨h1, e0 ▸ z, h2, e1 ▸ z, e2 ▸ z⟩
  · have hv : OkI r.vid := by
      by_cases q : r.volOk
      · exact hn q.1
      · simp [ckK, h, q] at hk
    simp [Rc.alone, h] at ha
    have e1 := congrArg Rc.f ha; have e2 := congrArg Rc.t ha
    simp only at e1 e2
    exact ⟨h1, hv, h2, e1 ▸ z, e2 ▸ z⟩
  · have hv : OkI r.vid := by
      by_cases q : r.volOk
      · exact hn q.1
      · simp [ckK, h, q] at hk
    have he : r.endOk := by
      by_cases q : r.volOk
      · by_cases q2 : r.endOk
        · exact q2
        · simp [ckK, h, q, q2] at hk
      · simp [ckK, h, q] at hk
    exact ⟨h1, hv, h2, hn he.1, hn he.2.1⟩
set_option maxRecDepth 100000 in
set_option maxHeartbeats 8000000 in
theorem ix_mayMove {B n : Nat} {I : Ix} {X : FX} {w : World} (h : IxAt B w I n X) (r : Rc) (a : Option Addr) (c : Nat) (hv : OkI r.vid) : Calls Tryz.prog 28 #[.pointer (some ⟨I.xb, 0, none⟩), .agg (rcs r a c)] w fun e w' => e = .returned (.int .i64 (X.movE r)) ∧ Below w.heap.size w w' := by
  have HRW := hide (rbx_new 43 r a c w)
  have hb1 : Below w.heap.size w (w.alloc (.cells (rcs r a c) 43)) := (Below.refl _ _).alloc (Nat.le_refl _) _
  have HBW := hide hb1
  have HXW := hide (h.below hb1)
  have hz := vol_zero
  have HV := hide hv
  clear h hv hb1
  go_enter Tryz.func28, Tryz.ntmps28
  go_upto_region 1 with fail
  generalize w.alloc (.cells (rcs r a c) 43) = W1 at *
  obtain ⟨W1d, hW1d⟩ : ∃ W1d, W1d = W1.drew := ⟨_, rfl⟩
  have HWq := hide hW1d
  have hbd : Below W1.heap.size W1 W1d := by rw [hW1d]; exact (Below.refl _ _).drew
  clear hW1d
  obtain ⟨xq, hxq, hlq, hkq⟩ := (HXW.out.below hbd).v.look r.vid HV.out
  obtain ⟨⟨q1, q2, q3, ql⟩, qa, qc⟩ := xq
  simp only [voF] at hkq hxq hlq
  have HLKq := hide hlq
  obtain ⟨qm, hqm⟩ : ∃ m, ql.length = m := ⟨_, rfl⟩
  rw [hqm] at hkq
  have HDq := hide hxq
  clear hxq hlq hqm
  have hSq : ∀ W, Below W1d.heap.size W1d W → W.cell? ⟨I.xb, 2, none⟩ = some (.map (some I.mv)) ∧ W.cell? ⟨w.heap.size, 2, none⟩ = some (.int .i64 r.vid) ∧ (Instr.lookup 67 (.map (some I.mv)) (.int .i64 r.vid) true).run Tryz.prog W = .ok (.tuple #[.agg #[.int .i64 q1, .int .i64 q2, .int .i64 q3, .slice qa qm qc], .bool (X.V r.vid).isSome]) W := fun W hW =>
    ⟨((HXW.out.below hbd).below hW).cells.2.2.1, ((HRW.out.below hbd HRW.out.lt).below hW (HRW.out.below hbd HRW.out.lt).lt).c2, hkq W hW⟩
  have HS0q := hide (hSq _ (Below.refl _ _))
  have HS1q := hide (hSq _ ((Below.refl _ _).alloc (Nat.le_refl _) (.cells #[.int .i64 0, .int .i64 0, .int .i64 0, .slice none 0 0] 36)))
  have hvq := vst (Below.refl W1d.heap.size W1d) (b := W1d.heap.size) rfl q1 q2 q3 qa qm qc
  have HS2q := hide (hSq _ hvq.2)
  have HVBq := hide hvq.1
  have hbe := (HBW.out.trans (hbd.mono HBW.out.size)).trans (hvq.2.mono (HBW.out.trans (hbd.mono HBW.out.size)).size)
  have HBE := hide hbe
  have HBLq := hide (hbd.trans (hvq.2.mono hbd.size))
  have HXE := hide ((HXW.out.below hbd).below hvq.2)
  have HRE := hide ((HRW.out.below hbd HRW.out.lt).below hvq.2 (HRW.out.below hbd HRW.out.lt).lt)
  clear hkq hSq hvq hbd hbe
  refine wp_region_noPanic ?_
  refine wp_region_held_drew (S := fun w' => w'.cell? ⟨I.xb, 2, none⟩ = some (.map (some I.mv)) ∧ w'.cell? ⟨w.heap.size, 2, none⟩ = some (.int .i64 r.vid) ∧ (Instr.lookup 67 (.map (some I.mv)) (.int .i64 r.vid) true).run Tryz.prog w' = .ok (.tuple #[.agg #[.int .i64 q1, .int .i64 q2, .int .i64 q3, .slice qa qm qc], .bool (X.V r.vid).isSome]) w') (by kernel_rfl) (by rw [← HWq.out]; exact HS0q.out) (fun hHeld => ?_)
  rw [← HWq.out] at hHeld ⊢
  refine wpAnyH_take (i := 0) (v := ?v1) rfl (by kernel_rfl) (by kernel_rfl) (by kernel_rfl) (fun _ _ _ h => h) (Or.inl ⟨by rfl, ?hy1⟩) hHeld ?rest1
  case hy1 => (intro w' hSw; obtain ⟨s0, s1, s2⟩ := hSw; go_simp; try with_reducible rfl)
  try simp [Act.put]
  refine wpAnyH_take (i := 1) (v := ?v2) rfl (by kernel_rfl) (by kernel_rfl) (by kernel_rfl) (fun _ _ _ h => h) (Or.inl ⟨by rfl, ?hy2⟩) hHeld ?rest2
  case hy2 => (intro w' hSw; obtain ⟨s0, s1, s2⟩ := hSw; go_simp; try with_reducible rfl)
  try simp [Act.put]
  refine wpAnyH_take (i := 2) (v := ?v3) rfl (by kernel_rfl) (by kernel_rfl) (by kernel_rfl) (fun _ _ _ h => h) (Or.inl ⟨by rfl, ?hy3⟩) hHeld ?rest3
  case hy3 => (intro w' hSw; obtain ⟨s0, s1, s2⟩ := hSw; go_simp; try with_reducible rfl)
  try simp [Act.put]
  refine wpAnyH_take (i := 3) (v := ?v4) rfl (by kernel_rfl) (by kernel_rfl) (by kernel_rfl) (fun _ _ _ h => h) (Or.inl ⟨by rfl, ?hy4⟩) hHeld ?rest4
  case hy4 => (intro w' hSw; obtain ⟨s0, s1, s2⟩ := hSw; go_simp; try with_reducible rfl)
  try simp [Act.put]
  refine wpAnyH_take (i := 4) (v := ?v5) rfl (by kernel_rfl) (by kernel_rfl) (by kernel_rfl) (fun _ _ _ h => h) (Or.inl ⟨by rfl, ?hy5⟩) hHeld ?rest5
  case hy5 => (intro w' hSw; obtain ⟨s0, s1, s2⟩ := hSw; go_simp; try with_reducible rfl)
  try simp [Act.put]
  refine wpAnyH_take (i := 5) (v := ?v6) rfl (by kernel_rfl) (by kernel_rfl) (by kernel_rfl) (fun _ _ _ h => h) (Or.inl ⟨by rfl, ?hy6⟩) hHeld ?rest6
  case hy6 => (intro w' hSw; obtain ⟨s0, s1, s2⟩ := hSw; go_simp; try with_reducible rfl)
  try simp [Act.put]
  refine wpAnyH_take (i := 6) (v := ?v7) rfl (by kernel_rfl) (by kernel_rfl) (by kernel_rfl) (fun _ _ _ h => h) (Or.inl ⟨by rfl, ?hy7⟩) hHeld ?rest7
  case hy7 => (intro w' hSw; obtain ⟨s0, s1, s2⟩ := hSw; go_simp; try with_reducible rfl)
  try simp [Act.put]
  refine wpAnyH_take (i := 7) (v := ?v8) rfl (by kernel_rfl) (by kernel_rfl) (by kernel_rfl) (fun _ _ _ h => h) (Or.inl ⟨by rfl, ?hy8⟩) hHeld ?rest8
  case hy8 => (intro w' hSw; obtain ⟨s0, s1, s2⟩ := hSw; go_simp; try with_reducible rfl)
  try simp [Act.put]
  refine wpAnyH_take (i := 8) (v := ?v9) rfl (by kernel_rfl) (by kernel_rfl) (by kernel_rfl) (fun _ _ _ h => h) (Or.inl ⟨by rfl, ?hy9⟩) hHeld ?rest9
  case hy9 => (intro w' hSw; obtain ⟨s0, s1, s2⟩ := hSw; go_simp; try with_reducible rfl)
  try simp [Act.put]
  refine wpAnyH_take (i := 9) (v := ?v10) rfl (by kernel_rfl) (by kernel_rfl) (by kernel_rfl) (fun _ _ _ h => h) (Or.inl ⟨by rfl, ?hy10⟩) hHeld ?rest10
  case hy10 => (intro w' hSw; obtain ⟨s0, s1, s2⟩ := hSw; go_simp; try with_reducible rfl)
  try simp [Act.put]
  refine wpAnyH_take (i := 10) (v := ?v11) rfl (by kernel_rfl) (by kernel_rfl) (by kernel_rfl) (fun _ _ _ h => h) (Or.inl ⟨by rfl, ?hy11⟩) hHeld ?rest11
  case hy11 => (intro w' hSw; obtain ⟨s0, s1, s2⟩ := hSw; go_simp; try with_reducible rfl)
  try simp [Act.put]
  refine wpAnyH_ready (rs := [11]) (by kernel_rfl) (by simp) ?_
  refine AllReadyH.cons rfl (fun K hK => ?_) AllReadyH.nil
  go_simp
  refine hK.out _ _ HS1q.out (fun hHeld => ?_)
  clear hK K
  try simp [Act.put]
  refine wpAnyH_ready (rs := [12]) (by kernel_rfl) (by simp) ?_
  refine AllReadyH.cons rfl (fun K hK => ?_) AllReadyH.nil
  rw [if_pos (by simp [Region.wanted])]
  refine wp_store_row 36 (.tmp 5) (.tmp 16) rfl W1d.heap.size #[.int .i64 q1, .int .i64 q2, .int .i64 q3, .slice qa qm qc] (by simp [Act.eval]) (by simp [Act.eval]) 36 _ (heap_alloc_new _ _) vol_size4 rfl (vol_one _ _ _ _ _ _) ?_
  refine hK.out _ _ HS2q.out (fun hHeld => ?_)
  clear hK K
  try simp [Act.put]
  refine wpAnyH_take (i := 13) (v := ?v30) rfl (by kernel_rfl) (by kernel_rfl) (by kernel_rfl) (fun _ _ _ h => h) (Or.inl ⟨by rfl, ?hy30⟩) hHeld ?rest30
  case hy30 => (intro w' hSw; obtain ⟨s0, s1, s2⟩ := hSw; go_simp; try with_reducible rfl)
  try simp [Act.put]
  refine wpAnyH_done (by kernel_rfl) (NoPanic.normal ?_) _
  generalize (W1d.alloc (.cells #[.int .i64 0, .int .i64 0, .int .i64 0, .slice none 0 0] 36)).setRow W1d.heap.size #[.int .i64 q1, .int .i64 q2, .int .i64 q3, .slice qa qm qc] = W1e at *
  generalize W1d.heap.size = bq at *
  clear HS0q HS1q HS2q
  have e3 := HRE.out.c3
  have e4 := HRE.out.c4
  obtain ⟨f0, f1, f2, f3⟩ := vcs HVBq.out
  have HPE : Hid (X.movE r = match X.V r.vid with | none => 9 | some o => if r.vgen ≤ o.gen ∨ r.vlen ≠ o.len then 1 else 0) := rfl
  cases hV : X.V r.vid with
  | none =>
    rw [hV] at HPE
    simp only [Option.isSome]
    go_wp2_with fail
    try go_ret
    exact ⟨by rw [HPE.out]; rfl, HBE.out⟩
  | some o =>
    have HDD := HDq.out
    rw [hV] at HPE HDD
    simp only [Option.getD_some] at HDD
    subst HDD
    simp only at HPE
    simp only [Option.isSome]
    by_cases hg : r.vgen ≤ q2
    · have d1 : decide (r.vgen ≤ q2) = true := by simpa using hg
      go_wp2_with fail
      try go_ret
      exact ⟨by rw [HPE.out, if_pos (.inl (by omega))]; rfl, HBE.out⟩
    · have d1 : decide (r.vgen ≤ q2) = false := by simpa using hg
      by_cases hl : r.vlen = q3
      · have d2 : (r.vlen != q3) = false := by simpa using hl
        go_wp2_with fail
        try go_ret
        exact ⟨by rw [HPE.out, if_neg (by omega)]; rfl, HBE.out⟩
      · have d2 : (r.vlen != q3) = true := by simpa using hl
        go_wp2_with fail
        try go_ret
        exact ⟨by rw [HPE.out, if_pos (.inr (by omega))]; rfl, HBE.out⟩
set_option maxRecDepth 100000 in
set_option maxHeartbeats 16000000 in
theorem ix_mayMerge {B n : Nat} {I : Ix} {X : FX} {w : World} (h : IxAt B w I n X) (hL : ∀ id v, X.V id = some v → 0 ≤ v.len ∧ v.len ≤ 384) (r : Rc) (a : Option Addr) (c : Nat) (hv : OkI r.vid) (hf : OkI r.f) (ht : OkI r.t) : Calls Tryz.prog 29 #[.pointer (some ⟨I.xb, 0, none⟩), .agg (rcs r a c)] w fun e w' => e = .returned (.int .i64 (X.mrgE r)) ∧ Below w.heap.size w w' := by
  have HRW := hide (rbx_new 43 r a c w)
  have hb1 : Below w.heap.size w (w.alloc (.cells (rcs r a c) 43)) := (Below.refl _ _).alloc (Nat.le_refl _) _
  have HBW := hide hb1
  have HXW := hide (h.below hb1)
  have hz := vol_zero
  have HV := hide hv
  have HF := hide hf
  have HT := hide ht
  have HL := hide hL
  clear h hv hb1 hf ht hL
  go_enter Tryz.func29, Tryz.ntmps29
  go_upto_region 1 with fail
  generalize w.alloc (.cells (rcs r a c) 43) = W1 at *
  obtain ⟨W1d, hW1d⟩ : ∃ W1d, W1d = W1.drew := ⟨_, rfl⟩
  have HWq := hide hW1d
  have hbd : Below W1.heap.size W1 W1d := by rw [hW1d]; exact (Below.refl _ _).drew
  clear hW1d
  obtain ⟨xq, hxq, hlq, hkq⟩ := (HXW.out.below hbd).v.look r.f HF.out
  obtain ⟨⟨q1, q2, q3, ql⟩, qa, qc⟩ := xq
  simp only [voF] at hkq hxq hlq
  have HLKq := hide hlq
  obtain ⟨qm, hqm⟩ : ∃ m, ql.length = m := ⟨_, rfl⟩
  rw [hqm] at hkq
  have HDq := hide hxq
  clear hxq hlq hqm
  have hSq : ∀ W, Below W1d.heap.size W1d W → W.cell? ⟨I.xb, 2, none⟩ = some (.map (some I.mv)) ∧ W.cell? ⟨w.heap.size, 12, none⟩ = some (.int .i64 r.f) ∧ (Instr.lookup 67 (.map (some I.mv)) (.int .i64 r.f) true).run Tryz.prog W = .ok (.tuple #[.agg #[.int .i64 q1, .int .i64 q2, .int .i64 q3, .slice qa qm qc], .bool (X.V r.f).isSome]) W := fun W hW =>
    ⟨((HXW.out.below hbd).below hW).cells.2.2.1, ((HRW.out.below hbd HRW.out.lt).below hW (HRW.out.below hbd HRW.out.lt).lt).c12, hkq W hW⟩
  have HS0q := hide (hSq _ (Below.refl _ _))
  have HS1q := hide (hSq _ ((Below.refl _ _).alloc (Nat.le_refl _) (.cells #[.int .i64 0, .int .i64 0, .int .i64 0, .slice none 0 0] 36)))
  have hvq := vst (Below.refl W1d.heap.size W1d) (b := W1d.heap.size) rfl q1 q2 q3 qa qm qc
  have HS2q := hide (hSq _ hvq.2)
  have HVBq := hide hvq.1
  have hbe := (HBW.out.trans (hbd.mono HBW.out.size)).trans (hvq.2.mono (HBW.out.trans (hbd.mono HBW.out.size)).size)
  have HBE := hide hbe
  have HBLq := hide (hbd.trans (hvq.2.mono hbd.size))
  have HXE := hide ((HXW.out.below hbd).below hvq.2)
  have HRE := hide ((HRW.out.below hbd HRW.out.lt).below hvq.2 (HRW.out.below hbd HRW.out.lt).lt)
  clear hkq hSq hvq hbd hbe
  refine wp_region_noPanic ?_
  refine wp_region_held_drew (S := fun w' => w'.cell? ⟨I.xb, 2, none⟩ = some (.map (some I.mv)) ∧ w'.cell? ⟨w.heap.size, 12, none⟩ = some (.int .i64 r.f) ∧ (Instr.lookup 67 (.map (some I.mv)) (.int .i64 r.f) true).run Tryz.prog w' = .ok (.tuple #[.agg #[.int .i64 q1, .int .i64 q2, .int .i64 q3, .slice qa qm qc], .bool (X.V r.f).isSome]) w') (by kernel_rfl) (by rw [← HWq.out]; exact HS0q.out) (fun hHeld => ?_)
  rw [← HWq.out] at hHeld ⊢
  refine wpAnyH_take (i := 0) (v := ?v1) rfl (by kernel_rfl) (by kernel_rfl) (by kernel_rfl) (fun _ _ _ h => h) (Or.inl ⟨by rfl, ?hy1⟩) hHeld ?rest1
  case hy1 => (intro w' hSw; obtain ⟨s0, s1, s2⟩ := hSw; go_simp; try with_reducible rfl)
  try simp [Act.put]
  refine wpAnyH_take (i := 1) (v := ?v2) rfl (by kernel_rfl) (by kernel_rfl) (by kernel_rfl) (fun _ _ _ h => h) (Or.inl ⟨by rfl, ?hy2⟩) hHeld ?rest2
  case hy2 => (intro w' hSw; obtain ⟨s0, s1, s2⟩ := hSw; go_simp; try with_reducible rfl)
  try simp [Act.put]
  refine wpAnyH_take (i := 2) (v := ?v3) rfl (by kernel_rfl) (by kernel_rfl) (by kernel_rfl) (fun _ _ _ h => h) (Or.inl ⟨by rfl, ?hy3⟩) hHeld ?rest3
  case hy3 => (intro w' hSw; obtain ⟨s0, s1, s2⟩ := hSw; go_simp; try with_reducible rfl)
  try simp [Act.put]
  refine wpAnyH_take (i := 3) (v := ?v4) rfl (by kernel_rfl) (by kernel_rfl) (by kernel_rfl) (fun _ _ _ h => h) (Or.inl ⟨by rfl, ?hy4⟩) hHeld ?rest4
  case hy4 => (intro w' hSw; obtain ⟨s0, s1, s2⟩ := hSw; go_simp; try with_reducible rfl)
  try simp [Act.put]
  refine wpAnyH_take (i := 4) (v := ?v5) rfl (by kernel_rfl) (by kernel_rfl) (by kernel_rfl) (fun _ _ _ h => h) (Or.inl ⟨by rfl, ?hy5⟩) hHeld ?rest5
  case hy5 => (intro w' hSw; obtain ⟨s0, s1, s2⟩ := hSw; go_simp; try with_reducible rfl)
  try simp [Act.put]
  refine wpAnyH_take (i := 5) (v := ?v6) rfl (by kernel_rfl) (by kernel_rfl) (by kernel_rfl) (fun _ _ _ h => h) (Or.inl ⟨by rfl, ?hy6⟩) hHeld ?rest6
  case hy6 => (intro w' hSw; obtain ⟨s0, s1, s2⟩ := hSw; go_simp; try with_reducible rfl)
  try simp [Act.put]
  refine wpAnyH_take (i := 6) (v := ?v7) rfl (by kernel_rfl) (by kernel_rfl) (by kernel_rfl) (fun _ _ _ h => h) (Or.inl ⟨by rfl, ?hy7⟩) hHeld ?rest7
  case hy7 => (intro w' hSw; obtain ⟨s0, s1, s2⟩ := hSw; go_simp; try with_reducible rfl)
  try simp [Act.put]
  refine wpAnyH_take (i := 7) (v := ?v8) rfl (by kernel_rfl) (by kernel_rfl) (by kernel_rfl) (fun _ _ _ h => h) (Or.inl ⟨by rfl, ?hy8⟩) hHeld ?rest8
  case hy8 => (intro w' hSw; obtain ⟨s0, s1, s2⟩ := hSw; go_simp; try with_reducible rfl)
  try simp [Act.put]
  refine wpAnyH_take (i := 8) (v := ?v9) rfl (by kernel_rfl) (by kernel_rfl) (by kernel_rfl) (fun _ _ _ h => h) (Or.inl ⟨by rfl, ?hy9⟩) hHeld ?rest9
  case hy9 => (intro w' hSw; obtain ⟨s0, s1, s2⟩ := hSw; go_simp; try with_reducible rfl)
  try simp [Act.put]
  refine wpAnyH_take (i := 9) (v := ?v10) rfl (by kernel_rfl) (by kernel_rfl) (by kernel_rfl) (fun _ _ _ h => h) (Or.inl ⟨by rfl, ?hy10⟩) hHeld ?rest10
  case hy10 => (intro w' hSw; obtain ⟨s0, s1, s2⟩ := hSw; go_simp; try with_reducible rfl)
  try simp [Act.put]
  refine wpAnyH_ready (rs := [10]) (by kernel_rfl) (by simp) ?_
  refine AllReadyH.cons rfl (fun K hK => ?_) AllReadyH.nil
  go_simp
  refine hK.out _ _ HS1q.out (fun hHeld => ?_)
  clear hK K
  try simp [Act.put]
  refine wpAnyH_ready (rs := [11]) (by kernel_rfl) (by simp) ?_
  refine AllReadyH.cons rfl (fun K hK => ?_) AllReadyH.nil
  rw [if_pos (by simp [Region.wanted])]
  refine wp_store_row 36 (.tmp 5) (.tmp 17) rfl W1d.heap.size #[.int .i64 q1, .int .i64 q2, .int .i64 q3, .slice qa qm qc] (by simp [Act.eval]) (by simp [Act.eval]) 36 _ (heap_alloc_new _ _) vol_size4 rfl (vol_one _ _ _ _ _ _) ?_
  refine hK.out _ _ HS2q.out (fun hHeld => ?_)
  clear hK K
  try simp [Act.put]
  refine wpAnyH_take (i := 12) (v := ?v30) rfl (by kernel_rfl) (by kernel_rfl) (by kernel_rfl) (fun _ _ _ h => h) (Or.inl ⟨by rfl, ?hy30⟩) hHeld ?rest30
  case hy30 => (intro w' hSw; obtain ⟨s0, s1, s2⟩ := hSw; go_simp; try with_reducible rfl)
  try simp [Act.put]
  refine wpAnyH_done (by kernel_rfl) (NoPanic.normal ?_) _
  generalize (W1d.alloc (.cells #[.int .i64 0, .int .i64 0, .int .i64 0, .slice none 0 0] 36)).setRow W1d.heap.size #[.int .i64 q1, .int .i64 q2, .int .i64 q3, .slice qa qm qc] = W1de at *
  generalize W1d.heap.size = bq at *
  clear HS0q HS1q HS2q
  have HRW := HRE
  have HBW := HBE
  have HXW := HXE
  clear HRE HBE HXE
  go_upto_region 2 with fail
  obtain ⟨W1ded, hW1ded⟩ : ∃ W1ded, W1ded = W1de.drew := ⟨_, rfl⟩
  have HWp := hide hW1ded
  have hbd : Below W1de.heap.size W1de W1ded := by rw [hW1ded]; exact (Below.refl _ _).drew
  clear hW1ded
  obtain ⟨xp, hxp, hlp, hkp⟩ := (HXW.out.below hbd).v.look r.t HT.out
  obtain ⟨⟨p1, p2, p3, pl⟩, pa, pc⟩ := xp
  simp only [voF] at hkp hxp hlp
  have HLKp := hide hlp
  obtain ⟨pm, hpm⟩ : ∃ m, pl.length = m := ⟨_, rfl⟩
  rw [hpm] at hkp
  have HDp := hide hxp
  clear hxp hlp hpm
  have hSp : ∀ W, Below W1ded.heap.size W1ded W → W.cell? ⟨I.xb, 2, none⟩ = some (.map (some I.mv)) ∧ W.cell? ⟨w.heap.size, 13, none⟩ = some (.int .i64 r.t) ∧ (Instr.lookup 67 (.map (some I.mv)) (.int .i64 r.t) true).run Tryz.prog W = .ok (.tuple #[.agg #[.int .i64 p1, .int .i64 p2, .int .i64 p3, .slice pa pm pc], .bool (X.V r.t).isSome]) W := fun W hW =>
    ⟨((HXW.out.below hbd).below hW).cells.2.2.1, ((HRW.out.below hbd HRW.out.lt).below hW (HRW.out.below hbd HRW.out.lt).lt).c13, hkp W hW⟩
  have HS0p := hide (hSp _ (Below.refl _ _))
  have HS1p := hide (hSp _ ((Below.refl _ _).alloc (Nat.le_refl _) (.cells #[.int .i64 0, .int .i64 0, .int .i64 0, .slice none 0 0] 36)))
  have hvp := vst (Below.refl W1ded.heap.size W1ded) (b := W1ded.heap.size) rfl p1 p2 p3 pa pm pc
  have HS2p := hide (hSp _ hvp.2)
  have HVBp := hide hvp.1
  have hbe := (HBW.out.trans (hbd.mono HBW.out.size)).trans (hvp.2.mono (HBW.out.trans (hbd.mono HBW.out.size)).size)
  have HBE := hide hbe
  have HBLp := hide (hbd.trans (hvp.2.mono hbd.size))
  have HXE := hide ((HXW.out.below hbd).below hvp.2)
  have HRE := hide ((HRW.out.below hbd HRW.out.lt).below hvp.2 (HRW.out.below hbd HRW.out.lt).lt)
  clear hkp hSp hvp hbd hbe
  refine wp_region_noPanic ?_
  refine wp_region_held_drew (S := fun w' => w'.cell? ⟨I.xb, 2, none⟩ = some (.map (some I.mv)) ∧ w'.cell? ⟨w.heap.size, 13, none⟩ = some (.int .i64 r.t) ∧ (Instr.lookup 67 (.map (some I.mv)) (.int .i64 r.t) true).run Tryz.prog w' = .ok (.tuple #[.agg #[.int .i64 p1, .int .i64 p2, .int .i64 p3, .slice pa pm pc], .bool (X.V r.t).isSome]) w') (by kernel_rfl) (by rw [← HWp.out]; exact HS0p.out) (fun hHeld => ?_)
  rw [← HWp.out] at hHeld ⊢
  refine wpAnyH_take (i := 0) (v := ?v101) rfl (by kernel_rfl) (by kernel_rfl) (by kernel_rfl) (fun _ _ _ h => h) (Or.inl ⟨by rfl, ?hy101⟩) hHeld ?rest101
  case hy101 => (intro w' hSw; obtain ⟨s0, s1, s2⟩ := hSw; go_simp; try with_reducible rfl)
  try simp [Act.put]
  refine wpAnyH_take (i := 1) (v := ?v102) rfl (by kernel_rfl) (by kernel_rfl) (by kernel_rfl) (fun _ _ _ h => h) (Or.inl ⟨by rfl, ?hy102⟩) hHeld ?rest102
  case hy102 => (intro w' hSw; obtain ⟨s0, s1, s2⟩ := hSw; go_simp; try with_reducible rfl)
  try simp [Act.put]
  refine wpAnyH_take (i := 2) (v := ?v103) rfl (by kernel_rfl) (by kernel_rfl) (by kernel_rfl) (fun _ _ _ h => h) (Or.inl ⟨by rfl, ?hy103⟩) hHeld ?rest103
  case hy103 => (intro w' hSw; obtain ⟨s0, s1, s2⟩ := hSw; go_simp; try with_reducible rfl)
  try simp [Act.put]
  refine wpAnyH_take (i := 3) (v := ?v104) rfl (by kernel_rfl) (by kernel_rfl) (by kernel_rfl) (fun _ _ _ h => h) (Or.inl ⟨by rfl, ?hy104⟩) hHeld ?rest104
  case hy104 => (intro w' hSw; obtain ⟨s0, s1, s2⟩ := hSw; go_simp; try with_reducible rfl)
  try simp [Act.put]
  refine wpAnyH_take (i := 4) (v := ?v105) rfl (by kernel_rfl) (by kernel_rfl) (by kernel_rfl) (fun _ _ _ h => h) (Or.inl ⟨by rfl, ?hy105⟩) hHeld ?rest105
  case hy105 => (intro w' hSw; obtain ⟨s0, s1, s2⟩ := hSw; go_simp; try with_reducible rfl)
  try simp [Act.put]
  refine wpAnyH_take (i := 5) (v := ?v106) rfl (by kernel_rfl) (by kernel_rfl) (by kernel_rfl) (fun _ _ _ h => h) (Or.inl ⟨by rfl, ?hy106⟩) hHeld ?rest106
  case hy106 => (intro w' hSw; obtain ⟨s0, s1, s2⟩ := hSw; go_simp; try with_reducible rfl)
  try simp [Act.put]
  refine wpAnyH_take (i := 6) (v := ?v107) rfl (by kernel_rfl) (by kernel_rfl) (by kernel_rfl) (fun _ _ _ h => h) (Or.inl ⟨by rfl, ?hy107⟩) hHeld ?rest107
  case hy107 => (intro w' hSw; obtain ⟨s0, s1, s2⟩ := hSw; go_simp; try with_reducible rfl)
  try simp [Act.put]
  refine wpAnyH_take (i := 7) (v := ?v108) rfl (by kernel_rfl) (by kernel_rfl) (by kernel_rfl) (fun _ _ _ h => h) (Or.inl ⟨by rfl, ?hy108⟩) hHeld ?rest108
  case hy108 => (intro w' hSw; obtain ⟨s0, s1, s2⟩ := hSw; go_simp; try with_reducible rfl)
  try simp [Act.put]
  refine wpAnyH_take (i := 8) (v := ?v109) rfl (by kernel_rfl) (by kernel_rfl) (by kernel_rfl) (fun _ _ _ h => h) (Or.inl ⟨by rfl, ?hy109⟩) hHeld ?rest109
  case hy109 => (intro w' hSw; obtain ⟨s0, s1, s2⟩ := hSw; go_simp; try with_reducible rfl)
  try simp [Act.put]
  refine wpAnyH_take (i := 9) (v := ?v110) rfl (by kernel_rfl) (by kernel_rfl) (by kernel_rfl) (fun _ _ _ h => h) (Or.inl ⟨by rfl, ?hy110⟩) hHeld ?rest110
  case hy110 => (intro w' hSw; obtain ⟨s0, s1, s2⟩ := hSw; go_simp; try with_reducible rfl)
  try simp [Act.put]
  refine wpAnyH_ready (rs := [10]) (by kernel_rfl) (by simp) ?_
  refine AllReadyH.cons rfl (fun K hK => ?_) AllReadyH.nil
  go_simp
  refine hK.out _ _ HS1p.out (fun hHeld => ?_)
  clear hK K
  try simp [Act.put]
  refine wpAnyH_ready (rs := [11]) (by kernel_rfl) (by simp) ?_
  refine AllReadyH.cons rfl (fun K hK => ?_) AllReadyH.nil
  rw [if_pos (by simp [Region.wanted])]
  refine wp_store_row 36 (.tmp 7) (.tmp 27) rfl W1ded.heap.size #[.int .i64 p1, .int .i64 p2, .int .i64 p3, .slice pa pm pc] (by simp [Act.eval]) (by simp [Act.eval]) 36 _ (heap_alloc_new _ _) vol_size4 rfl (vol_one _ _ _ _ _ _) ?_
  refine hK.out _ _ HS2p.out (fun hHeld => ?_)
  clear hK K
  try simp [Act.put]
  refine wpAnyH_take (i := 12) (v := ?v130) rfl (by kernel_rfl) (by kernel_rfl) (by kernel_rfl) (fun _ _ _ h => h) (Or.inl ⟨by rfl, ?hy130⟩) hHeld ?rest130
  case hy130 => (intro w' hSw; obtain ⟨s0, s1, s2⟩ := hSw; go_simp; try with_reducible rfl)
  try simp [Act.put]
  refine wpAnyH_done (by kernel_rfl) (NoPanic.normal ?_) _
  generalize (W1ded.alloc (.cells #[.int .i64 0, .int .i64 0, .int .i64 0, .slice none 0 0] 36)).setRow W1ded.heap.size #[.int .i64 p1, .int .i64 p2, .int .i64 p3, .slice pa pm pc] = W2 at *
  generalize W1ded.heap.size = bp at *
  clear HS0p HS1p HS2p
  have HPE : Hid (X.mrgE r = match X.V r.f, X.V r.t with | some a, some b => (if X.H r.vid then 13 else if r.vlen ≠ a.len + b.len then 1 else 0) | _, _ => 9) := rfl
  cases hVf : X.V r.f with
  | none =>
    rw [hVf] at HPE
    cases hVt : X.V r.t with
    | none =>
      simp only [Option.isSome]
      go_wp2_with fail
      try go_ret
      exact ⟨by rw [HPE.out]; rfl, HBE.out⟩
    | some ot =>
      simp only [Option.isSome]
      go_wp2_with fail
      try go_ret
      exact ⟨by rw [HPE.out]; rfl, HBE.out⟩
  | some of =>
    cases hVt : X.V r.t with
    | none =>
      rw [hVf, hVt] at HPE
      simp only [Option.isSome]
      go_wp2_with fail
      try go_ret
      exact ⟨by rw [HPE.out]; rfl, HBE.out⟩
    | some ot =>
      have HDD := HDq.out
      have HDE := HDp.out
      rw [hVf, hVt] at HPE
      rw [hVf] at HDD
      rw [hVt] at HDE
      simp only [Option.getD_some] at HDD HDE
      have l1 := HL.out _ _ hVf
      have l2 := HL.out _ _ hVt
      subst HDD HDE
      simp only at HPE l1 l2
      have L1 := hide l1
      have L2 := hide l2
      have e2 := HRE.out.c2
      clear l1 l2 hVf hVt
      simp only [Option.isSome]
      go_wp2_with fail
      refine (ix_was HXE.out r.vid HV.out).mono ?_
      rintro e w3 ⟨rfl, hb3⟩
      have HB3 := hide (HBE.out.trans (hb3.mono HBE.out.size))
      have e4 := (HRE.out.below hb3 HRE.out.lt).c4
      obtain ⟨f0, f1, f2, f3⟩ := vcs ((hb3.block _ (lt_of_block HVBp.out)).trans HVBp.out)
      obtain ⟨g0, g1, g2, g3⟩ := vcs (((HBLp.out.mono (Nat.le_refl _)).trans (hb3.mono HBLp.out.size)).block _ (lt_of_block HVBq.out) |>.trans HVBq.out)
      clear hb3 e2 f0 f1 f3 g0 g1 g3
      cases hh : X.H r.vid with
      | true =>
        rw [hh] at HPE
        go_wp2_with fail
        try go_ret
        exact ⟨by rw [HPE.out]; rfl, HB3.out⟩
      | false =>
        rw [hh] at HPE
        have hw : IntKind.i64.wrap (q3 + p3) = q3 + p3 := by have := L1.out; have := L2.out; rw [IntKind.wrap_i64]; omega
        by_cases hl : r.vlen = q3 + p3
        · have d2 : (r.vlen != q3 + p3) = false := by simpa using hl
          go_wp2_with fail
          try go_ret
          exact ⟨by rw [HPE.out, if_neg (by decide), if_neg (by omega)]; rfl, HB3.out⟩
        · have d2 : (r.vlen != q3 + p3) = true := by simpa using hl
          go_wp2_with fail
          try go_ret
          exact ⟨by rw [HPE.out, if_neg (by decide), if_pos (by omega)]; rfl, HB3.out⟩
theorem rec_info14 : (Tryz.prog.info? 43).map (·.size) = some 14 := by kernel_rfl
set_option maxRecDepth 100000 in
set_option maxHeartbeats 16000000 in
theorem ix_may {B n : Nat} {I : Ix} {X : FX} {w : World} (h : IxAt B w I n X) (hL : ∀ id v, X.V id = some v → 0 ≤ v.len ∧ v.len ≤ 384) (r : Rc) (a : Option Addr) (c : Nat) (hS : LocsAt w a r.ls) (hfit : r.fit) (hin : r.ins) : Calls Tryz.prog 8 #[.pointer (some ⟨I.xb, 0, none⟩), .agg (rcs r a c)] w fun e w' => e = .returned (.int .i64 (X.may r)) ∧ Below w.heap.size w w' := by
  have HRW := hide (rbx_new 43 r a c w)
  have hb1 : Below w.heap.size w (w.alloc (.cells (rcs r a c) 43)) := (Below.refl _ _).alloc (Nat.le_refl _) _
  have HBW := hide hb1
  have HXW := hide (h.below hb1)
  have HC := hide (ck_any r a c (w.alloc (.cells (rcs r a c) 43)) (hS.below hb1) hfit)
  have HL := hide hL
  have HI := hide hin
  have HM : Hid (X.may r = if ckR r ≠ 0 then ckR r else if r.kind = 0 then X.putE r else if r.kind = 1 then X.getE r.k else if r.kind = 2 then X.movE r else X.mrgE r) := rfl
  clear h hb1 hS hfit hL hin
  go_enter Tryz.func8, Tryz.ntmps8
  go_upto_region 1 with fail
  generalize w.alloc (.cells (rcs r a c) 43) = W1 at *
  go_wp2_with (first | (refine wpList_load_row rfl 43 (.tmp 3) rfl w.heap.size rfl 43 (rcs r a c) (0, 0) _ HRW.out Tryz.underlying43 rfl rec_info ?_))
  refine HC.out.mono ?_
  rintro e w2 ⟨rfl, hb2⟩
  have HB2 := hide (HBW.out.trans (hb2.mono HBW.out.size))
  have HX2 := hide (HXW.out.below hb2)
  have HR2 := hide (HRW.out.below hb2 HRW.out.lt)
  have e1 := HR2.out.c1
  clear hb2 HC HXW HBW HRW
  by_cases hck : ckR r = 0
  · rw [hck] at HM ⊢
    have hk4 := (ckR_zero.1 hck).1.2
    have HI := hide (HI.out hck)
    clear hck
    by_cases k0 : r.kind = 0
    · have HK0 := hide k0
      have q0 : (r.kind == 0) = true := by simpa using k0
      clear k0 hk4
      go_wp2_with (first | (refine wpList_load_row rfl 43 (.tmp 3) rfl w.heap.size rfl 43 (rcs r a c) (0, 0) _ HR2.out Tryz.underlying43 rfl rec_info ?_))
      refine (ix_mayPut HX2.out r a c HI.out.1 HI.out.2.1).mono ?_
      rintro e w3 ⟨rfl, hb3⟩
      have HB3 := hide (HB2.out.trans (hb3.mono HB2.out.size))
      clear hb3
      go_wp2_with fail
      try go_ret
      exact ⟨by rw [HM.out, if_neg (by decide), if_pos HK0.out]; rfl, HB3.out⟩
    by_cases k1 : r.kind = 1
    · have HK0 := hide k0
      have HK1 := hide k1
      have q0 : (r.kind == 0) = false := by simpa using k0
      have q1 : (r.kind == 1) = true := by simpa using k1
      clear k0 k1 hk4
      go_wp2_with (first | (refine wpList_load_row rfl 43 (.tmp 3) rfl w.heap.size rfl 43 (rcs r a c) (0, 0) _ HR2.out Tryz.underlying43 rfl rec_info ?_))
      refine (ix_mayRemove HX2.out r a c HI.out.2.2.1).mono ?_
      rintro e w3 ⟨rfl, hb3⟩
      have HB3 := hide (HB2.out.trans (hb3.mono HB2.out.size))
      clear hb3
      go_wp2_with fail
      try go_ret
      exact ⟨by rw [HM.out, if_neg (by decide), if_neg HK0.out, if_pos HK1.out]; rfl, HB3.out⟩
    by_cases k2 : r.kind = 2
    · have HK0 := hide k0
      have HK1 := hide k1
      have HK2 := hide k2
      have q0 : (r.kind == 0) = false := by simpa using k0
      have q1 : (r.kind == 1) = false := by simpa using k1
      have q2 : (r.kind == 2) = true := by simpa using k2
      clear k0 k1 k2 hk4
      go_wp2_with (first | (refine wpList_load_row rfl 43 (.tmp 3) rfl w.heap.size rfl 43 (rcs r a c) (0, 0) _ HR2.out Tryz.underlying43 rfl rec_info ?_))
      refine (ix_mayMove HX2.out r a c HI.out.2.1).mono ?_
      rintro e w3 ⟨rfl, hb3⟩
      have HB3 := hide (HB2.out.trans (hb3.mono HB2.out.size))
      clear hb3
      go_wp2_with fail
      try go_ret
      exact ⟨by rw [HM.out, if_neg (by decide), if_neg HK0.out, if_neg HK1.out, if_pos HK2.out]; rfl, HB3.out⟩
    · have HK0 := hide k0
      have HK1 := hide k1
      have HK2 := hide k2
      have q0 : (r.kind == 0) = false := by simpa using k0
      have q1 : (r.kind == 1) = false := by simpa using k1
      have q2 : (r.kind == 2) = false := by simpa using k2
      clear k0 k1 k2 hk4
      go_wp2_with (first | (refine wpList_load_row rfl 43 (.tmp 3) rfl w.heap.size rfl 43 (rcs r a c) (0, 0) _ HR2.out Tryz.underlying43 rfl rec_info ?_))
      refine (ix_mayMerge HX2.out HL.out r a c HI.out.2.1 HI.out.2.2.2.1 HI.out.2.2.2.2).mono ?_
      rintro e w3 ⟨rfl, hb3⟩
      have HB3 := hide (HB2.out.trans (hb3.mono HB2.out.size))
      clear hb3
      go_wp2_with fail
      try go_ret
      exact ⟨by rw [HM.out, if_neg (by decide), if_neg HK0.out, if_neg HK1.out, if_neg HK2.out]; rfl, HB3.out⟩
  · rw [if_pos hck] at HM
    have q9 : (ckR r == 0) = false := by simpa using hck
    have q8 : (ckR r != 0) = true := by simpa using hck
    clear hck
    go_wp2_with fail
    try go_ret
    exact ⟨by rw [HM.out]; rfl, HB2.out⟩
end Go.Proofs.YtonhmihmnkicdaaGreat
