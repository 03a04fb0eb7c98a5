/- What the law's does answers: true, and both go on alike. -/
import Derived.Test.YtnpioaidbmllkaaRfPair
namespace Go.Proofs.Ytnpioaidbmllkaa
open Go.RowKit
set_option linter.unusedVariables false
theorem Pair.left2 {w0 w w' : World} {b : Nat} {D : Nat → Dk} {C C' : Nat → Ct} {rb : Nat} {v : Value} {R : Nat → Rk} {C2 : Nat → Ct} (h : Pair w0 w b D C rb v R C2) (d : Did b D w C' w') {bx : Nat} (hbx : bx < w.heap.size) (hnf : ¬ Foot b D bx) (hnr : ¬ RFoot rb v 12 R bx) : ∃ D', Pair w0 w' b D' C' rb v R C2 ∧ w'.heap[bx]? = w.heap[bx]? ∧ bx < w'.heap.size ∧ ¬ Foot b D' bx := by
  obtain ⟨D', hB, hS, hC⟩ := d
  have hd : Did b D w C' w' := ⟨D', hB, hS, hC⟩
  have hz := h.one.below.size
  have h1 : One w0 w' b D' C' := ⟨hB, hC, fun k hk => by rcases hS.foot k hk with hx | hx; exact h.one.foot k hx; omega, h.one.below.trans (hS.below hz h.one.foot)⟩
  refine ⟨D', ⟨h1, h.rbk.keep fun q hq => hS.block q (h.rbk.lt hq) fun hf => h.apart q hf hq, h.ct, h.foot, fun q hq hr => ?_⟩, hS.block bx hbx hnf, Nat.lt_of_lt_of_le hbx hS.size, fun hf => ?_⟩
  · rcases hS.foot q hq with hx | hx
    · exact h.apart q hx hr
    · have := h.rbk.lt hr; omega
  · rcases hS.foot bx hf with hx | hx
    · exact hnf hx
    · omega
theorem Pair.right2 {w0 w w' : World} {b : Nat} {D : Nat → Dk} {C : Nat → Ct} {rb : Nat} {v : Value} {R : Nat → Rk} {C2 C2' : Nat → Ct} (h : Pair w0 w b D C rb v R C2) (d : DidR rb v R w C2' w') {bx : Nat} (hbx : bx < w.heap.size) (hnr : ¬ RFoot rb v 12 R bx) : ∃ R', Pair w0 w' b D C rb v R' C2' ∧ w'.heap[bx]? = w.heap[bx]? := by
  obtain ⟨R', hB, hS, hC⟩ := d
  have hz := h.one.below.size
  refine ⟨R', ⟨⟨h.one.bk.keep fun q hq => hS.block q (h.one.bk.lt hq) fun hf => h.apart q hq hf, h.one.ct, h.one.foot, h.one.below.trans (hS.below hz h.foot)⟩, hB, hC, fun q hq => ?_, fun q hq hr => ?_⟩, hS.block bx hbx hnr⟩
  · rcases hS.foot q hq with hx | hx
    · exact h.foot q hx
    · omega
  · rcases hS.foot q hr with hx | hx
    · exact h.apart q hq hx
    · have := h.one.bk.lt hq; omega
/-- the box of a call -/
def Bx (bx : Nat) (a : Int) (x : OpR) (w : World) : Prop := w.heap[bx]? = some (.cells #[.int .i64 a, .int .i64 x.d, .int .i64 x.n, .string x.s, .slice x.ka x.kn x.kc, .slice x.ta x.tn x.tc] 30 (0, 0))
theorem Bx.c0 {bx : Nat} {a : Int} {x : OpR} {w : World} (h : Bx bx a x w) : w.cell? ⟨bx, 0, none⟩ = some (.int .i64 a) := cell_of_block h
theorem Bx.c1 {bx : Nat} {a : Int} {x : OpR} {w : World} (h : Bx bx a x w) : w.cell? ⟨bx, 1, none⟩ = some (.int .i64 x.d) := cell_of_block h
theorem Bx.c2 {bx : Nat} {a : Int} {x : OpR} {w : World} (h : Bx bx a x w) : w.cell? ⟨bx, 2, none⟩ = some (.int .i64 x.n) := cell_of_block h
theorem Bx.c3 {bx : Nat} {a : Int} {x : OpR} {w : World} (h : Bx bx a x w) : w.cell? ⟨bx, 3, none⟩ = some (.string x.s) := cell_of_block h
theorem Bx.c4 {bx : Nat} {a : Int} {x : OpR} {w : World} (h : Bx bx a x w) : w.cell? ⟨bx, 4, none⟩ = some (.slice x.ka x.kn x.kc) := cell_of_block h
theorem Bx.c5 {bx : Nat} {a : Int} {x : OpR} {w : World} (h : Bx bx a x w) : w.cell? ⟨bx, 5, none⟩ = some (.slice x.ta x.tn x.tc) := cell_of_block h
theorem Bx.keep {bx : Nat} {a : Int} {x : OpR} {w w' : World} (h : Bx bx a x w) (hs : w'.heap[bx]? = w.heap[bx]?) : Bx bx a x w' := hs.trans h
theorem bx_new (a : Int) (x : OpR) (w : World) : Bx w.heap.size a x (w.alloc (.cells #[.int .i64 a, .int .i64 x.d, .int .i64 x.n, .string x.s, .slice x.ka x.kn x.kc, .slice x.ta x.tn x.tc] 30)) := heap_alloc_new _ _
theorem bools_below {w w' : World} {a : Option Addr} {l : List Bool} (h : BoolsAt w a l) (hb : Below w.heap.size w w') : BoolsAt w' a l := h.below hb
set_option maxRecDepth 100000 in
set_option maxHeartbeats 4000000 in
theorem does_0 (w0 w : World) (b rb : Nat) (v : Value) (D : Nat → Dk) (R : Nat → Rk) (C : Nat → Ct) (x : OpR) (h : Pair w0 w b D C rb v R C) (hT : Tidy C) {N : Nat} (hN : Few N C) (hN6 : N < 700) (hx : OpIs w0 x) (ha : x.act = 0) :
    Calls Try.prog 11 #[.pointer (some ⟨b, 0, none⟩), .pointer (some ⟨rb, 0, none⟩), .agg #[.int .i64 x.act, .int .i64 x.d, .int .i64 x.n, .string x.s, .slice x.ka x.kn x.kc, .slice x.ta x.tn x.tc]] w fun e w' => e = .returned (.bool true) ∧ ∃ D' R', Pair w0 w' b D' (opC x C) rb v R' (opC x C) := by
  rw [opC_0 ha, ha]
  clear ha
  have hal : Below w.heap.size w (w.alloc (.cells #[.int .i64 0, .int .i64 x.d, .int .i64 x.n, .string x.s, .slice x.ka x.kn x.kc, .slice x.ta x.tn x.tc] 30)) := (Below.refl _ _).alloc (Nat.le_refl _) _
  have P0 := hide (h.stay hal)
  have HBX := hide (bx_new 0 x w)
  have HL : Hid (w.heap.size < (w.alloc (.cells #[.int .i64 0, .int .i64 x.d, .int .i64 x.n, .string x.s, .slice x.ka x.kn x.kc, .slice x.ta x.tn x.tc] 30)).heap.size) := by show _ < _; rw [World.size_alloc]; omega
  have HNF : Hid (¬ Foot b D w.heap.size) := fun hf => by have := h.one.bk.lt hf; omega
  have HNR : Hid (¬ RFoot rb v 12 R w.heap.size) := fun hf => by have := h.rbk.lt hf; omega
  have HS63 := hide hx.s63
  have e0 := HBX.out.c0
  clear h hal
  go_enter Try.func11, Try.ntmps11
  go_upto_region 3 with fail
  generalize w.alloc (.cells #[.int .i64 0, .int .i64 x.d, .int .i64 x.n, .string x.s, .slice x.ka x.kn x.kc, .slice x.ta x.tn x.tc] 30) = W0 at *
  generalize w.heap.size = bx at *
  clear e0
  refine wp_region_noPanic ?_
  refine wp_region_held_drew (S := Bx bx 0 x) (by kernel_rfl) HBX.out (fun hHeld => ?_)
  refine wpAnyH_take (i := 0) (v := ?v1) rfl (by kernel_rfl) (by kernel_rfl) (by kernel_rfl) (fun _ _ _ h => h) (Or.inl ⟨by rfl, ?hy1⟩) hHeld ?rest1
  case hy1 => (intro w' hSw; have s1 := Bx.c1 hSw; have s2 := Bx.c2 hSw; have s3 := Bx.c3 hSw; have s4 := Bx.c4 hSw; have s5 := Bx.c5 hSw; go_simp; try with_reducible rfl)
  try simp [Act.put]
  refine wpAnyH_take (i := 1) (v := ?v2) rfl (by kernel_rfl) (by kernel_rfl) (by kernel_rfl) (fun _ _ _ h => h) (Or.inl ⟨by rfl, ?hy2⟩) hHeld ?rest2
  case hy2 => (intro w' hSw; have s1 := Bx.c1 hSw; have s2 := Bx.c2 hSw; have s3 := Bx.c3 hSw; have s4 := Bx.c4 hSw; have s5 := Bx.c5 hSw; go_simp; try with_reducible rfl)
  try simp [Act.put]
  refine wpAnyH_take (i := 2) (v := ?v3) rfl (by kernel_rfl) (by kernel_rfl) (by kernel_rfl) (fun _ _ _ h => h) (Or.inl ⟨by rfl, ?hy3⟩) hHeld ?rest3
  case hy3 => (intro w' hSw; have s1 := Bx.c1 hSw; have s2 := Bx.c2 hSw; have s3 := Bx.c3 hSw; have s4 := Bx.c4 hSw; have s5 := Bx.c5 hSw; go_simp; try with_reducible rfl)
  try simp [Act.put]
  refine wpAnyH_take (i := 3) (v := ?v4) rfl (by kernel_rfl) (by kernel_rfl) (by kernel_rfl) (fun _ _ _ h => h) (Or.inl ⟨by rfl, ?hy4⟩) hHeld ?rest4
  case hy4 => (intro w' hSw; have s1 := Bx.c1 hSw; have s2 := Bx.c2 hSw; have s3 := Bx.c3 hSw; have s4 := Bx.c4 hSw; have s5 := Bx.c5 hSw; go_simp; try with_reducible rfl)
  try simp [Act.put]
  refine wpAnyH_take (i := 4) (v := ?v5) rfl (by kernel_rfl) (by kernel_rfl) (by kernel_rfl) (fun _ _ _ h => h) (Or.inl ⟨by rfl, ?hy5⟩) hHeld ?rest5
  case hy5 => (intro w' hSw; have s1 := Bx.c1 hSw; have s2 := Bx.c2 hSw; have s3 := Bx.c3 hSw; have s4 := Bx.c4 hSw; have s5 := Bx.c5 hSw; go_simp; try with_reducible rfl)
  try simp [Act.put]
  refine wpAnyH_take (i := 5) (v := ?v6) rfl (by kernel_rfl) (by kernel_rfl) (by kernel_rfl) (fun _ _ _ h => h) (Or.inl ⟨by rfl, ?hy6⟩) hHeld ?rest6
  case hy6 => (intro w' hSw; have s1 := Bx.c1 hSw; have s2 := Bx.c2 hSw; have s3 := Bx.c3 hSw; have s4 := Bx.c4 hSw; have s5 := Bx.c5 hSw; go_simp; try with_reducible rfl)
  try simp [Act.put]
  refine wpAnyH_take (i := 6) (v := ?v7) rfl (by kernel_rfl) (by kernel_rfl) (by kernel_rfl) (fun _ _ _ h => h) (Or.inl ⟨by rfl, ?hy7⟩) hHeld ?rest7
  case hy7 => (intro w' hSw; have s1 := Bx.c1 hSw; have s2 := Bx.c2 hSw; have s3 := Bx.c3 hSw; have s4 := Bx.c4 hSw; have s5 := Bx.c5 hSw; go_simp; try with_reducible rfl)
  try simp [Act.put]
  refine wpAnyH_take (i := 8) (v := ?v8) rfl (by kernel_rfl) (by kernel_rfl) (by kernel_rfl) (fun _ _ _ h => h) (Or.inl ⟨by rfl, ?hy8⟩) hHeld ?rest8
  case hy8 => (intro w' hSw; have s1 := Bx.c1 hSw; have s2 := Bx.c2 hSw; have s3 := Bx.c3 hSw; have s4 := Bx.c4 hSw; have s5 := Bx.c5 hSw; go_simp; try with_reducible rfl)
  try simp [Act.put]
  refine wpAnyH_take (i := 9) (v := ?v9) rfl (by kernel_rfl) (by kernel_rfl) (by kernel_rfl) (fun _ _ _ h => h) (Or.inl ⟨by rfl, ?hy9⟩) hHeld ?rest9
  case hy9 => (intro w' hSw; have s1 := Bx.c1 hSw; have s2 := Bx.c2 hSw; have s3 := Bx.c3 hSw; have s4 := Bx.c4 hSw; have s5 := Bx.c5 hSw; go_simp; try with_reducible rfl)
  try simp [Act.put]
  refine wpAnyH_take (i := 10) (v := ?v10) rfl (by kernel_rfl) (by kernel_rfl) (by kernel_rfl) (fun _ _ _ h => h) (Or.inl ⟨by rfl, ?hy10⟩) hHeld ?rest10
  case hy10 => (intro w' hSw; have s1 := Bx.c1 hSw; have s2 := Bx.c2 hSw; have s3 := Bx.c3 hSw; have s4 := Bx.c4 hSw; have s5 := Bx.c5 hSw; go_simp; try with_reducible rfl)
  try simp [Act.put]
  refine wpAnyH_take (i := 11) (v := ?v11) rfl (by kernel_rfl) (by kernel_rfl) (by kernel_rfl) (fun _ _ _ h => h) (Or.inl ⟨by rfl, ?hy11⟩) hHeld ?rest11
  case hy11 => (intro w' hSw; have s1 := Bx.c1 hSw; have s2 := Bx.c2 hSw; have s3 := Bx.c3 hSw; have s4 := Bx.c4 hSw; have s5 := Bx.c5 hSw; go_simp; try with_reducible rfl)
  try simp [Act.put]
  refine wpAnyH_take (i := 12) (v := ?v12) rfl (by kernel_rfl) (by kernel_rfl) (by kernel_rfl) (fun _ _ _ h => h) (Or.inl ⟨by rfl, ?hy12⟩) hHeld ?rest12
  case hy12 => (intro w' hSw; have s1 := Bx.c1 hSw; have s2 := Bx.c2 hSw; have s3 := Bx.c3 hSw; have s4 := Bx.c4 hSw; have s5 := Bx.c5 hSw; go_simp; try with_reducible rfl)
  try simp [Act.put]
  refine wpAnyH_take (i := 13) (v := ?v13) rfl (by kernel_rfl) (by kernel_rfl) (by kernel_rfl) (fun _ _ _ h => h) (Or.inl ⟨by rfl, ?hy13⟩) hHeld ?rest13
  case hy13 => (intro w' hSw; have s1 := Bx.c1 hSw; have s2 := Bx.c2 hSw; have s3 := Bx.c3 hSw; have s4 := Bx.c4 hSw; have s5 := Bx.c5 hSw; go_simp; try with_reducible rfl)
  try simp [Act.put]
  refine wpAnyH_take (i := 14) (v := ?v14) rfl (by kernel_rfl) (by kernel_rfl) (by kernel_rfl) (fun _ _ _ h => h) (Or.inl ⟨by rfl, ?hy14⟩) hHeld ?rest14
  case hy14 => (intro w' hSw; have s1 := Bx.c1 hSw; have s2 := Bx.c2 hSw; have s3 := Bx.c3 hSw; have s4 := Bx.c4 hSw; have s5 := Bx.c5 hSw; go_simp; try with_reducible rfl)
  try simp [Act.put]
  refine wpAnyH_ready (rs := [7]) (by kernel_rfl) (by simp) ?_
  refine AllReadyH.cons rfl (fun K hK => ?_) AllReadyH.nil
  go_simp
  have P1 := hide (P0.out.stay (drew_below W0))
  refine (write_c _ _ _ _ _ _ _ P1.out.one.bk P1.out.one.ct HS63.out hN (by omega)).mono ?_
  rintro e w1 ⟨rfl, hd⟩
  obtain ⟨D1, O1, hb1, hl1, hf1⟩ := P1.out.left2 hd HL.out HNF.out HNR.out
  have P2 := hide O1
  have HB1 : Hid (Bx bx 0 x w1) := HBX.out.keep hb1
  have HL1 := hide hl1
  clear hd O1 hb1 hl1 hf1 P1 P0 HBX HL
  go_simp
  refine hK.out _ _ HB1.out (fun hHeld => ?_)
  clear hK K
  try simp [Act.put]
  refine wpAnyH_ready (rs := [15]) (by kernel_rfl) (by simp) ?_
  refine AllReadyH.cons rfl (fun K hK => ?_) AllReadyH.nil
  go_simp
  refine (rWrite_any _ _ _ _ _ _ _ _ P2.out.rbk P2.out.ct HS63.out hN (by omega)).mono ?_
  rintro e w2 ⟨rfl, hd⟩
  obtain ⟨R2, O2, hb2⟩ := P2.out.right2 hd HL1.out HNR.out
  have P3 := hide O2
  have HB2 : Hid (Bx bx 0 x w2) := HB1.out.keep hb2
  clear hd O2 hb2 P2 HB1 HL1
  go_simp
  refine hK.out _ _ HB2.out (fun hHeld => ?_)
  clear hK K
  try simp [Act.put]
  refine wpAnyH_take (i := 16) (v := ?v15) rfl (by kernel_rfl) (by kernel_rfl) (by kernel_rfl) (fun _ _ _ h => h) (Or.inl ⟨by rfl, ?hy15⟩) hHeld ?rest15
  case hy15 => (intro w' hSw; have s1 := Bx.c1 hSw; have s2 := Bx.c2 hSw; have s3 := Bx.c3 hSw; have s4 := Bx.c4 hSw; have s5 := Bx.c5 hSw; go_simp; try with_reducible rfl)
  try simp [Act.put]
  refine wpAnyH_ready (rs := [17]) (by kernel_rfl) (by simp) ?_
  refine AllReadyH.cons rfl (fun K hK => ?_) AllReadyH.nil
  go_simp
  refine hK.out _ _ HB2.out (fun hHeld => ?_)
  clear hK K
  try simp [Act.put]
  refine wpAnyH_done (by kernel_rfl) (NoPanic.normal ?_) _
  clear hHeld
  go_wp2_with fail
  try go_ret
  exact ⟨rfl, _, _, P3.out⟩
set_option maxRecDepth 100000 in
set_option maxHeartbeats 4000000 in
theorem does_2 (w0 w : World) (b rb : Nat) (v : Value) (D : Nat → Dk) (R : Nat → Rk) (C : Nat → Ct) (x : OpR) (h : Pair w0 w b D C rb v R C) (hT : Tidy C) {N : Nat} (hN : Few N C) (hN6 : N < 700) (hx : OpIs w0 x) (ha : x.act = 2) :
    Calls Try.prog 11 #[.pointer (some ⟨b, 0, none⟩), .pointer (some ⟨rb, 0, none⟩), .agg #[.int .i64 x.act, .int .i64 x.d, .int .i64 x.n, .string x.s, .slice x.ka x.kn x.kc, .slice x.ta x.tn x.tc]] w fun e w' => e = .returned (.bool true) ∧ ∃ D' R', Pair w0 w' b D' (opC x C) rb v R' (opC x C) := by
  rw [opC_2 ha, ha]
  clear ha
  have hal : Below w.heap.size w (w.alloc (.cells #[.int .i64 2, .int .i64 x.d, .int .i64 x.n, .string x.s, .slice x.ka x.kn x.kc, .slice x.ta x.tn x.tc] 30)) := (Below.refl _ _).alloc (Nat.le_refl _) _
  have P0 := hide (h.stay hal)
  have HBX := hide (bx_new 2 x w)
  have HL : Hid (w.heap.size < (w.alloc (.cells #[.int .i64 2, .int .i64 x.d, .int .i64 x.n, .string x.s, .slice x.ka x.kn x.kc, .slice x.ta x.tn x.tc] 30)).heap.size) := by show _ < _; rw [World.size_alloc]; omega
  have HNF : Hid (¬ Foot b D w.heap.size) := fun hf => by have := h.one.bk.lt hf; omega
  have HNR : Hid (¬ RFoot rb v 12 R w.heap.size) := fun hf => by have := h.rbk.lt hf; omega
  have HS63 := hide hx.s63
  have e0 := HBX.out.c0
  clear h hal
  go_enter Try.func11, Try.ntmps11
  go_upto_region 9 with fail
  generalize w.alloc (.cells #[.int .i64 2, .int .i64 x.d, .int .i64 x.n, .string x.s, .slice x.ka x.kn x.kc, .slice x.ta x.tn x.tc] 30) = W0 at *
  generalize w.heap.size = bx at *
  clear e0
  refine wp_region_noPanic ?_
  refine wp_region_held_drew (S := Bx bx 2 x) (by kernel_rfl) HBX.out (fun hHeld => ?_)
  refine wpAnyH_take (i := 0) (v := ?v16) rfl (by kernel_rfl) (by kernel_rfl) (by kernel_rfl) (fun _ _ _ h => h) (Or.inl ⟨by rfl, ?hy16⟩) hHeld ?rest16
  case hy16 => (intro w' hSw; have s1 := Bx.c1 hSw; have s2 := Bx.c2 hSw; have s3 := Bx.c3 hSw; have s4 := Bx.c4 hSw; have s5 := Bx.c5 hSw; go_simp; try with_reducible rfl)
  try simp [Act.put]
  refine wpAnyH_take (i := 1) (v := ?v17) rfl (by kernel_rfl) (by kernel_rfl) (by kernel_rfl) (fun _ _ _ h => h) (Or.inl ⟨by rfl, ?hy17⟩) hHeld ?rest17
  case hy17 => (intro w' hSw; have s1 := Bx.c1 hSw; have s2 := Bx.c2 hSw; have s3 := Bx.c3 hSw; have s4 := Bx.c4 hSw; have s5 := Bx.c5 hSw; go_simp; try with_reducible rfl)
  try simp [Act.put]
  refine wpAnyH_take (i := 2) (v := ?v18) rfl (by kernel_rfl) (by kernel_rfl) (by kernel_rfl) (fun _ _ _ h => h) (Or.inl ⟨by rfl, ?hy18⟩) hHeld ?rest18
  case hy18 => (intro w' hSw; have s1 := Bx.c1 hSw; have s2 := Bx.c2 hSw; have s3 := Bx.c3 hSw; have s4 := Bx.c4 hSw; have s5 := Bx.c5 hSw; go_simp; try with_reducible rfl)
  try simp [Act.put]
  refine wpAnyH_take (i := 4) (v := ?v19) rfl (by kernel_rfl) (by kernel_rfl) (by kernel_rfl) (fun _ _ _ h => h) (Or.inl ⟨by rfl, ?hy19⟩) hHeld ?rest19
  case hy19 => (intro w' hSw; have s1 := Bx.c1 hSw; have s2 := Bx.c2 hSw; have s3 := Bx.c3 hSw; have s4 := Bx.c4 hSw; have s5 := Bx.c5 hSw; go_simp; try with_reducible rfl)
  try simp [Act.put]
  refine wpAnyH_take (i := 5) (v := ?v20) rfl (by kernel_rfl) (by kernel_rfl) (by kernel_rfl) (fun _ _ _ h => h) (Or.inl ⟨by rfl, ?hy20⟩) hHeld ?rest20
  case hy20 => (intro w' hSw; have s1 := Bx.c1 hSw; have s2 := Bx.c2 hSw; have s3 := Bx.c3 hSw; have s4 := Bx.c4 hSw; have s5 := Bx.c5 hSw; go_simp; try with_reducible rfl)
  try simp [Act.put]
  refine wpAnyH_take (i := 6) (v := ?v21) rfl (by kernel_rfl) (by kernel_rfl) (by kernel_rfl) (fun _ _ _ h => h) (Or.inl ⟨by rfl, ?hy21⟩) hHeld ?rest21
  case hy21 => (intro w' hSw; have s1 := Bx.c1 hSw; have s2 := Bx.c2 hSw; have s3 := Bx.c3 hSw; have s4 := Bx.c4 hSw; have s5 := Bx.c5 hSw; go_simp; try with_reducible rfl)
  try simp [Act.put]
  refine wpAnyH_ready (rs := [3]) (by kernel_rfl) (by simp) ?_
  refine AllReadyH.cons rfl (fun K hK => ?_) AllReadyH.nil
  go_simp
  have P1 := hide (P0.out.stay (drew_below W0))
  refine (flush_c _ _ _ _ _ P1.out.one.bk P1.out.one.ct).mono ?_
  rintro e w1 ⟨rfl, hd⟩
  obtain ⟨D1, O1, hb1, hl1, hf1⟩ := P1.out.left2 hd HL.out HNF.out HNR.out
  have P2 := hide O1
  have HB1 : Hid (Bx bx 2 x w1) := HBX.out.keep hb1
  have HL1 := hide hl1
  clear hd O1 hb1 hl1 hf1 P1 P0 HBX HL
  go_simp
  refine hK.out _ _ HB1.out (fun hHeld => ?_)
  clear hK K
  try simp [Act.put]
  refine wpAnyH_ready (rs := [7]) (by kernel_rfl) (by simp) ?_
  refine AllReadyH.cons rfl (fun K hK => ?_) AllReadyH.nil
  go_simp
  refine (rFlush_any _ _ _ _ _ _ P2.out.rbk P2.out.ct).mono ?_
  rintro e w2 ⟨rfl, hd⟩
  obtain ⟨R2, O2, hb2⟩ := P2.out.right2 hd HL1.out HNR.out
  have P3 := hide O2
  have HB2 : Hid (Bx bx 2 x w2) := HB1.out.keep hb2
  clear hd O2 hb2 P2 HB1 HL1
  go_simp
  refine hK.out _ _ HB2.out (fun hHeld => ?_)
  clear hK K
  try simp [Act.put]
  refine wpAnyH_take (i := 8) (v := ?v22) rfl (by kernel_rfl) (by kernel_rfl) (by kernel_rfl) (fun _ _ _ h => h) (Or.inl ⟨by rfl, ?hy22⟩) hHeld ?rest22
  case hy22 => (intro w' hSw; have s1 := Bx.c1 hSw; have s2 := Bx.c2 hSw; have s3 := Bx.c3 hSw; have s4 := Bx.c4 hSw; have s5 := Bx.c5 hSw; go_simp; try with_reducible rfl)
  try simp [Act.put]
  refine wpAnyH_ready (rs := [9]) (by kernel_rfl) (by simp) ?_
  refine AllReadyH.cons rfl (fun K hK => ?_) AllReadyH.nil
  go_simp
  refine hK.out _ _ HB2.out (fun hHeld => ?_)
  clear hK K
  try simp [Act.put]
  refine wpAnyH_done (by kernel_rfl) (NoPanic.normal ?_) _
  clear hHeld
  go_wp2_with fail
  try go_ret
  exact ⟨rfl, _, _, P3.out⟩
set_option maxRecDepth 100000 in
set_option maxHeartbeats 4000000 in
theorem does_3 (w0 w : World) (b rb : Nat) (v : Value) (D : Nat → Dk) (R : Nat → Rk) (C : Nat → Ct) (x : OpR) (h : Pair w0 w b D C rb v R C) (hT : Tidy C) {N : Nat} (hN : Few N C) (hN6 : N < 700) (hx : OpIs w0 x) (ha : x.act = 3) :
    Calls Try.prog 11 #[.pointer (some ⟨b, 0, none⟩), .pointer (some ⟨rb, 0, none⟩), .agg #[.int .i64 x.act, .int .i64 x.d, .int .i64 x.n, .string x.s, .slice x.ka x.kn x.kc, .slice x.ta x.tn x.tc]] w fun e w' => e = .returned (.bool true) ∧ ∃ D' R', Pair w0 w' b D' (opC x C) rb v R' (opC x C) := by
  rw [opC_3 ha, ha]
  clear ha
  have hal : Below w.heap.size w (w.alloc (.cells #[.int .i64 3, .int .i64 x.d, .int .i64 x.n, .string x.s, .slice x.ka x.kn x.kc, .slice x.ta x.tn x.tc] 30)) := (Below.refl _ _).alloc (Nat.le_refl _) _
  have P0 := hide (h.stay hal)
  have HBX := hide (bx_new 3 x w)
  have HL : Hid (w.heap.size < (w.alloc (.cells #[.int .i64 3, .int .i64 x.d, .int .i64 x.n, .string x.s, .slice x.ka x.kn x.kc, .slice x.ta x.tn x.tc] 30)).heap.size) := by show _ < _; rw [World.size_alloc]; omega
  have HNF : Hid (¬ Foot b D w.heap.size) := fun hf => by have := h.one.bk.lt hf; omega
  have HNR : Hid (¬ RFoot rb v 12 R w.heap.size) := fun hf => by have := h.rbk.lt hf; omega
  have HS63 := hide hx.s63
  have e0 := HBX.out.c0
  clear h hal
  go_enter Try.func11, Try.ntmps11
  go_upto_region 11 with fail
  generalize w.alloc (.cells #[.int .i64 3, .int .i64 x.d, .int .i64 x.n, .string x.s, .slice x.ka x.kn x.kc, .slice x.ta x.tn x.tc] 30) = W0 at *
  generalize w.heap.size = bx at *
  clear e0
  refine wp_region_noPanic ?_
  refine wp_region_held_drew (S := Bx bx 3 x) (by kernel_rfl) HBX.out (fun hHeld => ?_)
  refine wpAnyH_take (i := 0) (v := ?v23) rfl (by kernel_rfl) (by kernel_rfl) (by kernel_rfl) (fun _ _ _ h => h) (Or.inl ⟨by rfl, ?hy23⟩) hHeld ?rest23
  case hy23 => (intro w' hSw; have s1 := Bx.c1 hSw; have s2 := Bx.c2 hSw; have s3 := Bx.c3 hSw; have s4 := Bx.c4 hSw; have s5 := Bx.c5 hSw; go_simp; try with_reducible rfl)
  try simp [Act.put]
  refine wpAnyH_take (i := 1) (v := ?v24) rfl (by kernel_rfl) (by kernel_rfl) (by kernel_rfl) (fun _ _ _ h => h) (Or.inl ⟨by rfl, ?hy24⟩) hHeld ?rest24
  case hy24 => (intro w' hSw; have s1 := Bx.c1 hSw; have s2 := Bx.c2 hSw; have s3 := Bx.c3 hSw; have s4 := Bx.c4 hSw; have s5 := Bx.c5 hSw; go_simp; try with_reducible rfl)
  try simp [Act.put]
  refine wpAnyH_take (i := 2) (v := ?v25) rfl (by kernel_rfl) (by kernel_rfl) (by kernel_rfl) (fun _ _ _ h => h) (Or.inl ⟨by rfl, ?hy25⟩) hHeld ?rest25
  case hy25 => (intro w' hSw; have s1 := Bx.c1 hSw; have s2 := Bx.c2 hSw; have s3 := Bx.c3 hSw; have s4 := Bx.c4 hSw; have s5 := Bx.c5 hSw; go_simp; try with_reducible rfl)
  try simp [Act.put]
  refine wpAnyH_take (i := 3) (v := ?v26) rfl (by kernel_rfl) (by kernel_rfl) (by kernel_rfl) (fun _ _ _ h => h) (Or.inl ⟨by rfl, ?hy26⟩) hHeld ?rest26
  case hy26 => (intro w' hSw; have s1 := Bx.c1 hSw; have s2 := Bx.c2 hSw; have s3 := Bx.c3 hSw; have s4 := Bx.c4 hSw; have s5 := Bx.c5 hSw; go_simp; try with_reducible rfl)
  try simp [Act.put]
  refine wpAnyH_take (i := 4) (v := ?v27) rfl (by kernel_rfl) (by kernel_rfl) (by kernel_rfl) (fun _ _ _ h => h) (Or.inl ⟨by rfl, ?hy27⟩) hHeld ?rest27
  case hy27 => (intro w' hSw; have s1 := Bx.c1 hSw; have s2 := Bx.c2 hSw; have s3 := Bx.c3 hSw; have s4 := Bx.c4 hSw; have s5 := Bx.c5 hSw; go_simp; try with_reducible rfl)
  try simp [Act.put]
  refine wpAnyH_take (i := 6) (v := ?v28) rfl (by kernel_rfl) (by kernel_rfl) (by kernel_rfl) (fun _ _ _ h => h) (Or.inl ⟨by rfl, ?hy28⟩) hHeld ?rest28
  case hy28 => (intro w' hSw; have s1 := Bx.c1 hSw; have s2 := Bx.c2 hSw; have s3 := Bx.c3 hSw; have s4 := Bx.c4 hSw; have s5 := Bx.c5 hSw; go_simp; try with_reducible rfl)
  try simp [Act.put]
  refine wpAnyH_take (i := 7) (v := ?v29) rfl (by kernel_rfl) (by kernel_rfl) (by kernel_rfl) (fun _ _ _ h => h) (Or.inl ⟨by rfl, ?hy29⟩) hHeld ?rest29
  case hy29 => (intro w' hSw; have s1 := Bx.c1 hSw; have s2 := Bx.c2 hSw; have s3 := Bx.c3 hSw; have s4 := Bx.c4 hSw; have s5 := Bx.c5 hSw; go_simp; try with_reducible rfl)
  try simp [Act.put]
  refine wpAnyH_take (i := 8) (v := ?v30) rfl (by kernel_rfl) (by kernel_rfl) (by kernel_rfl) (fun _ _ _ h => h) (Or.inl ⟨by rfl, ?hy30⟩) hHeld ?rest30
  case hy30 => (intro w' hSw; have s1 := Bx.c1 hSw; have s2 := Bx.c2 hSw; have s3 := Bx.c3 hSw; have s4 := Bx.c4 hSw; have s5 := Bx.c5 hSw; go_simp; try with_reducible rfl)
  try simp [Act.put]
  refine wpAnyH_take (i := 9) (v := ?v31) rfl (by kernel_rfl) (by kernel_rfl) (by kernel_rfl) (fun _ _ _ h => h) (Or.inl ⟨by rfl, ?hy31⟩) hHeld ?rest31
  case hy31 => (intro w' hSw; have s1 := Bx.c1 hSw; have s2 := Bx.c2 hSw; have s3 := Bx.c3 hSw; have s4 := Bx.c4 hSw; have s5 := Bx.c5 hSw; go_simp; try with_reducible rfl)
  try simp [Act.put]
  refine wpAnyH_take (i := 10) (v := ?v32) rfl (by kernel_rfl) (by kernel_rfl) (by kernel_rfl) (fun _ _ _ h => h) (Or.inl ⟨by rfl, ?hy32⟩) hHeld ?rest32
  case hy32 => (intro w' hSw; have s1 := Bx.c1 hSw; have s2 := Bx.c2 hSw; have s3 := Bx.c3 hSw; have s4 := Bx.c4 hSw; have s5 := Bx.c5 hSw; go_simp; try with_reducible rfl)
  try simp [Act.put]
  refine wpAnyH_ready (rs := [5]) (by kernel_rfl) (by simp) ?_
  refine AllReadyH.cons rfl (fun K hK => ?_) AllReadyH.nil
  go_simp
  have P1 := hide (P0.out.stay (drew_below W0))
  refine (crash_c _ _ _ _ _ _ _ _ _ _ x.kl x.tl P1.out.one.bk P1.out.one.ct (hx.kAt.below P1.out.one.below) (hx.tAt.below P1.out.one.below) hx.kLen hx.tLen hx.k63 hx.t63 (bools_off P1.out.one hx.kAt) (bools_off P1.out.one hx.tAt) hN (by omega)).mono ?_
  rintro e w1 ⟨rfl, hd⟩
  obtain ⟨D1, O1, hb1, hl1, hf1⟩ := P1.out.left2 hd HL.out HNF.out HNR.out
  have P2 := hide O1
  have HB1 : Hid (Bx bx 3 x w1) := HBX.out.keep hb1
  have HL1 := hide hl1
  clear hd O1 hb1 hl1 hf1 P1 P0 HBX HL
  go_simp
  refine hK.out _ _ HB1.out (fun hHeld => ?_)
  clear hK K
  try simp [Act.put]
  refine wpAnyH_ready (rs := [11]) (by kernel_rfl) (by simp) ?_
  refine AllReadyH.cons rfl (fun K hK => ?_) AllReadyH.nil
  go_simp
  refine (rCrash_any _ _ _ _ _ _ _ _ _ _ _ x.kl x.tl P2.out.rbk P2.out.ct (hx.kAt.below P2.out.one.below) (hx.tAt.below P2.out.one.below) hx.kLen hx.tLen (bools_offR P2.out hx.kAt) (bools_offR P2.out hx.tAt) hN (by omega)).mono ?_
  rintro e w2 ⟨rfl, hd⟩
  obtain ⟨R2, O2, hb2⟩ := P2.out.right2 hd HL1.out HNR.out
  have P3 := hide O2
  have HB2 : Hid (Bx bx 3 x w2) := HB1.out.keep hb2
  clear hd O2 hb2 P2 HB1 HL1
  go_simp
  refine hK.out _ _ HB2.out (fun hHeld => ?_)
  clear hK K
  try simp [Act.put]
  refine wpAnyH_take (i := 12) (v := ?v33) rfl (by kernel_rfl) (by kernel_rfl) (by kernel_rfl) (fun _ _ _ h => h) (Or.inl ⟨by rfl, ?hy33⟩) hHeld ?rest33
  case hy33 => (intro w' hSw; have s1 := Bx.c1 hSw; have s2 := Bx.c2 hSw; have s3 := Bx.c3 hSw; have s4 := Bx.c4 hSw; have s5 := Bx.c5 hSw; go_simp; try with_reducible rfl)
  try simp [Act.put]
  refine wpAnyH_ready (rs := [13]) (by kernel_rfl) (by simp) ?_
  refine AllReadyH.cons rfl (fun K hK => ?_) AllReadyH.nil
  go_simp
  refine hK.out _ _ HB2.out (fun hHeld => ?_)
  clear hK K
  try simp [Act.put]
  refine wpAnyH_done (by kernel_rfl) (NoPanic.normal ?_) _
  clear hHeld
  go_wp2_with fail
  try go_ret
  exact ⟨rfl, _, _, P3.out⟩
set_option maxRecDepth 100000 in
set_option maxHeartbeats 4000000 in
theorem does_4 (w0 w : World) (b rb : Nat) (v : Value) (D : Nat → Dk) (R : Nat → Rk) (C : Nat → Ct) (x : OpR) (h : Pair w0 w b D C rb v R C) (hT : Tidy C) {N : Nat} (hN : Few N C) (hN6 : N < 700) (hx : OpIs w0 x) (ha : x.act = 4) :
    Calls Try.prog 11 #[.pointer (some ⟨b, 0, none⟩), .pointer (some ⟨rb, 0, none⟩), .agg #[.int .i64 x.act, .int .i64 x.d, .int .i64 x.n, .string x.s, .slice x.ka x.kn x.kc, .slice x.ta x.tn x.tc]] w fun e w' => e = .returned (.bool true) ∧ ∃ D' R', Pair w0 w' b D' (opC x C) rb v R' (opC x C) := by
  rw [opC_4 ha, ha]
  clear ha
  have hal : Below w.heap.size w (w.alloc (.cells #[.int .i64 4, .int .i64 x.d, .int .i64 x.n, .string x.s, .slice x.ka x.kn x.kc, .slice x.ta x.tn x.tc] 30)) := (Below.refl _ _).alloc (Nat.le_refl _) _
  have P0 := hide (h.stay hal)
  have HBX := hide (bx_new 4 x w)
  have HL : Hid (w.heap.size < (w.alloc (.cells #[.int .i64 4, .int .i64 x.d, .int .i64 x.n, .string x.s, .slice x.ka x.kn x.kc, .slice x.ta x.tn x.tc] 30)).heap.size) := by show _ < _; rw [World.size_alloc]; omega
  have HNF : Hid (¬ Foot b D w.heap.size) := fun hf => by have := h.one.bk.lt hf; omega
  have HNR : Hid (¬ RFoot rb v 12 R w.heap.size) := fun hf => by have := h.rbk.lt hf; omega
  have HS63 := hide hx.s63
  have e0 := HBX.out.c0
  clear h hal
  go_enter Try.func11, Try.ntmps11
  go_upto_region 13 with fail
  generalize w.alloc (.cells #[.int .i64 4, .int .i64 x.d, .int .i64 x.n, .string x.s, .slice x.ka x.kn x.kc, .slice x.ta x.tn x.tc] 30) = W0 at *
  generalize w.heap.size = bx at *
  clear e0
  refine wp_region_noPanic ?_
  refine wp_region_held_drew (S := Bx bx 4 x) (by kernel_rfl) HBX.out (fun hHeld => ?_)
  refine wpAnyH_take (i := 0) (v := ?v34) rfl (by kernel_rfl) (by kernel_rfl) (by kernel_rfl) (fun _ _ _ h => h) (Or.inl ⟨by rfl, ?hy34⟩) hHeld ?rest34
  case hy34 => (intro w' hSw; have s1 := Bx.c1 hSw; have s2 := Bx.c2 hSw; have s3 := Bx.c3 hSw; have s4 := Bx.c4 hSw; have s5 := Bx.c5 hSw; go_simp; try with_reducible rfl)
  try simp [Act.put]
  refine wpAnyH_take (i := 1) (v := ?v35) rfl (by kernel_rfl) (by kernel_rfl) (by kernel_rfl) (fun _ _ _ h => h) (Or.inl ⟨by rfl, ?hy35⟩) hHeld ?rest35
  case hy35 => (intro w' hSw; have s1 := Bx.c1 hSw; have s2 := Bx.c2 hSw; have s3 := Bx.c3 hSw; have s4 := Bx.c4 hSw; have s5 := Bx.c5 hSw; go_simp; try with_reducible rfl)
  try simp [Act.put]
  refine wpAnyH_take (i := 2) (v := ?v36) rfl (by kernel_rfl) (by kernel_rfl) (by kernel_rfl) (fun _ _ _ h => h) (Or.inl ⟨by rfl, ?hy36⟩) hHeld ?rest36
  case hy36 => (intro w' hSw; have s1 := Bx.c1 hSw; have s2 := Bx.c2 hSw; have s3 := Bx.c3 hSw; have s4 := Bx.c4 hSw; have s5 := Bx.c5 hSw; go_simp; try with_reducible rfl)
  try simp [Act.put]
  refine wpAnyH_take (i := 3) (v := ?v37) rfl (by kernel_rfl) (by kernel_rfl) (by kernel_rfl) (fun _ _ _ h => h) (Or.inl ⟨by rfl, ?hy37⟩) hHeld ?rest37
  case hy37 => (intro w' hSw; have s1 := Bx.c1 hSw; have s2 := Bx.c2 hSw; have s3 := Bx.c3 hSw; have s4 := Bx.c4 hSw; have s5 := Bx.c5 hSw; go_simp; try with_reducible rfl)
  try simp [Act.put]
  refine wpAnyH_take (i := 4) (v := ?v38) rfl (by kernel_rfl) (by kernel_rfl) (by kernel_rfl) (fun _ _ _ h => h) (Or.inl ⟨by rfl, ?hy38⟩) hHeld ?rest38
  case hy38 => (intro w' hSw; have s1 := Bx.c1 hSw; have s2 := Bx.c2 hSw; have s3 := Bx.c3 hSw; have s4 := Bx.c4 hSw; have s5 := Bx.c5 hSw; go_simp; try with_reducible rfl)
  try simp [Act.put]
  refine wpAnyH_take (i := 5) (v := ?v39) rfl (by kernel_rfl) (by kernel_rfl) (by kernel_rfl) (fun _ _ _ h => h) (Or.inl ⟨by rfl, ?hy39⟩) hHeld ?rest39
  case hy39 => (intro w' hSw; have s1 := Bx.c1 hSw; have s2 := Bx.c2 hSw; have s3 := Bx.c3 hSw; have s4 := Bx.c4 hSw; have s5 := Bx.c5 hSw; go_simp; try with_reducible rfl)
  try simp [Act.put]
  refine wpAnyH_take (i := 6) (v := ?v40) rfl (by kernel_rfl) (by kernel_rfl) (by kernel_rfl) (fun _ _ _ h => h) (Or.inl ⟨by rfl, ?hy40⟩) hHeld ?rest40
  case hy40 => (intro w' hSw; have s1 := Bx.c1 hSw; have s2 := Bx.c2 hSw; have s3 := Bx.c3 hSw; have s4 := Bx.c4 hSw; have s5 := Bx.c5 hSw; go_simp; try with_reducible rfl)
  try simp [Act.put]
  refine wpAnyH_take (i := 8) (v := ?v41) rfl (by kernel_rfl) (by kernel_rfl) (by kernel_rfl) (fun _ _ _ h => h) (Or.inl ⟨by rfl, ?hy41⟩) hHeld ?rest41
  case hy41 => (intro w' hSw; have s1 := Bx.c1 hSw; have s2 := Bx.c2 hSw; have s3 := Bx.c3 hSw; have s4 := Bx.c4 hSw; have s5 := Bx.c5 hSw; go_simp; try with_reducible rfl)
  try simp [Act.put]
  refine wpAnyH_take (i := 9) (v := ?v42) rfl (by kernel_rfl) (by kernel_rfl) (by kernel_rfl) (fun _ _ _ h => h) (Or.inl ⟨by rfl, ?hy42⟩) hHeld ?rest42
  case hy42 => (intro w' hSw; have s1 := Bx.c1 hSw; have s2 := Bx.c2 hSw; have s3 := Bx.c3 hSw; have s4 := Bx.c4 hSw; have s5 := Bx.c5 hSw; go_simp; try with_reducible rfl)
  try simp [Act.put]
  refine wpAnyH_take (i := 10) (v := ?v43) rfl (by kernel_rfl) (by kernel_rfl) (by kernel_rfl) (fun _ _ _ h => h) (Or.inl ⟨by rfl, ?hy43⟩) hHeld ?rest43
  case hy43 => (intro w' hSw; have s1 := Bx.c1 hSw; have s2 := Bx.c2 hSw; have s3 := Bx.c3 hSw; have s4 := Bx.c4 hSw; have s5 := Bx.c5 hSw; go_simp; try with_reducible rfl)
  try simp [Act.put]
  refine wpAnyH_take (i := 11) (v := ?v44) rfl (by kernel_rfl) (by kernel_rfl) (by kernel_rfl) (fun _ _ _ h => h) (Or.inl ⟨by rfl, ?hy44⟩) hHeld ?rest44
  case hy44 => (intro w' hSw; have s1 := Bx.c1 hSw; have s2 := Bx.c2 hSw; have s3 := Bx.c3 hSw; have s4 := Bx.c4 hSw; have s5 := Bx.c5 hSw; go_simp; try with_reducible rfl)
  try simp [Act.put]
  refine wpAnyH_take (i := 12) (v := ?v45) rfl (by kernel_rfl) (by kernel_rfl) (by kernel_rfl) (fun _ _ _ h => h) (Or.inl ⟨by rfl, ?hy45⟩) hHeld ?rest45
  case hy45 => (intro w' hSw; have s1 := Bx.c1 hSw; have s2 := Bx.c2 hSw; have s3 := Bx.c3 hSw; have s4 := Bx.c4 hSw; have s5 := Bx.c5 hSw; go_simp; try with_reducible rfl)
  try simp [Act.put]
  refine wpAnyH_take (i := 13) (v := ?v46) rfl (by kernel_rfl) (by kernel_rfl) (by kernel_rfl) (fun _ _ _ h => h) (Or.inl ⟨by rfl, ?hy46⟩) hHeld ?rest46
  case hy46 => (intro w' hSw; have s1 := Bx.c1 hSw; have s2 := Bx.c2 hSw; have s3 := Bx.c3 hSw; have s4 := Bx.c4 hSw; have s5 := Bx.c5 hSw; go_simp; try with_reducible rfl)
  try simp [Act.put]
  refine wpAnyH_take (i := 14) (v := ?v47) rfl (by kernel_rfl) (by kernel_rfl) (by kernel_rfl) (fun _ _ _ h => h) (Or.inl ⟨by rfl, ?hy47⟩) hHeld ?rest47
  case hy47 => (intro w' hSw; have s1 := Bx.c1 hSw; have s2 := Bx.c2 hSw; have s3 := Bx.c3 hSw; have s4 := Bx.c4 hSw; have s5 := Bx.c5 hSw; go_simp; try with_reducible rfl)
  try simp [Act.put]
  refine wpAnyH_ready (rs := [7]) (by kernel_rfl) (by simp) ?_
  refine AllReadyH.cons rfl (fun K hK => ?_) AllReadyH.nil
  go_simp
  have P1 := hide (P0.out.stay (drew_below W0))
  refine (spoil_c _ _ _ _ _ _ _ P1.out.one.bk P1.out.one.ct HS63.out).mono ?_
  rintro e w1 ⟨rfl, hd⟩
  obtain ⟨D1, O1, hb1, hl1, hf1⟩ := P1.out.left2 hd HL.out HNF.out HNR.out
  have P2 := hide O1
  have HB1 : Hid (Bx bx 4 x w1) := HBX.out.keep hb1
  have HL1 := hide hl1
  clear hd O1 hb1 hl1 hf1 P1 P0 HBX HL
  go_simp
  refine hK.out _ _ HB1.out (fun hHeld => ?_)
  clear hK K
  try simp [Act.put]
  refine wpAnyH_ready (rs := [15]) (by kernel_rfl) (by simp) ?_
  refine AllReadyH.cons rfl (fun K hK => ?_) AllReadyH.nil
  go_simp
  refine (rSpoil_any _ _ _ _ _ _ _ _ P2.out.rbk P2.out.ct HS63.out hN (by omega)).mono ?_
  rintro e w2 ⟨rfl, hd⟩
  obtain ⟨R2, O2, hb2⟩ := P2.out.right2 hd HL1.out HNR.out
  have P3 := hide O2
  have HB2 : Hid (Bx bx 4 x w2) := HB1.out.keep hb2
  clear hd O2 hb2 P2 HB1 HL1
  go_simp
  refine hK.out _ _ HB2.out (fun hHeld => ?_)
  clear hK K
  try simp [Act.put]
  refine wpAnyH_take (i := 16) (v := ?v48) rfl (by kernel_rfl) (by kernel_rfl) (by kernel_rfl) (fun _ _ _ h => h) (Or.inl ⟨by rfl, ?hy48⟩) hHeld ?rest48
  case hy48 => (intro w' hSw; have s1 := Bx.c1 hSw; have s2 := Bx.c2 hSw; have s3 := Bx.c3 hSw; have s4 := Bx.c4 hSw; have s5 := Bx.c5 hSw; go_simp; try with_reducible rfl)
  try simp [Act.put]
  refine wpAnyH_ready (rs := [17]) (by kernel_rfl) (by simp) ?_
  refine AllReadyH.cons rfl (fun K hK => ?_) AllReadyH.nil
  go_simp
  refine hK.out _ _ HB2.out (fun hHeld => ?_)
  clear hK K
  try simp [Act.put]
  refine wpAnyH_done (by kernel_rfl) (NoPanic.normal ?_) _
  clear hHeld
  go_wp2_with fail
  try go_ret
  exact ⟨rfl, _, _, P3.out⟩
set_option maxRecDepth 100000 in
set_option maxHeartbeats 4000000 in
theorem does_5 (w0 w : World) (b rb : Nat) (v : Value) (D : Nat → Dk) (R : Nat → Rk) (C : Nat → Ct) (x : OpR) (h : Pair w0 w b D C rb v R C) (hT : Tidy C) {N : Nat} (hN : Few N C) (hN6 : N < 700) (hx : OpIs w0 x) (ha : x.act = 5) :
    Calls Try.prog 11 #[.pointer (some ⟨b, 0, none⟩), .pointer (some ⟨rb, 0, none⟩), .agg #[.int .i64 x.act, .int .i64 x.d, .int .i64 x.n, .string x.s, .slice x.ka x.kn x.kc, .slice x.ta x.tn x.tc]] w fun e w' => e = .returned (.bool true) ∧ ∃ D' R', Pair w0 w' b D' (opC x C) rb v R' (opC x C) := by
  rw [opC_5 ha, ha]
  clear ha
  have hal : Below w.heap.size w (w.alloc (.cells #[.int .i64 5, .int .i64 x.d, .int .i64 x.n, .string x.s, .slice x.ka x.kn x.kc, .slice x.ta x.tn x.tc] 30)) := (Below.refl _ _).alloc (Nat.le_refl _) _
  have P0 := hide (h.stay hal)
  have HBX := hide (bx_new 5 x w)
  have HL : Hid (w.heap.size < (w.alloc (.cells #[.int .i64 5, .int .i64 x.d, .int .i64 x.n, .string x.s, .slice x.ka x.kn x.kc, .slice x.ta x.tn x.tc] 30)).heap.size) := by show _ < _; rw [World.size_alloc]; omega
  have HNF : Hid (¬ Foot b D w.heap.size) := fun hf => by have := h.one.bk.lt hf; omega
  have HNR : Hid (¬ RFoot rb v 12 R w.heap.size) := fun hf => by have := h.rbk.lt hf; omega
  have HS63 := hide hx.s63
  have e0 := HBX.out.c0
  clear h hal
  go_enter Try.func11, Try.ntmps11
  go_upto_region 15 with fail
  generalize w.alloc (.cells #[.int .i64 5, .int .i64 x.d, .int .i64 x.n, .string x.s, .slice x.ka x.kn x.kc, .slice x.ta x.tn x.tc] 30) = W0 at *
  generalize w.heap.size = bx at *
  clear e0
  refine wp_region_noPanic ?_
  refine wp_region_held_drew (S := Bx bx 5 x) (by kernel_rfl) HBX.out (fun hHeld => ?_)
  refine wpAnyH_take (i := 0) (v := ?v49) rfl (by kernel_rfl) (by kernel_rfl) (by kernel_rfl) (fun _ _ _ h => h) (Or.inl ⟨by rfl, ?hy49⟩) hHeld ?rest49
  case hy49 => (intro w' hSw; have s1 := Bx.c1 hSw; have s2 := Bx.c2 hSw; have s3 := Bx.c3 hSw; have s4 := Bx.c4 hSw; have s5 := Bx.c5 hSw; go_simp; try with_reducible rfl)
  try simp [Act.put]
  refine wpAnyH_take (i := 1) (v := ?v50) rfl (by kernel_rfl) (by kernel_rfl) (by kernel_rfl) (fun _ _ _ h => h) (Or.inl ⟨by rfl, ?hy50⟩) hHeld ?rest50
  case hy50 => (intro w' hSw; have s1 := Bx.c1 hSw; have s2 := Bx.c2 hSw; have s3 := Bx.c3 hSw; have s4 := Bx.c4 hSw; have s5 := Bx.c5 hSw; go_simp; try with_reducible rfl)
  try simp [Act.put]
  refine wpAnyH_take (i := 2) (v := ?v51) rfl (by kernel_rfl) (by kernel_rfl) (by kernel_rfl) (fun _ _ _ h => h) (Or.inl ⟨by rfl, ?hy51⟩) hHeld ?rest51
  case hy51 => (intro w' hSw; have s1 := Bx.c1 hSw; have s2 := Bx.c2 hSw; have s3 := Bx.c3 hSw; have s4 := Bx.c4 hSw; have s5 := Bx.c5 hSw; go_simp; try with_reducible rfl)
  try simp [Act.put]
  refine wpAnyH_take (i := 4) (v := ?v52) rfl (by kernel_rfl) (by kernel_rfl) (by kernel_rfl) (fun _ _ _ h => h) (Or.inl ⟨by rfl, ?hy52⟩) hHeld ?rest52
  case hy52 => (intro w' hSw; have s1 := Bx.c1 hSw; have s2 := Bx.c2 hSw; have s3 := Bx.c3 hSw; have s4 := Bx.c4 hSw; have s5 := Bx.c5 hSw; go_simp; try with_reducible rfl)
  try simp [Act.put]
  refine wpAnyH_take (i := 5) (v := ?v53) rfl (by kernel_rfl) (by kernel_rfl) (by kernel_rfl) (fun _ _ _ h => h) (Or.inl ⟨by rfl, ?hy53⟩) hHeld ?rest53
  case hy53 => (intro w' hSw; have s1 := Bx.c1 hSw; have s2 := Bx.c2 hSw; have s3 := Bx.c3 hSw; have s4 := Bx.c4 hSw; have s5 := Bx.c5 hSw; go_simp; try with_reducible rfl)
  try simp [Act.put]
  refine wpAnyH_take (i := 6) (v := ?v54) rfl (by kernel_rfl) (by kernel_rfl) (by kernel_rfl) (fun _ _ _ h => h) (Or.inl ⟨by rfl, ?hy54⟩) hHeld ?rest54
  case hy54 => (intro w' hSw; have s1 := Bx.c1 hSw; have s2 := Bx.c2 hSw; have s3 := Bx.c3 hSw; have s4 := Bx.c4 hSw; have s5 := Bx.c5 hSw; go_simp; try with_reducible rfl)
  try simp [Act.put]
  refine wpAnyH_ready (rs := [3]) (by kernel_rfl) (by simp) ?_
  refine AllReadyH.cons rfl (fun K hK => ?_) AllReadyH.nil
  go_simp
  have P1 := hide (P0.out.stay (drew_below W0))
  refine (lose_c _ _ _ _ _ P1.out.one.bk P1.out.one.ct).mono ?_
  rintro e w1 ⟨rfl, hd⟩
  obtain ⟨D1, O1, hb1, hl1, hf1⟩ := P1.out.left2 hd HL.out HNF.out HNR.out
  have P2 := hide O1
  have HB1 : Hid (Bx bx 5 x w1) := HBX.out.keep hb1
  have HL1 := hide hl1
  clear hd O1 hb1 hl1 hf1 P1 P0 HBX HL
  go_simp
  refine hK.out _ _ HB1.out (fun hHeld => ?_)
  clear hK K
  try simp [Act.put]
  refine wpAnyH_ready (rs := [7]) (by kernel_rfl) (by simp) ?_
  refine AllReadyH.cons rfl (fun K hK => ?_) AllReadyH.nil
  go_simp
  refine (rAgain_any _ _ _ _ _ true _ P2.out.rbk P2.out.ct).mono ?_
  rintro e w2 ⟨rfl, hd⟩
  obtain ⟨R2, O2, hb2⟩ := P2.out.right2 hd HL1.out HNR.out
  have P3 := hide O2
  have HB2 : Hid (Bx bx 5 x w2) := HB1.out.keep hb2
  clear hd O2 hb2 P2 HB1 HL1
  go_simp
  refine hK.out _ _ HB2.out (fun hHeld => ?_)
  clear hK K
  try simp [Act.put]
  refine wpAnyH_take (i := 8) (v := ?v55) rfl (by kernel_rfl) (by kernel_rfl) (by kernel_rfl) (fun _ _ _ h => h) (Or.inl ⟨by rfl, ?hy55⟩) hHeld ?rest55
  case hy55 => (intro w' hSw; have s1 := Bx.c1 hSw; have s2 := Bx.c2 hSw; have s3 := Bx.c3 hSw; have s4 := Bx.c4 hSw; have s5 := Bx.c5 hSw; go_simp; try with_reducible rfl)
  try simp [Act.put]
  refine wpAnyH_ready (rs := [9]) (by kernel_rfl) (by simp) ?_
  refine AllReadyH.cons rfl (fun K hK => ?_) AllReadyH.nil
  go_simp
  refine hK.out _ _ HB2.out (fun hHeld => ?_)
  clear hK K
  try simp [Act.put]
  refine wpAnyH_done (by kernel_rfl) (NoPanic.normal ?_) _
  clear hHeld
  go_wp2_with fail
  try go_ret
  exact ⟨rfl, _, _, P3.out⟩
set_option maxRecDepth 100000 in
set_option maxHeartbeats 4000000 in
theorem does_6 (w0 w : World) (b rb : Nat) (v : Value) (D : Nat → Dk) (R : Nat → Rk) (C : Nat → Ct) (x : OpR) (h : Pair w0 w b D C rb v R C) (hT : Tidy C) {N : Nat} (hN : Few N C) (hN6 : N < 700) (hx : OpIs w0 x) (ha : x.act = 6) :
    Calls Try.prog 11 #[.pointer (some ⟨b, 0, none⟩), .pointer (some ⟨rb, 0, none⟩), .agg #[.int .i64 x.act, .int .i64 x.d, .int .i64 x.n, .string x.s, .slice x.ka x.kn x.kc, .slice x.ta x.tn x.tc]] w fun e w' => e = .returned (.bool true) ∧ ∃ D' R', Pair w0 w' b D' (opC x C) rb v R' (opC x C) := by
  rw [opC_6 ha, ha]
  clear ha
  have hal : Below w.heap.size w (w.alloc (.cells #[.int .i64 6, .int .i64 x.d, .int .i64 x.n, .string x.s, .slice x.ka x.kn x.kc, .slice x.ta x.tn x.tc] 30)) := (Below.refl _ _).alloc (Nat.le_refl _) _
  have P0 := hide (h.stay hal)
  have HBX := hide (bx_new 6 x w)
  have HL : Hid (w.heap.size < (w.alloc (.cells #[.int .i64 6, .int .i64 x.d, .int .i64 x.n, .string x.s, .slice x.ka x.kn x.kc, .slice x.ta x.tn x.tc] 30)).heap.size) := by show _ < _; rw [World.size_alloc]; omega
  have HNF : Hid (¬ Foot b D w.heap.size) := fun hf => by have := h.one.bk.lt hf; omega
  have HNR : Hid (¬ RFoot rb v 12 R w.heap.size) := fun hf => by have := h.rbk.lt hf; omega
  have HS63 := hide hx.s63
  have e0 := HBX.out.c0
  clear h hal
  go_enter Try.func11, Try.ntmps11
  go_upto_region 17 with fail
  generalize w.alloc (.cells #[.int .i64 6, .int .i64 x.d, .int .i64 x.n, .string x.s, .slice x.ka x.kn x.kc, .slice x.ta x.tn x.tc] 30) = W0 at *
  generalize w.heap.size = bx at *
  clear e0
  refine wp_region_noPanic ?_
  refine wp_region_held_drew (S := Bx bx 6 x) (by kernel_rfl) HBX.out (fun hHeld => ?_)
  refine wpAnyH_take (i := 0) (v := ?v56) rfl (by kernel_rfl) (by kernel_rfl) (by kernel_rfl) (fun _ _ _ h => h) (Or.inl ⟨by rfl, ?hy56⟩) hHeld ?rest56
  case hy56 => (intro w' hSw; have s1 := Bx.c1 hSw; have s2 := Bx.c2 hSw; have s3 := Bx.c3 hSw; have s4 := Bx.c4 hSw; have s5 := Bx.c5 hSw; go_simp; try with_reducible rfl)
  try simp [Act.put]
  refine wpAnyH_take (i := 1) (v := ?v57) rfl (by kernel_rfl) (by kernel_rfl) (by kernel_rfl) (fun _ _ _ h => h) (Or.inl ⟨by rfl, ?hy57⟩) hHeld ?rest57
  case hy57 => (intro w' hSw; have s1 := Bx.c1 hSw; have s2 := Bx.c2 hSw; have s3 := Bx.c3 hSw; have s4 := Bx.c4 hSw; have s5 := Bx.c5 hSw; go_simp; try with_reducible rfl)
  try simp [Act.put]
  refine wpAnyH_take (i := 2) (v := ?v58) rfl (by kernel_rfl) (by kernel_rfl) (by kernel_rfl) (fun _ _ _ h => h) (Or.inl ⟨by rfl, ?hy58⟩) hHeld ?rest58
  case hy58 => (intro w' hSw; have s1 := Bx.c1 hSw; have s2 := Bx.c2 hSw; have s3 := Bx.c3 hSw; have s4 := Bx.c4 hSw; have s5 := Bx.c5 hSw; go_simp; try with_reducible rfl)
  try simp [Act.put]
  refine wpAnyH_take (i := 4) (v := ?v59) rfl (by kernel_rfl) (by kernel_rfl) (by kernel_rfl) (fun _ _ _ h => h) (Or.inl ⟨by rfl, ?hy59⟩) hHeld ?rest59
  case hy59 => (intro w' hSw; have s1 := Bx.c1 hSw; have s2 := Bx.c2 hSw; have s3 := Bx.c3 hSw; have s4 := Bx.c4 hSw; have s5 := Bx.c5 hSw; go_simp; try with_reducible rfl)
  try simp [Act.put]
  refine wpAnyH_take (i := 5) (v := ?v60) rfl (by kernel_rfl) (by kernel_rfl) (by kernel_rfl) (fun _ _ _ h => h) (Or.inl ⟨by rfl, ?hy60⟩) hHeld ?rest60
  case hy60 => (intro w' hSw; have s1 := Bx.c1 hSw; have s2 := Bx.c2 hSw; have s3 := Bx.c3 hSw; have s4 := Bx.c4 hSw; have s5 := Bx.c5 hSw; go_simp; try with_reducible rfl)
  try simp [Act.put]
  refine wpAnyH_take (i := 6) (v := ?v61) rfl (by kernel_rfl) (by kernel_rfl) (by kernel_rfl) (fun _ _ _ h => h) (Or.inl ⟨by rfl, ?hy61⟩) hHeld ?rest61
  case hy61 => (intro w' hSw; have s1 := Bx.c1 hSw; have s2 := Bx.c2 hSw; have s3 := Bx.c3 hSw; have s4 := Bx.c4 hSw; have s5 := Bx.c5 hSw; go_simp; try with_reducible rfl)
  try simp [Act.put]
  refine wpAnyH_ready (rs := [3]) (by kernel_rfl) (by simp) ?_
  refine AllReadyH.cons rfl (fun K hK => ?_) AllReadyH.nil
  go_simp
  have P1 := hide (P0.out.stay (drew_below W0))
  refine (replace_c _ _ _ _ _ P1.out.one.bk P1.out.one.ct).mono ?_
  rintro e w1 ⟨rfl, hd⟩
  obtain ⟨D1, O1, hb1, hl1, hf1⟩ := P1.out.left2 hd HL.out HNF.out HNR.out
  have P2 := hide O1
  have HB1 : Hid (Bx bx 6 x w1) := HBX.out.keep hb1
  have HL1 := hide hl1
  clear hd O1 hb1 hl1 hf1 P1 P0 HBX HL
  go_simp
  refine hK.out _ _ HB1.out (fun hHeld => ?_)
  clear hK K
  try simp [Act.put]
  refine wpAnyH_ready (rs := [7]) (by kernel_rfl) (by simp) ?_
  refine AllReadyH.cons rfl (fun K hK => ?_) AllReadyH.nil
  go_simp
  refine (rAgain_any _ _ _ _ _ false _ P2.out.rbk P2.out.ct).mono ?_
  rintro e w2 ⟨rfl, hd⟩
  obtain ⟨R2, O2, hb2⟩ := P2.out.right2 hd HL1.out HNR.out
  have P3 := hide O2
  have HB2 : Hid (Bx bx 6 x w2) := HB1.out.keep hb2
  clear hd O2 hb2 P2 HB1 HL1
  go_simp
  refine hK.out _ _ HB2.out (fun hHeld => ?_)
  clear hK K
  try simp [Act.put]
  refine wpAnyH_take (i := 8) (v := ?v62) rfl (by kernel_rfl) (by kernel_rfl) (by kernel_rfl) (fun _ _ _ h => h) (Or.inl ⟨by rfl, ?hy62⟩) hHeld ?rest62
  case hy62 => (intro w' hSw; have s1 := Bx.c1 hSw; have s2 := Bx.c2 hSw; have s3 := Bx.c3 hSw; have s4 := Bx.c4 hSw; have s5 := Bx.c5 hSw; go_simp; try with_reducible rfl)
  try simp [Act.put]
  refine wpAnyH_ready (rs := [9]) (by kernel_rfl) (by simp) ?_
  refine AllReadyH.cons rfl (fun K hK => ?_) AllReadyH.nil
  go_simp
  refine hK.out _ _ HB2.out (fun hHeld => ?_)
  clear hK K
  try simp [Act.put]
  refine wpAnyH_done (by kernel_rfl) (NoPanic.normal ?_) _
  clear hHeld
  go_wp2_with fail
  try go_ret
  exact ⟨rfl, _, _, P3.out⟩
set_option maxRecDepth 100000 in
set_option maxHeartbeats 4000000 in
theorem does_1 (w0 w : World) (b rb : Nat) (v : Value) (D : Nat → Dk) (R : Nat → Rk) (C : Nat → Ct) (x : OpR) (h : Pair w0 w b D C rb v R C) (hT : Tidy C) {N : Nat} (hN : Few N C) (hN6 : N < 700) (hx : OpIs w0 x) (ha : x.act = 1) :
    Calls Try.prog 11 #[.pointer (some ⟨b, 0, none⟩), .pointer (some ⟨rb, 0, none⟩), .agg #[.int .i64 x.act, .int .i64 x.d, .int .i64 x.n, .string x.s, .slice x.ka x.kn x.kc, .slice x.ta x.tn x.tc]] w fun e w' => e = .returned (.bool true) ∧ ∃ D' R', Pair w0 w' b D' (opC x C) rb v R' (opC x C) := by
  rw [opC_n (by omega) (by omega) (by omega) (by omega) (by omega) (by omega), ha]
  clear ha
  have hal : Below w.heap.size w (w.alloc (.cells #[.int .i64 1, .int .i64 x.d, .int .i64 x.n, .string x.s, .slice x.ka x.kn x.kc, .slice x.ta x.tn x.tc] 30)) := (Below.refl _ _).alloc (Nat.le_refl _) _
  have P0 := hide (h.stay hal)
  have HBX := hide (bx_new 1 x w)
  have HL : Hid (w.heap.size < (w.alloc (.cells #[.int .i64 1, .int .i64 x.d, .int .i64 x.n, .string x.s, .slice x.ka x.kn x.kc, .slice x.ta x.tn x.tc] 30)).heap.size) := by show _ < _; rw [World.size_alloc]; omega
  have HNF : Hid (¬ Foot b D w.heap.size) := fun hf => by have := h.one.bk.lt hf; omega
  have HNR : Hid (¬ RFoot rb v 12 R w.heap.size) := fun hf => by have := h.rbk.lt hf; omega
  have HS63 := hide hx.s63
  have e0 := HBX.out.c0
  clear h hal
  have e1 := HBX.out.c1
  have e2 := HBX.out.c2
  go_enter Try.func11, Try.ntmps11
  go_upto_region 5 with fail
  generalize w.alloc (.cells #[.int .i64 1, .int .i64 x.d, .int .i64 x.n, .string x.s, .slice x.ka x.kn x.kc, .slice x.ta x.tn x.tc] 30) = W0 at *
  generalize w.heap.size = bx at *
  go_wp2_with fail
  refine (read_c _ _ _ _ _ _ P0.out.one.bk P0.out.one.ct).mono ?_
  rintro e w1 ⟨rfl, hb1⟩
  have P1 := hide (P0.out.stay hb1)
  have HB1 : Hid (Bx bx 1 x w1) := HBX.out.keep (hb1.block _ HL.out)
  clear hb1 e0 e1 e2
  have e1 := HB1.out.c1
  have e2 := HB1.out.c2
  go_wp2_with fail
  refine (rRead_any _ _ _ _ _ _ _ P1.out.rbk P1.out.ct).mono ?_
  rintro e w2 ⟨rfl, rfl⟩
  clear e1 e2
  go_wp2_with fail
  try go_ret
  exact ⟨rfl, _, _, P1.out⟩
set_option maxRecDepth 100000 in
set_option maxHeartbeats 4000000 in
theorem does_n (w0 w : World) (b rb : Nat) (v : Value) (D : Nat → Dk) (R : Nat → Rk) (C : Nat → Ct) (x : OpR) (h : Pair w0 w b D C rb v R C) (hT : Tidy C) {N : Nat} (hN : Few N C) (hN6 : N < 700) (hx : OpIs w0 x) (n0 : x.act ≠ 0) (n1 : x.act ≠ 1) (n2 : x.act ≠ 2) (n3 : x.act ≠ 3) (n4 : x.act ≠ 4) (n5 : x.act ≠ 5) (n6 : x.act ≠ 6) :
    Calls Try.prog 11 #[.pointer (some ⟨b, 0, none⟩), .pointer (some ⟨rb, 0, none⟩), .agg #[.int .i64 x.act, .int .i64 x.d, .int .i64 x.n, .string x.s, .slice x.ka x.kn x.kc, .slice x.ta x.tn x.tc]] w fun e w' => e = .returned (.bool true) ∧ ∃ D' R', Pair w0 w' b D' (opC x C) rb v R' (opC x C) := by
  rw [opC_n n0 n2 n3 n4 n5 n6]
  have hal : Below w.heap.size w (w.alloc (.cells #[.int .i64 x.act, .int .i64 x.d, .int .i64 x.n, .string x.s, .slice x.ka x.kn x.kc, .slice x.ta x.tn x.tc] 30)) := (Below.refl _ _).alloc (Nat.le_refl _) _
  have P0 := hide (h.stay hal)
  have HBX := hide (bx_new x.act x w)
  have HL : Hid (w.heap.size < (w.alloc (.cells #[.int .i64 x.act, .int .i64 x.d, .int .i64 x.n, .string x.s, .slice x.ka x.kn x.kc, .slice x.ta x.tn x.tc] 30)).heap.size) := by show _ < _; rw [World.size_alloc]; omega
  have HNF : Hid (¬ Foot b D w.heap.size) := fun hf => by have := h.one.bk.lt hf; omega
  have HNR : Hid (¬ RFoot rb v 12 R w.heap.size) := fun hf => by have := h.rbk.lt hf; omega
  have HS63 := hide hx.s63
  have e0 := HBX.out.c0
  clear h hal
  have b0 : (x.act == 0) = false := by rw [beq_eq_false_iff_ne]; exact n0
  have b1 : (x.act == 1) = false := by rw [beq_eq_false_iff_ne]; exact n1
  have b2 : (x.act == 2) = false := by rw [beq_eq_false_iff_ne]; exact n2
  have b3 : (x.act == 3) = false := by rw [beq_eq_false_iff_ne]; exact n3
  have b4 : (x.act == 4) = false := by rw [beq_eq_false_iff_ne]; exact n4
  have b5 : (x.act == 5) = false := by rw [beq_eq_false_iff_ne]; exact n5
  have b6 : (x.act == 6) = false := by rw [beq_eq_false_iff_ne]; exact n6
  clear n0 n1 n2 n3 n4 n5 n6
  go_enter Try.func11, Try.ntmps11
  go_upto_region 18 with fail
  generalize w.alloc (.cells #[.int .i64 x.act, .int .i64 x.d, .int .i64 x.n, .string x.s, .slice x.ka x.kn x.kc, .slice x.ta x.tn x.tc] 30) = W0 at *
  generalize w.heap.size = bx at *
  clear e0 b0 b1 b2 b3 b4 b5 b6
  go_wp2_with fail
  refine (copy_c _ _ _ _ P0.out.one.bk P0.out.one.ct hN (by omega)).mono ?_
  rintro e w1 ⟨rfl, E, hB5, hC5, hf5, hb5⟩
  have Q1 : Hid (One W0 w1 W0.heap.size E C) := ⟨hB5, hC5, hf5, hb5⟩
  have HB1 : Hid (Bx bx x.act x w1) := HBX.out.keep (hb5.block _ HL.out)
  clear hB5 hC5 hf5 hb5
  have e1 := HB1.out.c1
  have e2 := HB1.out.c2
  have e3 := HB1.out.c3
  go_wp2_with fail
  refine (write_c _ _ _ _ _ _ _ Q1.out.bk Q1.out.ct HS63.out hN (by omega)).mono ?_
  rintro e w2 ⟨rfl, hd⟩
  obtain ⟨E2, O2⟩ := Q1.out.go hd
  have Q2 := hide O2
  have HB2 : Hid (Bx bx x.act x w2) := HBX.out.keep (O2.below.block _ HL.out)
  clear hd O2 Q1 e1 e2 e3 HB1
  have e1 := HB2.out.c1
  go_wp2_with fail
  refine (flush_c _ _ _ _ _ Q2.out.bk Q2.out.ct).mono ?_
  rintro e w3 ⟨rfl, hd⟩
  obtain ⟨E3, O3⟩ := Q2.out.go hd
  have P3 := hide (P0.out.stay O3.below)
  clear hd O3 Q2 e1 HB2
  go_wp2_with fail
  try go_ret
  exact ⟨rfl, _, _, P3.out⟩
set_option maxRecDepth 100000 in
set_option maxHeartbeats 4000000 in
theorem does_any (w0 w : World) (b rb : Nat) (v : Value) (D : Nat → Dk) (R : Nat → Rk) (C : Nat → Ct) (x : OpR) (h : Pair w0 w b D C rb v R C) (hT : Tidy C) {N : Nat} (hN : Few N C) (hN6 : N < 700) (hx : OpIs w0 x) :
    Calls Try.prog 11 #[.pointer (some ⟨b, 0, none⟩), .pointer (some ⟨rb, 0, none⟩), .agg #[.int .i64 x.act, .int .i64 x.d, .int .i64 x.n, .string x.s, .slice x.ka x.kn x.kc, .slice x.ta x.tn x.tc]] w fun e w' => e = .returned (.bool true) ∧ ∃ D' R', Pair w0 w' b D' (opC x C) rb v R' (opC x C) := by
  by_cases h0 : x.act = 0
  · exact does_0 w0 w b rb v D R C x h hT hN hN6 hx h0
  · by_cases h1 : x.act = 1
    · exact does_1 w0 w b rb v D R C x h hT hN hN6 hx h1
    · by_cases h2 : x.act = 2
      · exact does_2 w0 w b rb v D R C x h hT hN hN6 hx h2
      · by_cases h3 : x.act = 3
        · exact does_3 w0 w b rb v D R C x h hT hN hN6 hx h3
        · by_cases h4 : x.act = 4
          · exact does_4 w0 w b rb v D R C x h hT hN hN6 hx h4
          · by_cases h5 : x.act = 5
            · exact does_5 w0 w b rb v D R C x h hT hN hN6 hx h5
            · by_cases h6 : x.act = 6
              · exact does_6 w0 w b rb v D R C x h hT hN hN6 hx h6
              · exact does_n w0 w b rb v D R C x h hT hN hN6 hx h0 h1 h2 h3 h4 h5 h6
end Go.Proofs.Ytnpioaidbmllkaa
