/- What digest.mixed answers: the state behind a block. -/
import Derived.Test.YtlpibpkbgmcclaaGreatDoorShSpread
namespace Go.Proofs.YtlpibpkbgmcclaaGreatDoor
open Go.RowKit
def a8 (v : Sh.S8) : Array Value := fnC 8 fun q => .int .u32 (Sh.at8 v q : Nat)
def S8At (w : World) (b : Nat) (v : Sh.S8) : Prop := FnAt w b 111 8 fun q => .int .u32 (Sh.at8 v q : Nat)
/-- all eight are words -/
def Sh.In (v : Sh.S8) : Prop := ∀ q, Sh.at8 v q < 4294967296
def z8 : Sh.S8 := ⟨0, 0, 0, 0, 0, 0, 0, 0⟩
theorem at8_z8 (q : Nat) : Sh.at8 z8 q = 0 := by unfold Sh.at8 z8; split <;> rfl
/-- the constants, as they were laid -/
def KAt (w : World) : Prop := 0 < w.heap.size ∧ ∀ i, i < 64 → w.cell? ⟨0, i, none⟩ = some (.int .u32 (Sh.kk i : Nat))
theorem KAt.below {w w' : World} (h : KAt w) (hb : Below w.heap.size w w') : KAt w' := ⟨Nat.lt_of_lt_of_le h.1 hb.size, fun i hi => (hb.cell (p := ⟨0, i, none⟩) h.1).trans (h.2 i hi)⟩
theorem a8_rep : Array.replicate 8 (Value.int .u32 0) = a8 z8 := by
  rw [fnC_rep]; exact fnC_congr fun q _ => by rw [at8_z8]; rfl
theorem s8_zero_info : (Tryz.prog.info? 111).map (fun i => i.zero) = some (some (.agg (Array.replicate 8 (.int .u32 0)))) := by kernel_rfl
theorem zero_s8 (w : World) : Sem.run Tryz.prog (zeroValue 111) w = .ok (.agg (a8 z8)) w := by
  have h := s8_zero_info
  cases hi : Tryz.prog.info? 111 with
  | none => rw [hi] at h; cases h
  | some i =>
    rw [hi] at h
    have hz : i.zero = some (.agg (Array.replicate 8 (.int .u32 0))) := by simpa using h
    simp [zeroValue, typeInfo, hi, hz, a8_rep]
theorem s8_info' (v : Sh.S8) : (Tryz.prog.info? 111).map (·.size) = some (a8 v).size := by rw [a8, fnC_size]; kernel_rfl
theorem b64_info' (f : Nat → Nat) : (Tryz.prog.info? 114).map (·.size) = some (b64 f).size := by rw [b64, fnC_size]; kernel_rfl
theorem a8_one (v : Sh.S8) : (a8 v).all (·.oneCell') = true := fnC_one fun _ _ => rfl
theorem b64_one (f : Nat → Nat) : (b64 f).all (·.oneCell') = true := fnC_one fun _ _ => rfl
theorem res_s8 {fn : Func} {p : Tmp} (h : fn.results = #[.cell p 111]) (tmps : Array Value) (w : World) (g : Nat) (v : Sh.S8)
    (hp : tmps.getD p undef = .pointer (some ⟨g, 0, none⟩)) (hr : S8At w g v) : (results fn tmps).run Tryz.prog w = .ok (.agg (a8 v)) w :=
  results_cell_row h tmps w g 111 (a8 v) (0, 0) _ hp hr Tryz.underlying111 rfl (s8_info' v)
theorem rnd_in {u : Sh.S8} (h : Sh.In u) (k x : Nat) : Sh.In (Sh.rnd u k x) := by
  intro q
  unfold Sh.at8 Sh.rnd
  split
  · exact Nat.mod_lt _ (by decide)
  · exact h 0
  · exact h 1
  · exact h 2
  · exact Nat.mod_lt _ (by decide)
  · exact h 4
  · exact h 5
  · exact h 6
theorem rnds_in {b : Nat → Nat} {v : Sh.S8} (_ : ∀ p, b p < 256) (h : Sh.In v) : ∀ k, Sh.In (Sh.rnds (Sh.ww b) v k)
  | 0 => h
  | k + 1 => rnd_in (rnds_in ‹_› h k) _ _
/-- what mixed's loops keep: the state that came, the result's place, the words, the state at hand -/
def MxRel (w wr : World) (g : Nat) (v : Sh.S8) (b : Nat → Nat) (u : Sh.S8) : Prop :=
  S8At wr w.heap.size v ∧ S8At wr (w.heap.size + 2) z8 ∧ W64 wr g (Sh.ww b) ∧ S8At wr (g + 1) u ∧ Below w.heap.size w wr
theorem MxRel.drewN {w wr : World} {g : Nat} {v : Sh.S8} {b : Nat → Nat} {u : Sh.S8} (h : MxRel w wr g v b u) (n : Nat) : MxRel w (wr.drewN n) g v b u :=
  ⟨h.1.drewN n, h.2.1.drewN n, h.2.2.1.drewN n, h.2.2.2.1.drewN n, below_draws h.2.2.2.2 n⟩
theorem lt8' {m : Nat} (h : m < 8) : m = 0 ∨ m = 1 ∨ m = 2 ∨ m = 3 ∨ m = 4 ∨ m = 5 ∨ m = 6 ∨ m = 7 := by omega
/-- the first k words added -/
def mix8 (u v : Sh.S8) (k : Nat) : Sh.S8 :=
  ⟨if 0 < k then (u.a + v.a) % Sh.M else u.a, if 1 < k then (u.b + v.b) % Sh.M else u.b, if 2 < k then (u.c + v.c) % Sh.M else u.c, if 3 < k then (u.d + v.d) % Sh.M else u.d,
   if 4 < k then (u.e + v.e) % Sh.M else u.e, if 5 < k then (u.f + v.f) % Sh.M else u.f, if 6 < k then (u.g + v.g) % Sh.M else u.g, if 7 < k then (u.h + v.h) % Sh.M else u.h⟩
theorem mix8_at (u v : Sh.S8) {k : Nat} (hk : k < 8) : Sh.at8 (mix8 u v k) k = Sh.at8 u k := by
  rcases lt8' hk with rfl | rfl | rfl | rfl | rfl | rfl | rfl | rfl <;> simp [mix8, Sh.at8]
theorem mix8_step (u v : Sh.S8) {k p : Nat} (hk : k < 8) (hp : p < 8) : (if p = k then (Sh.at8 u k + Sh.at8 v k) % Sh.M else Sh.at8 (mix8 u v k) p) = Sh.at8 (mix8 u v (k + 1)) p := by
  rcases lt8' hk with rfl | rfl | rfl | rfl | rfl | rfl | rfl | rfl <;> rcases lt8' hp with rfl | rfl | rfl | rfl | rfl | rfl | rfl | rfl <;> simp [mix8, Sh.at8]
theorem mix8_all (u v : Sh.S8) : mix8 u v 8 = Sh.add8 u v := by simp [mix8, Sh.add8]
theorem mix8_none (u v : Sh.S8) : mix8 u v 0 = u := by simp [mix8]
theorem blk_of {v : Sh.S8} {b : Nat → Nat} {k : Nat} (h : k = 64) : Sh.blk v b = Sh.add8 (Sh.rnds (Sh.ww b) v k) v := by rw [h]; exact Sh.blk_ww v b
/-- each word one place on -/
def shf (u : Sh.S8) : Sh.S8 := ⟨u.a, u.a, u.b, u.c, u.d, u.e, u.f, u.g⟩
theorem u32_size : (Tryz.prog.info? 75).map (·.size) = some 1 := by kernel_rfl
theorem add_zero_at (b j : Nat) : (⟨b, 0, none⟩ : Addr).add j = ⟨b, j, none⟩ := by cases j <;> simp [Addr.add]
theorem copy_shift {w : World} {b : Nat} {u : Sh.S8} (h : S8At w b u) :
    (Builtin.copy_ #[76, 76] 3 #[.slice (some ⟨b, 1, none⟩) 7 7, .slice (some ⟨b, 0, none⟩) 8 8]).run Tryz.prog w.drew = .ok (.int .i64 7) (w.drew.setRow b (a8 (shf u))) := by
  have hz : (fnC 8 fun q => Value.int .u32 (Sh.at8 u q : Nat)).size = 8 := fnC_size _ _
  have h' := run_copy_row (P := Tryz.prog) w.drew 76 76 3 75 b 1 7 7 ⟨b, 0, none⟩ 8 8 (a8 u) 111
    [.int .u32 (u.a : Nat), .int .u32 (u.b : Nat), .int .u32 (u.c : Nat), .int .u32 (u.d : Nat), .int .u32 (u.e : Nat), .int .u32 (u.f : Nat), .int .u32 (u.g : Nat)]
    Tryz.underlying76 u32_size h rfl (fun j x hx => ?_) (by show 1 + 7 ≤ (a8 u).size; rw [a8, hz]; decide) (by simp [Value.oneCell'])
  · rw [h']
    show Result.ok (Value.int .i64 7) (w.drew.setRow b _) = _
    congr 2
  · have hj : j < 7 := (List.getElem?_eq_some_iff.1 hx).1
    have hc := h.cell (p := j) (by omega)
    rw [add_zero_at, World.cell?_drew, hc]
    rcases (show j = 0 ∨ j = 1 ∨ j = 2 ∨ j = 3 ∨ j = 4 ∨ j = 5 ∨ j = 6 by omega) with rfl | rfl | rfl | rfl | rfl | rfl | rfl <;> simpa [Sh.at8] using hx
theorem MxRel.shift {w wr : World} {g : Nat} {v : Sh.S8} {b : Nat → Nat} {u : Sh.S8} (h : MxRel w wr g v b u) (hg : w.heap.size + 3 ≤ g) : MxRel w (wr.drew.setRow (g + 1) (a8 (shf u))) g v b (shf u) := by
  obtain ⟨h1, h2, h3, h4, h5⟩ := h
  exact ⟨FnAt.putOther (w := wr.drew) h1 (by omega) _, FnAt.putOther (w := wr.drew) h2 (by omega) _, FnAt.putOther (w := wr.drew) h3 (by omega) _, FnAt.put (w := wr.drew) h4 _, below_setRow h5.drew (by omega) _⟩
theorem MxRel.set {w wr : World} {g : Nat} {v : Sh.S8} {b : Nat → Nat} {u u' : Sh.S8} (h : MxRel w wr g v b u) (hg : w.heap.size + 3 ≤ g) (q x : Nat) (e : ∀ p, p < 8 → (if p = q then x else Sh.at8 u p) = Sh.at8 u' p) :
    MxRel w (wr.setCell ⟨g + 1, q, none⟩ (.int .u32 (x : Nat))) g v b u' := by
  obtain ⟨h1, h2, h3, h4, h5⟩ := h
  refine ⟨h1.other (by show _ ≠ g + 1; omega) _, h2.other (by show _ ≠ g + 1; omega) _, h3.other (by show g ≠ g + 1; omega) _, (h4.set _ _).congr fun p hp => ?_, h5.setCell (by show _ ≤ g + 1; omega) _⟩
  rw [← e p hp]
  by_cases c : p = q
  · rw [if_pos c, if_pos c]
  · rw [if_neg c, if_neg c]
theorem MxRel.mix0 {w wr : World} {g : Nat} {v : Sh.S8} {b : Nat → Nat} {u : Sh.S8} (h : MxRel w wr g v b u) : MxRel w wr g v b (mix8 u v 0) := by rw [mix8_none]; exact h
theorem rT_int (u : Sh.S8) (k x : Nat) : ((((u.h : Nat) : Int) + ((Sh.S1 u.e : Nat) : Int) + ((Sh.ch u.e u.f u.g : Nat) : Int) + ((k : Nat) : Int)) % 4294967296 + ((x : Nat) : Int)) % 4294967296 = ((Sh.rT u k x : Nat) : Int) := by
  unfold Sh.rT Sh.M
  omega
theorem rU_int (u : Sh.S8) : (((Sh.S0 u.a : Nat) : Int) + ((Sh.mj u.a u.b u.c : Nat) : Int)) % 4294967296 = ((Sh.rU u : Nat) : Int) := by
  unfold Sh.rU Sh.M
  omega
set_option maxRecDepth 100000 in
set_option maxHeartbeats 1000000 in
theorem mixed_any (v : Sh.S8) (b : Nat → Nat) (w : World) (hK : KAt w) (hv : Sh.In v) (hb : ∀ p, b p < 256) :
    Calls Tryz.prog 75 #[.agg (a8 v), .agg (b64 b)] w fun e w' => e = .returned (.agg (a8 (Sh.blk v b))) ∧ Below w.heap.size w w' := by
  have hz := zero_w64
  have hz8 := zero_s8
  have hA : S8At (w.alloc (.cells (a8 v) 111)) w.heap.size v := heap_alloc_new _ _
  have hB : B64 ((w.alloc (.cells (a8 v) 111)).alloc (.cells (b64 b) 114)) (w.heap.size + 1) b := by
    have := heap_alloc_new (w.alloc (.cells (a8 v) 111)) (.cells (b64 b) 114)
    rw [World.size_alloc] at this
    exact this
  have hC : S8At (((w.alloc (.cells (a8 v) 111)).alloc (.cells (b64 b) 114)).alloc (.cells (a8 z8) 111)) (w.heap.size + 2) z8 := by
    have := heap_alloc_new ((w.alloc (.cells (a8 v) 111)).alloc (.cells (b64 b) 114)) (.cells (a8 z8) 111)
    rw [World.size_alloc, World.size_alloc] at this
    exact this
  have HA := hide (FnAt.alloc (FnAt.alloc hA (.cells (b64 b) 114)) (.cells (a8 z8) 111))
  have HB := hide (FnAt.alloc hB (.cells (a8 z8) 111))
  have HC := hide hC
  have HBl : Hid (Below w.heap.size w (((w.alloc (.cells (a8 v) 111)).alloc (.cells (b64 b) 114)).alloc (.cells (a8 z8) 111))) := (((Below.refl _ _).alloc (Nat.le_refl _) _).alloc (by simp) _).alloc (by simp; omega) _
  clear hA hB hC
  go_enter Tryz.func75, Tryz.ntmps75
  go_wp2_with (refine wpList_load_row rfl 114 (.tmp 3) rfl (w.heap.size + 1) rfl 114 (b64 b) (0, 0) _ HB.out Tryz.underlying114 rfl (b64_info' _) ?_)
  refine (spread_any b _ hb).mono ?_
  rintro e w1 ⟨rfl, hb1⟩
  have H1 := hide hb1
  have hs1 : w.heap.size + 3 ≤ w1.heap.size := by have := hb1.size; simp at this; omega
  have HA1 := hide (HA.out.below hb1 (by simp; omega))
  have HC1 := hide (HC.out.below hb1 (by simp))
  have HB1 := hide (HBl.out.trans (hb1.mono (by simp; omega)))
  clear hb1 HA HB HC HBl H1
  have HG : Hid (W64 (w1.alloc (.cells (a64 fun _ => 0) 131)) w1.heap.size fun _ => 0) := heap_alloc_new _ _
  have hcz : (a64 fun _ => 0).size = (a64 (Sh.ww b)).size := by rw [a64, a64, fnC_size, fnC_size]
  have hcz8 : (a8 z8).size = (a8 v).size := by rw [a8, a8, fnC_size, fnC_size]
  have HX1 := hide (FnAt.putOther (FnAt.alloc HA1.out (.cells (a64 fun _ => 0) 131)) (show w.heap.size ≠ w1.heap.size by omega) (a64 (Sh.ww b)))
  have HX2 : Hid (S8At (((w1.alloc (.cells (a64 fun _ => 0) 131)).setRow w1.heap.size (a64 (Sh.ww b))).alloc (.cells (a8 z8) 111)) (w1.heap.size + 1) z8) := by
    have := heap_alloc_new ((w1.alloc (.cells (a64 fun _ => 0) 131)).setRow w1.heap.size (a64 (Sh.ww b))) (.cells (a8 z8) 111)
    rw [size_setRow, World.size_alloc] at this
    exact this
  have HST : Hid (MxRel w (((((w1.alloc (.cells (a64 fun _ => 0) 131)).setRow w1.heap.size (a64 (Sh.ww b))).alloc (.cells (a8 z8) 111)).setRow (w1.heap.size + 1) (a8 v))) w1.heap.size v b v) := by
    have e1 : w1.heap.size ≠ w1.heap.size + 1 := by omega
    refine ⟨FnAt.putOther (FnAt.alloc HX1.out _) (by omega) _, FnAt.putOther (FnAt.alloc (FnAt.putOther (FnAt.alloc HC1.out _) (by omega) _) _) (by omega) _, FnAt.putOther (FnAt.alloc (FnAt.put HG.out _) _) e1 _, FnAt.put HX2.out _, ?_⟩
    exact below_setRow ((below_setRow (HB1.out.alloc (by omega) _) (by omega) _).alloc (by simp; omega) _) (by omega) _
  go_wp2_with (first
    | (refine wpList_store_row rfl 131 (.tmp 5) (.tmp 12) rfl w1.heap.size (a64 (Sh.ww b)) rfl rfl 131 (a64 fun _ => 0) HG.out (w64_info' _) hcz (a64_one _) ?_)
    | (refine wpList_load_row rfl 111 (.tmp 2) rfl w.heap.size rfl 111 (a8 v) (0, 0) _ HX1.out Tryz.underlying111 rfl (s8_info' _) ?_)
    | (refine wpList_store_row rfl 111 (.tmp 6) (.tmp 13) rfl (w1.heap.size + 1) (a8 v) rfl rfl 111 (a8 z8) HX2.out (s8_info' _) hcz8 (a8_one _) ?_))
  clear hz hz8 hcz hcz8 HX1 HX2 HA1 HC1 HB1 HG
  generalize ((((w1.alloc (.cells (a64 fun _ => 0) 131)).setRow w1.heap.size (a64 (Sh.ww b))).alloc (.cells (a8 z8) 111)).setRow (w1.heap.size + 1) (a8 v)) = W at *
  generalize w1.heap.size = g at *
  have HK := hide hK
  have HV := hide hv
  have HB := hide hb
  clear hK hv hb
  go_loopw [14] (fun y wr => ∃ k : Nat, k ≤ 64 ∧ y = .int .i64 k ∧ MxRel w wr g v b (Sh.rnds (Sh.ww b) v k)) (fun y _ => 64 - (intOf y).toNat)
  case atStart => exact ⟨0, by omega, rfl, HST.out⟩
  case round =>
    obtain ⟨k, hk, rfl, hrel⟩ := hrel
    have H := hide hrel
    have hU := hide (rnds_in HB.out HV.out k)
    have hN : Hid (Sh.rnds (Sh.ww b) v (k + 1) = Sh.rnd (Sh.rnds (Sh.ww b) v k) (Sh.kk k) (Sh.ww b k)) := rfl
    by_cases hlt : k < 64
    · generalize Sh.rnds (Sh.ww b) v k = U at *
      have hd : decide ((k : Int) < 64) = true := by simp; omega
      have cK := (HK.out.below hrel.2.2.2.2).2 k hlt
      have cW := hrel.2.2.1.cell hlt
      have c0 := hrel.2.2.2.1.cell (p := 0) (by omega)
      have c1 := hrel.2.2.2.1.cell (p := 1) (by omega)
      have c2 := hrel.2.2.2.1.cell (p := 2) (by omega)
      have c4 := hrel.2.2.2.1.cell (p := 4) (by omega)
      have c5 := hrel.2.2.2.1.cell (p := 5) (by omega)
      have c6 := hrel.2.2.2.1.cell (p := 6) (by omega)
      have c7 := hrel.2.2.2.1.cell (p := 7) (by omega)
      simp only [Sh.at8] at c0 c1 c2 c4 c5 c6 c7
      have l0 : U.a < 4294967296 := hU.out 0
      have l1 : U.b < 4294967296 := hU.out 1
      have l2 : U.c < 4294967296 := hU.out 2
      have l4 : U.e < 4294967296 := hU.out 4
      have l5 : U.f < 4294967296 := hU.out 5
      have l6 : U.g < 4294967296 := hU.out 6
      have hni : (0 : Int) ≤ (k : Int) := by omega
      have hbi : (k : Int) < 64 := by omega
      clear hrel
      go_wp2_with fail
      go_quiet (first | (go_at_call 90; exact Calls.quiet_of_same ((turned_S1 U.e _ l4).mono fun _ _ h => ⟨h.1, h.2.symm⟩)) | (go_at_call 91; exact Calls.quiet_of_same ((choice_any U.e U.f U.g _ l4 l5 l6).mono fun _ _ h => ⟨h.1, h.2.symm⟩)))
      rw [rT_int]
      have HQ := hide (H.out.drewN nq)
      clear cK cW c0 c1 c2 c4 c5 c6 c7 H
      generalize wr.drewN nq = wq at *
      generalize hT : Sh.rT U (Sh.kk k) (Sh.ww b k) = T at *
      have HT := hide hT
      clear hT
      have c0 := HQ.out.2.2.2.1.cell (p := 0) (by omega)
      have c1 := HQ.out.2.2.2.1.cell (p := 1) (by omega)
      have c2 := HQ.out.2.2.2.1.cell (p := 2) (by omega)
      simp only [Sh.at8] at c0 c1 c2
      go_wp2_with fail
      go_quiet (first | (go_at_call 90; exact Calls.quiet_of_same ((turned_S0 U.a _ l0).mono fun _ _ h => ⟨h.1, h.2.symm⟩)) | (go_at_call 92; exact Calls.quiet_of_same ((majority_any U.a U.b U.c _ l0 l1 l2).mono fun _ _ h => ⟨h.1, h.2.symm⟩)))
      rw [rU_int]
      have HR := hide (HQ.out.drewN nq)
      clear c0 c1 c2 HQ
      generalize wq.drewN nq = wp at *
      generalize hX : Sh.rU U = X at *
      have HX := hide hX
      clear hX
      have hcp := copy_shift HR.out.2.2.2.1
      go_wp2_with fail
      go_region
      have HS := hide (HR.out.shift hs1)
      clear hcp HR
      generalize wp.drew.setRow (g + 1) (a8 (shf U)) = wo at *
      have c4 := HS.out.2.2.2.1.cell (p := 4) (by omega)
      have c0 := HS.out.2.2.2.1.cell (p := 0) (by omega)
      have hf := HS.out.2.2.2.1.free
      simp only [Sh.at8, shf] at c4 c0
      go_wp2_with fail
      refine ⟨⟨k + 1, by omega, by go_num, ?_⟩, by simp [intOf]; omega⟩
      rw [show ((U.d : Int) + (T : Int)) % 4294967296 = (((U.d + T) % Sh.M : Nat) : Int) by unfold Sh.M; omega, show ((T : Int) + (X : Int)) % 4294967296 = (((T + X) % Sh.M : Nat) : Int) by unfold Sh.M; omega, hN.out]
      refine (HS.out.set (u' := ⟨U.a, U.a, U.b, U.c, (U.d + T) % Sh.M, U.e, U.f, U.g⟩) hs1 4 ((U.d + T) % Sh.M) fun p hp => ?_).set hs1 0 ((T + X) % Sh.M) fun p hp => ?_
      · rcases lt8' hp with rfl | rfl | rfl | rfl | rfl | rfl | rfl | rfl <;> rfl
      · rw [Sh.rnd, HT.out, HX.out]
        rcases lt8' hp with rfl | rfl | rfl | rfl | rfl | rfl | rfl | rfl <;> rfl
    · have HR := hide (blk_of (v := v) (b := b) (show k = 64 by omega))
      have HR0 := hide (H.out.mix0)
      clear hrel hN H hU
      generalize Sh.rnds (Sh.ww b) v k = R at *
      go_wp2_with fail
      go_loopw [63] (fun y wr => ∃ k : Nat, k ≤ 8 ∧ y = .int .i64 k ∧ MxRel w wr g v b (mix8 R v k)) (fun y _ => 8 - (intOf y).toNat)
      case atStart => exact ⟨0, by omega, rfl, HR0.out⟩
      case round =>
        obtain ⟨k, hk, rfl, hrel⟩ := hrel
        have H := hide hrel
        by_cases hlt : k < 8
        · have hd : decide ((k : Int) < 8) = true := by simp; omega
          have c1 := hrel.2.2.2.1.cell hlt
          have f1 := hrel.2.2.2.1.free k
          have c2 := hrel.1.cell hlt
          rw [mix8_at R v hlt] at c1
          clear hrel
          go_wp2_with fail
          go_region
          rw [show (((Sh.at8 R k : Nat) : Int) + ((Sh.at8 v k : Nat) : Int)) % 4294967296 = (((Sh.at8 R k + Sh.at8 v k) % Sh.M : Nat) : Int) by unfold Sh.M; omega]
          have HN := hide ((H.out.set hs1 k ((Sh.at8 R k + Sh.at8 v k) % Sh.M) fun p hp => mix8_step R v hlt hp).drewN 1)
          clear H c1 c2 f1
          go_wp2_with fail
          exact ⟨⟨k + 1, by omega, by go_num, HN.out⟩, by simp [intOf]; omega⟩
        · obtain rfl : k = 8 := by omega
          clear hrel
          have HF := hide (H.out)
          rw [mix8_all, ← HR.out] at HF
          generalize hF : Sh.blk v b = F at *
          have HE := hide hF
          clear hF
          have hcz8 : (a8 z8).size = (a8 F).size := by rw [a8, a8, fnC_size, fnC_size]
          go_wp2_with (first
            | (refine wpList_load_row rfl 111 (.tmp 6) rfl (g + 1) rfl 111 (a8 F) (0, 0) _ HF.out.2.2.2.1 Tryz.underlying111 rfl (s8_info' _) ?_)
            | (refine wpList_store_row rfl 111 (.tmp 4) (.tmp 75) rfl (w.heap.size + 1 + 1) (a8 F) rfl rfl 111 (a8 z8) HF.out.2.1 (s8_info' _) hcz8 (a8_one _) ?_))
          refine bodyPost_ret (res_s8 rfl _ _ (w.heap.size + 1 + 1) _ rfl (FnAt.put HF.out.2.1 _)) rfl ⟨by rw [HE.out], below_setRow HF.out.2.2.2.2 (by omega) _⟩
end Go.Proofs.YtlpibpkbgmcclaaGreatDoor
