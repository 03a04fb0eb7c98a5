/- What sector.Write answers at every header. -/
import Derived.Test.YtjcabdgikkmlpaaSeWrite
import Derived.Deep.Cut
namespace Go.Proofs.Ytjcabdgikkmlpaa
open Go.RowKit
set_option linter.unusedVariables false
/-- a header in a block of its own -/
def HBx (bx : Nat) (t : TypeId) (h : Hd) (w : World) : Prop := w.heap[bx]? = some (.cells (hcs h) t (0, 0))
theorem HBx.c0 {bx : Nat} {t : TypeId} {h : Hd} {w : World} (k : HBx bx t h w) : w.cell? ⟨bx, 0, none⟩ = some (.int .i64 h.v) := cell_of_block k
theorem HBx.c1 {bx : Nat} {t : TypeId} {h : Hd} {w : World} (k : HBx bx t h w) : w.cell? ⟨bx, 1, none⟩ = some (.int .i64 h.g) := cell_of_block k
theorem HBx.c2 {bx : Nat} {t : TypeId} {h : Hd} {w : World} (k : HBx bx t h w) : w.cell? ⟨bx, 2, none⟩ = some (.int .i64 h.i) := cell_of_block k
theorem HBx.c3 {bx : Nat} {t : TypeId} {h : Hd} {w : World} (k : HBx bx t h w) : w.cell? ⟨bx, 3, none⟩ = some (.int .i64 h.d) := cell_of_block k
theorem HBx.c4 {bx : Nat} {t : TypeId} {h : Hd} {w : World} (k : HBx bx t h w) : w.cell? ⟨bx, 4, none⟩ = some (.int .i64 h.s) := cell_of_block k
theorem HBx.c5 {bx : Nat} {t : TypeId} {h : Hd} {w : World} (k : HBx bx t h w) : w.cell? ⟨bx, 5, none⟩ = some (.string h.x) := cell_of_block k
theorem HBx.below {bx B : Nat} {t : TypeId} {h : Hd} {w w' : World} (k : HBx bx t h w) (hb : Below B w w') (hB : bx < B) : HBx bx t h w' := (hb.block bx hB).trans k
theorem HBx.lt {bx : Nat} {t : TypeId} {h : Hd} {w : World} (k : HBx bx t h w) : bx < w.heap.size := lt_of_block k
theorem HBx.alloc {bx : Nat} {t : TypeId} {h : Hd} {w : World} (k : HBx bx t h w) (o : Obj) : HBx bx t h (w.alloc o) := k.below ((Below.refl w.heap.size w).alloc (Nat.le_refl _) o) k.lt
theorem HBx.drew {bx : Nat} {t : TypeId} {h : Hd} {w : World} (k : HBx bx t h w) : HBx bx t h w.drew := k
theorem hbx_new (t : TypeId) (h : Hd) (w : World) : HBx w.heap.size t h (w.alloc (.cells (hcs h) t)) := heap_alloc_new _ _
def f5 (a b c d e : Int) (k : Nat) : Int := match k with | 0 => a | 1 => b | 2 => c | 3 => d | _ => e
theorem cat_body (h : Hd) : (sSG ++ catN (f5 h.v h.g h.i h.d h.s) 5) ++ textS h.x = bodyS h := by
  unfold bodyS innS
  show (sSG ++ (((((ByteArray.empty ++ numI h.v) ++ numI h.g) ++ numI h.i) ++ numI h.d) ++ numI h.s)) ++ textS h.x = _
  simp only [nil_app, app_assoc]
theorem five_at {w : World} {b : Nat} {a0 a1 a2 a3 a4 : Int} {t : TypeId} (h : w.heap[b]? = some (.cells #[.int .i64 a0, .int .i64 a1, .int .i64 a2, .int .i64 a3, .int .i64 a4] t (0, 0))) : ∀ k, k < 5 → w.cell? ⟨b, k, none⟩ = some (.int .i64 (f5 a0 a1 a2 a3 a4 k)) := by
  intro k hk
  rw [cell_of_block h]
  match k, hk with
  | 0, _ => rfl
  | 1, _ => rfl
  | 2, _ => rfl
  | 3, _ => rfl
  | 4, _ => rfl
set_option maxRecDepth 100000 in
set_option maxHeartbeats 4000000 in
theorem write_arg (h : Hd) (w : World) (hr : ¬ h.inR) : Calls Try.prog 11 #[.agg (hcs h)] w fun r w' => r = .returned (.tuple #[.string ByteArray.empty, .int .i64 1]) ∧ Below w.heap.size w w' := by
  have HB : Hid (Below w.heap.size w (w.alloc (.cells (hcs h) 30))) := (Below.refl _ _).alloc (Nat.le_refl _) _
  have HI := hide (inRange_any h (w.alloc (.cells (hcs h) 30)))
  rw [decide_eq_false hr] at HI
  clear hr
  obtain ⟨v, g, i, d, s, x⟩ := h
  simp only [hcs] at HB HI ⊢
  go_enter Try.func11, Try.ntmps11
  go_wp2_with fail
  refine HI.out.mono ?_
  rintro e w1 ⟨rfl, hb1⟩
  have HB1 := hide (HB.out.trans (hb1.mono HB.out.size))
  clear hb1
  go_wp2_with fail
  try go_ret2
  exact ⟨rfl, HB1.out⟩
set_option maxRecDepth 100000 in
set_option maxHeartbeats 4000000 in
theorem write_big (h : Hd) (w : World) (hr : h.inR) (hx : 64 < h.x.size) : Calls Try.prog 11 #[.agg (hcs h)] w fun r w' => r = .returned (.tuple #[.string ByteArray.empty, .int .i64 12]) ∧ Below w.heap.size w w' := by
  have HB : Hid (Below w.heap.size w (w.alloc (.cells (hcs h) 30))) := (Below.refl _ _).alloc (Nat.le_refl _) _
  have HI := hide (inRange_any h (w.alloc (.cells (hcs h) 30)))
  have HN := hide (hbx_new 30 h w)
  rw [decide_eq_true hr] at HI
  clear hr
  obtain ⟨v, g, i, d, s, x⟩ := h
  simp only [hcs] at HB HI hx ⊢
  go_enter Try.func11, Try.ntmps11
  go_wp2_with fail
  refine HI.out.mono ?_
  rintro e w1 ⟨rfl, hb1⟩
  have HB1 := hide (HB.out.trans (hb1.mono HB.out.size))
  have c5 := (HN.out.below hb1 HN.out.lt).c5
  simp only at c5
  clear hb1
  go_wp2_with fail
  try go_ret2
  exact ⟨rfl, HB1.out⟩
set_option maxRecDepth 100000 in
set_option maxHeartbeats 8000000 in
theorem write_ok (h : Hd) (w : World) (hr : h.inR) (hx : h.x.size ≤ 64) : Calls Try.prog 11 #[.agg (hcs h)] w fun r w' => r = .returned (.tuple #[.string (sealS (bodyS h)), .int .i64 0]) ∧ Below w.heap.size w w' := by
  have HB : Hid (Below w.heap.size w (w.alloc (.cells (hcs h) 30))) := (Below.refl _ _).alloc (Nat.le_refl _) _
  have HI := hide (inRange_any h (w.alloc (.cells (hcs h) 30)))
  have HN := hide (hbx_new 30 h w)
  have HC := hide (cat_body h)
  have hcz := catN_size (f5 h.v h.g h.i h.d h.s) 5
  have htz := textS_len hx
  rw [decide_eq_true hr] at HI
  clear hr
  obtain ⟨v, g, i, d, s, x⟩ := h
  simp only [hcs] at HB HI hx htz hcz HC ⊢
  go_enter Try.func11, Try.ntmps11
  go_wp2_with fail
  refine HI.out.mono ?_
  rintro e w1 ⟨rfl, hb1⟩
  have HB1 := hide (HB.out.trans (hb1.mono HB.out.size))
  have HN1 := hide (HN.out.below hb1 HN.out.lt)
  have c5 := HN1.out.c5
  simp only at c5
  clear hb1 HB HI HN
  go_upto_region 5 with fail
  generalize w.heap.size = bx at HN1 c5 ⊢
  clear c5
  refine wp_region_noPanic ?_
  refine wp_region_held_drew (S := HBx bx 30 ⟨v, g, i, d, s, x⟩) (by kernel_rfl) HN1.out (fun hHeld => ?_)
  refine wpAnyH_take (i := 0) (v := ?v1) rfl (by kernel_rfl) (by kernel_rfl) (by kernel_rfl) (fun _ _ _ h => h) (Or.inl ⟨by rfl, ?hy1⟩) hHeld ?rest1
  case hy1 => (intro w' hSw; have s0 := HBx.c0 hSw; have s1 := HBx.c1 hSw; have s2 := HBx.c2 hSw; have s3 := HBx.c3 hSw; have s4 := HBx.c4 hSw; have s5 := HBx.c5 hSw; go_simp; try with_reducible rfl)
  try simp [Act.put]
  refine wpAnyH_take (i := 1) (v := ?v2) rfl (by kernel_rfl) (by kernel_rfl) (by kernel_rfl) (fun _ _ _ h => h) (Or.inl ⟨by rfl, ?hy2⟩) hHeld ?rest2
  case hy2 => (intro w' hSw; have s0 := HBx.c0 hSw; have s1 := HBx.c1 hSw; have s2 := HBx.c2 hSw; have s3 := HBx.c3 hSw; have s4 := HBx.c4 hSw; have s5 := HBx.c5 hSw; go_simp; try with_reducible rfl)
  try simp [Act.put]
  refine wpAnyH_take (i := 2) (v := ?v3) rfl (by kernel_rfl) (by kernel_rfl) (by kernel_rfl) (fun _ _ _ h => h) (Or.inl ⟨by rfl, ?hy3⟩) hHeld ?rest3
  case hy3 => (intro w' hSw; have s0 := HBx.c0 hSw; have s1 := HBx.c1 hSw; have s2 := HBx.c2 hSw; have s3 := HBx.c3 hSw; have s4 := HBx.c4 hSw; have s5 := HBx.c5 hSw; go_simp; try with_reducible rfl)
  try simp [Act.put]
  refine wpAnyH_take (i := 3) (v := ?v4) rfl (by kernel_rfl) (by kernel_rfl) (by kernel_rfl) (fun _ _ _ h => h) (Or.inl ⟨by rfl, ?hy4⟩) hHeld ?rest4
  case hy4 => (intro w' hSw; have s0 := HBx.c0 hSw; have s1 := HBx.c1 hSw; have s2 := HBx.c2 hSw; have s3 := HBx.c3 hSw; have s4 := HBx.c4 hSw; have s5 := HBx.c5 hSw; go_simp; try with_reducible rfl)
  try simp [Act.put]
  refine wpAnyH_take (i := 4) (v := ?v5) rfl (by kernel_rfl) (by kernel_rfl) (by kernel_rfl) (fun _ _ _ h => h) (Or.inl ⟨by rfl, ?hy5⟩) hHeld ?rest5
  case hy5 => (intro w' hSw; have s0 := HBx.c0 hSw; have s1 := HBx.c1 hSw; have s2 := HBx.c2 hSw; have s3 := HBx.c3 hSw; have s4 := HBx.c4 hSw; have s5 := HBx.c5 hSw; go_simp; try with_reducible rfl)
  try simp [Act.put]
  refine wpAnyH_take (i := 5) (v := ?v6) rfl (by kernel_rfl) (by kernel_rfl) (by kernel_rfl) (fun _ _ _ h => h) (Or.inl ⟨by rfl, ?hy6⟩) hHeld ?rest6
  case hy6 => (intro w' hSw; have s0 := HBx.c0 hSw; have s1 := HBx.c1 hSw; have s2 := HBx.c2 hSw; have s3 := HBx.c3 hSw; have s4 := HBx.c4 hSw; have s5 := HBx.c5 hSw; go_simp; try with_reducible rfl)
  try simp [Act.put]
  refine wpAnyH_take (i := 6) (v := ?v7) rfl (by kernel_rfl) (by kernel_rfl) (by kernel_rfl) (fun _ _ _ h => h) (Or.inl ⟨by rfl, ?hy7⟩) hHeld ?rest7
  case hy7 => (intro w' hSw; have s0 := HBx.c0 hSw; have s1 := HBx.c1 hSw; have s2 := HBx.c2 hSw; have s3 := HBx.c3 hSw; have s4 := HBx.c4 hSw; have s5 := HBx.c5 hSw; go_simp; try with_reducible rfl)
  try simp [Act.put]
  refine wpAnyH_take (i := 7) (v := ?v8) rfl (by kernel_rfl) (by kernel_rfl) (by kernel_rfl) (fun _ _ _ h => h) (Or.inl ⟨by rfl, ?hy8⟩) hHeld ?rest8
  case hy8 => (intro w' hSw; have s0 := HBx.c0 hSw; have s1 := HBx.c1 hSw; have s2 := HBx.c2 hSw; have s3 := HBx.c3 hSw; have s4 := HBx.c4 hSw; have s5 := HBx.c5 hSw; go_simp; try with_reducible rfl)
  try simp [Act.put]
  refine wpAnyH_take (i := 8) (v := ?v9) rfl (by kernel_rfl) (by kernel_rfl) (by kernel_rfl) (fun _ _ _ h => h) (Or.inl ⟨by rfl, ?hy9⟩) hHeld ?rest9
  case hy9 => (intro w' hSw; have s0 := HBx.c0 hSw; have s1 := HBx.c1 hSw; have s2 := HBx.c2 hSw; have s3 := HBx.c3 hSw; have s4 := HBx.c4 hSw; have s5 := HBx.c5 hSw; go_simp; try with_reducible rfl)
  try simp [Act.put]
  refine wpAnyH_take (i := 9) (v := ?v10) rfl (by kernel_rfl) (by kernel_rfl) (by kernel_rfl) (fun _ _ _ h => h) (Or.inl ⟨by rfl, ?hy10⟩) hHeld ?rest10
  case hy10 => (intro w' hSw; have s0 := HBx.c0 hSw; have s1 := HBx.c1 hSw; have s2 := HBx.c2 hSw; have s3 := HBx.c3 hSw; have s4 := HBx.c4 hSw; have s5 := HBx.c5 hSw; go_simp; try with_reducible rfl)
  try simp [Act.put]
  refine wpAnyH_take (i := 10) (v := ?v11) rfl (by kernel_rfl) (by kernel_rfl) (by kernel_rfl) (fun _ _ _ h => h) (Or.inl ⟨by rfl, ?hy11⟩) hHeld ?rest11
  case hy11 => (intro w' hSw; have s0 := HBx.c0 hSw; have s1 := HBx.c1 hSw; have s2 := HBx.c2 hSw; have s3 := HBx.c3 hSw; have s4 := HBx.c4 hSw; have s5 := HBx.c5 hSw; go_simp; try with_reducible rfl)
  try simp [Act.put]
  refine wpAnyH_take (i := 11) (v := ?v12) rfl (by kernel_rfl) (by kernel_rfl) (by kernel_rfl) (fun _ _ _ h => h) (Or.inl ⟨by rfl, ?hy12⟩) hHeld ?rest12
  case hy12 => (intro w' hSw; have s0 := HBx.c0 hSw; have s1 := HBx.c1 hSw; have s2 := HBx.c2 hSw; have s3 := HBx.c3 hSw; have s4 := HBx.c4 hSw; have s5 := HBx.c5 hSw; go_simp; try with_reducible rfl)
  try simp [Act.put]
  refine wpAnyH_take (i := 15) (v := ?v13) rfl (by kernel_rfl) (by kernel_rfl) (by kernel_rfl) (fun _ _ _ h => h) (Or.inl ⟨by rfl, ?hy13⟩) hHeld ?rest13
  case hy13 => (intro w' hSw; have s0 := HBx.c0 hSw; have s1 := HBx.c1 hSw; have s2 := HBx.c2 hSw; have s3 := HBx.c3 hSw; have s4 := HBx.c4 hSw; have s5 := HBx.c5 hSw; go_simp; try with_reducible rfl)
  try simp [Act.put]
  refine wpAnyH_take (i := 16) (v := ?v14) rfl (by kernel_rfl) (by kernel_rfl) (by kernel_rfl) (fun _ _ _ h => h) (Or.inl ⟨by rfl, ?hy14⟩) hHeld ?rest14
  case hy14 => (intro w' hSw; have s0 := HBx.c0 hSw; have s1 := HBx.c1 hSw; have s2 := HBx.c2 hSw; have s3 := HBx.c3 hSw; have s4 := HBx.c4 hSw; have s5 := HBx.c5 hSw; go_simp; try with_reducible rfl)
  try simp [Act.put]
  refine wpAnyH_ready (rs := [12]) (by kernel_rfl) (by simp) ?_
  refine AllReadyH.cons rfl (fun K hK => ?_) AllReadyH.nil
  go_simp
  have hal : Below w1.heap.size w1 (w1.alloc (.cells #[.int .i64 v, .int .i64 g, .int .i64 i, .int .i64 d, .int .i64 s] 3)).drew := ((Below.refl w1.heap.size w1).alloc (Nat.le_refl _) _).trans ((drew_below _).mono (by rw [World.size_alloc]; omega))
  have HN2 := hide (HN1.out.below hal HN1.out.lt)
  have HB2 := hide (HB1.out.trans (hal.mono HB1.out.size))
  have H5 : Hid (∀ k, k < 5 → (w1.alloc (.cells #[.int .i64 v, .int .i64 g, .int .i64 i, .int .i64 d, .int .i64 s] 3)).drew.cell? ⟨w1.heap.size, k, none⟩ = some (.int .i64 (f5 v g i d s k))) := five_at (heap_alloc_new w1 _)
  have HL : Hid (w1.heap.size < (w1.alloc (.cells #[.int .i64 v, .int .i64 g, .int .i64 i, .int .i64 d, .int .i64 s] 3)).drew.heap.size) := by show _ < (w1.alloc _).heap.size; rw [World.size_alloc]; omega
  refine hK.out _ _ HN2.out (fun hHeld => ?_)
  clear hK K hal HB1 HN1
  try simp [Act.put]
  generalize (w1.alloc (.cells #[.int .i64 v, .int .i64 g, .int .i64 i, .int .i64 d, .int .i64 s] 3)).drew = W2 at *
  generalize w1.heap.size = b5 at *
  refine wpAnyH_ready (rs := [13]) (by kernel_rfl) (by simp) ?_
  refine AllReadyH.cons rfl (fun K hK => ?_) AllReadyH.nil
  go_simp
  refine (numbers_any b5 (f5 v g i d s) _ HL.out H5.out).mono ?_
  rintro e w3 ⟨rfl, hb3⟩
  have HN3 := hide (HN2.out.below hb3 HN2.out.lt)
  have HB3 := hide (HB2.out.trans (hb3.mono HB2.out.size))
  refine hK.out _ _ HN3.out (fun hHeld => ?_)
  clear hK K hb3 HB2 HN2 H5 HL
  try simp [Act.put]
  generalize catN (f5 v g i d s) 5 = L at *
  refine wpAnyH_take (i := 14) (v := ?v15) rfl (by kernel_rfl) (by kernel_rfl) (by kernel_rfl) (fun _ _ _ h => h) (Or.inl ⟨by rfl, ?hy15⟩) hHeld ?rest15
  case hy15 => (intro w' hSw; go_simp; rw [if_neg (by (try simp only [ByteArray.size_append]); (try rw [show ({ data := #[83, 71] } : ByteArray).size = 2 from rfl]); omega)])
  try simp [Act.put]
  refine wpAnyH_ready (rs := [17]) (by kernel_rfl) (by simp) ?_
  refine AllReadyH.cons rfl (fun K hK => ?_) AllReadyH.nil
  go_simp
  refine (ptext_any x _ (by omega)).mono ?_
  rintro e w4 ⟨rfl, hb4⟩
  have HN4 := hide (HN3.out.below hb4 HN3.out.lt)
  have HB4 := hide (HB3.out.trans (hb4.mono HB3.out.size))
  refine hK.out _ _ HN4.out (fun hHeld => ?_)
  clear hK K hb4 HB3 HN3
  try simp [Act.put]
  generalize textS x = T at *
  refine wpAnyH_take (i := 18) (v := ?v16) rfl (by kernel_rfl) (by kernel_rfl) (by kernel_rfl) (fun _ _ _ h => h) (Or.inl ⟨by rfl, ?hy16⟩) hHeld ?rest16
  case hy16 => (intro w' hSw; go_simp; rw [if_neg (by (try simp only [ByteArray.size_append]); (try rw [show ({ data := #[83, 71] } : ByteArray).size = 2 from rfl]); omega)])
  try simp [Act.put]
  refine wpAnyH_ready (rs := [19]) (by kernel_rfl) (by simp) ?_
  refine AllReadyH.cons rfl (fun K hK => ?_) AllReadyH.nil
  go_simp
  have hZ : (sSG ++ L ++ T).size ≤ 100000 := by rw [ByteArray.size_append, ByteArray.size_append, sSG_size]; omega
  refine (seal_any (sSG ++ L ++ T) _ hZ).mono ?_
  rintro e w5 ⟨rfl, hb5⟩
  have HN5 := hide (HN4.out.below hb5 HN4.out.lt)
  have HB5 := hide (HB4.out.trans (hb5.mono HB4.out.size))
  refine hK.out _ _ HN5.out (fun hHeld => ?_)
  clear hK K hb5 HB4 HN4 hZ
  try simp [Act.put]
  rw [HC.out]
  refine wpAnyH_take (i := 20) (v := ?v17) rfl (by kernel_rfl) (by kernel_rfl) (by kernel_rfl) (fun _ _ _ h => h) (Or.inl ⟨by rfl, ?hy17⟩) hHeld ?rest17
  case hy17 => (intro w' hSw; have s0 := HBx.c0 hSw; have s1 := HBx.c1 hSw; have s2 := HBx.c2 hSw; have s3 := HBx.c3 hSw; have s4 := HBx.c4 hSw; have s5 := HBx.c5 hSw; go_simp; try with_reducible rfl)
  try simp [Act.put]
  refine wpAnyH_take (i := 21) (v := ?v18) rfl (by kernel_rfl) (by kernel_rfl) (by kernel_rfl) (fun _ _ _ h => h) (Or.inl ⟨by rfl, ?hy18⟩) hHeld ?rest18
  case hy18 => (intro w' hSw; have s0 := HBx.c0 hSw; have s1 := HBx.c1 hSw; have s2 := HBx.c2 hSw; have s3 := HBx.c3 hSw; have s4 := HBx.c4 hSw; have s5 := HBx.c5 hSw; go_simp; try with_reducible rfl)
  try simp [Act.put]
  refine wpAnyH_done (by kernel_rfl) (NoPanic.normal ?_) _
  go_wp2_with fail
  try go_ret2
  exact ⟨rfl, HB5.out⟩
theorem write_any (h : Hd) (w : World) : Calls Try.prog 11 #[.agg (hcs h)] w fun r w' => r = .returned (.tuple #[.string (wS h), .int .i64 (wE h)]) ∧ Below w.heap.size w w' := by
  by_cases hr : h.inR
  · by_cases hx : h.x.size ≤ 64
    · have h0 : wE h = 0 := wE_zero.2 ⟨hr, hx⟩
      rw [h0, wS_ok h0]
      exact write_ok h w hr hx
    · have h0 : wE h = 12 := by unfold wE; rw [if_pos hr, if_neg hx]
      rw [wS_bad (by omega), h0]
      exact write_big h w hr (by omega)
  · have h0 : wE h = 1 := by unfold wE; rw [if_neg hr]
    rw [wS_bad (by omega), h0]
    exact write_arg h w hr
end Go.Proofs.Ytjcabdgikkmlpaa
