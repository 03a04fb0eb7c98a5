/- What sector.Mine answers. -/
import Derived.Test.YtjcabdgikkmlpaaSeRead
namespace Go.Proofs.Ytjcabdgikkmlpaa
open Go.RowKit
set_option linter.unusedVariables false
/-- a volume in a block of its own -/
def VBx (bx : Nat) (x : Vol) (w : World) : Prop := w.heap[bx]? = some (.cells (vcs x) 36 (0, 0))
theorem VBx.cells {bx : Nat} {x : Vol} {w : World} (k : VBx bx x w) : w.cell? ⟨bx, 0, none⟩ = some (.int .i64 x.id) ∧ w.cell? ⟨bx, 1, none⟩ = some (.int .i64 x.gen) ∧ w.cell? ⟨bx, 2, none⟩ = some (.int .i64 x.len) ∧ w.cell? ⟨bx, 3, none⟩ = some (.slice x.a x.n x.c) :=
  ⟨cell_of_block k, cell_of_block k, cell_of_block k, cell_of_block k⟩
theorem VBx.lt {bx : Nat} {x : Vol} {w : World} (k : VBx bx x w) : bx < w.heap.size := lt_of_block k
theorem VBx.below {bx B : Nat} {x : Vol} {w w' : World} (k : VBx bx x w) (hb : Below B w w') (hB : bx < B) : VBx bx x w' := (hb.block bx hB).trans k
theorem vbx_new (x : Vol) (w : World) : VBx w.heap.size x (w.alloc (.cells (vcs x) 36)) := heap_alloc_new _ _
/-- the header that is mine, with the text of h -/
def mineH (x : Vol) (k : Nat) (h : Hd) : Hd := ⟨x.id, x.gen, (k : Int), (x.ls.getD k (0, 0)).1, (x.ls.getD k (0, 0)).2, h.x⟩
instance : DecidableEq Hd := fun a b => decidable_of_iff (a.v = b.v ∧ a.g = b.g ∧ a.i = b.i ∧ a.d = b.d ∧ a.s = b.s ∧ a.x = b.x) ⟨fun ⟨h1, h2, h3, h4, h5, h6⟩ => Hd.ext' h1 h2 h3 h4 h5 h6, fun h => by subst h; simp⟩
def mE (s : ByteArray) (x : Vol) (k : Int) : Int := if x.n = 9 ∧ 0 ≤ k ∧ k < 9 then (if rdE s = 0 then (if rdH s = mineH x k.toNat (rdH s) then 0 else 4) else rdE s) else 1
def mT (s : ByteArray) (x : Vol) (k : Int) : ByteArray := if mE s x k = 0 then (rdH s).x else ByteArray.empty
set_option maxRecDepth 100000 in
set_option maxHeartbeats 8000000 in
theorem mine_arg (s : ByteArray) (x : Vol) (k : Int) (w : World) (h : ¬ (x.n = 9 ∧ 0 ≤ k ∧ k < 9)) : Calls Try.prog 16 #[.string s, .agg (vcs x), .int .i64 k] w fun r w' => r = .returned (.tuple #[.string ByteArray.empty, .int .i64 1]) ∧ Below w.heap.size w w' := by
  have HB : Hid (Below w.heap.size w (w.alloc (.cells (vcs x) 36))) := (Below.refl _ _).alloc (Nat.le_refl _) _
  obtain ⟨id, gen, len, a, n, c, ls⟩ := x
  simp only [vcs] at HB h ⊢
  by_cases h9 : n = 9
  · have hk : ¬ (0 ≤ k ∧ k < 9) := fun q => h ⟨h9, q⟩
    clear h
    subst h9
    go_enter Try.func16, Try.ntmps16
    go_wp2_with fail
    refine (below_no _ _ _ hk).mono ?_
    rintro e w1 ⟨rfl, rfl⟩
    go_wp2_with fail
    try go_ret2
    exact ⟨rfl, HB.out⟩
  · have hn1 : ((n : Int) == 9) = false := by simp; omega
    have hn2 : ((n : Int) != 9) = true := by simp; omega
    clear h
    go_enter Try.func16, Try.ntmps16
    go_wp2_with fail
    try go_ret2
    exact ⟨rfl, HB.out⟩
set_option maxRecDepth 100000 in
set_option maxHeartbeats 8000000 in
theorem mine_err (s : ByteArray) (x : Vol) (k : Int) (w : World) (hs : s.size ≤ 100000) (h : x.n = 9 ∧ 0 ≤ k ∧ k < 9) (hE : rdE s ≠ 0) : Calls Try.prog 16 #[.string s, .agg (vcs x), .int .i64 k] w fun r w' => r = .returned (.tuple #[.string ByteArray.empty, .int .i64 (rdE s)]) ∧ Below w.heap.size w w' := by
  have HB : Hid (Below w.heap.size w (w.alloc (.cells (vcs x) 36))) := (Below.refl _ _).alloc (Nat.le_refl _) _
  have HR := hide (sread_any s (w.alloc (.cells (vcs x) 36)) hs)
  have hE2 : (rdE s == 0) = false := by simpa using hE
  have hE3 : (rdE s != 0) = true := by simpa using hE
  clear hE
  generalize rdE s = E at *
  generalize rdH s = H at *
  obtain ⟨v, g, i, d, l, z⟩ := H
  obtain ⟨id, gen, len, a, n, c, ls⟩ := x
  simp only [vcs, hcs] at HB HR h ⊢
  obtain ⟨rfl, hk⟩ := h
  go_enter Try.func16, Try.ntmps16
  go_wp2_with fail
  refine (below_yes _ _ _ hk.1 hk.2).mono ?_
  rintro e w1 ⟨rfl, rfl⟩
  go_wp2_with fail
  refine HR.out.mono ?_
  rintro e w1 ⟨rfl, hb1⟩
  have HB1 : Hid (Below w.heap.size w (w1.alloc (.cells #[.int .i64 v, .int .i64 g, .int .i64 i, .int .i64 d, .int .i64 l, .string z] 30))) := (HB.out.trans (hb1.mono HB.out.size)).alloc (HB.out.trans (hb1.mono HB.out.size)).size _
  clear hb1 HR HB
  go_wp2_with fail
  try go_ret2
  exact ⟨rfl, HB1.out⟩
/-- what is held while mine is made -/
def MS (bv bh : Nat) (x : Vol) (h : Hd) (bl o : Nat) (y : Int × Int) (w : World) : Prop := VBx bv x w ∧ HBx bh 30 h w ∧ (w.cell? ⟨bl, o, none⟩ = some (.int .i64 y.1) ∧ w.cell? ⟨bl, o + 1, none⟩ = some (.int .i64 y.2))
theorem MS.below {bv bh bl o : Nat} {x : Vol} {h : Hd} {y : Int × Int} {w w' : World} (k : MS bv bh x h bl o y w) (hb : Below w.heap.size w w') (hl : bl < w.heap.size) : MS bv bh x h bl o y w' :=
  ⟨k.1.below hb k.1.lt, k.2.1.below hb k.2.1.lt, (hb.cell (p := ⟨bl, o, none⟩) hl).trans k.2.2.1, (hb.cell (p := ⟨bl, o + 1, none⟩) hl).trans k.2.2.2⟩
theorem below_alloc_drew (w : World) (o : Obj) : Below w.heap.size w (w.alloc o).drew := ((Below.refl w.heap.size w).alloc (Nat.le_refl _) o).trans ((drew_below _).mono (by rw [World.size_alloc]; omega))
set_option maxRecDepth 100000 in
set_option maxHeartbeats 8000000 in
theorem mine_two (s : ByteArray) (x : Vol) (k : Nat) (w : World) (hs : s.size ≤ 100000) (h9 : x.n = 9) (hk : k < 9) (hls : x.ls.length = x.n) (hL : LocsAt w x.a x.ls) (hE : rdE s = 0) : Calls Try.prog 16 #[.string s, .agg (vcs x), .int .i64 (k : Int)] w fun r w' => r = .returned (.tuple #[.string (if rdH s = mineH x k (rdH s) then (rdH s).x else ByteArray.empty), .int .i64 (if rdH s = mineH x k (rdH s) then 0 else 4)]) ∧ Below w.heap.size w w' := by
  have HB : Hid (Below w.heap.size w (w.alloc (.cells (vcs x) 36))) := (Below.refl _ _).alloc (Nat.le_refl _) _
  have HV := hide (vbx_new x w)
  have HR := hide (sread_any s (w.alloc (.cells (vcs x) 36)) hs)
  rw [hE] at HR
  clear hE
  generalize rdH s = H at *
  have hlk : k < x.ls.length := by omega
  have hy : x.ls[k]? = some (x.ls.getD k (0, 0)) := by rw [List.getD_eq_getElem?_getD, List.getElem?_eq_getElem hlk]; rfl
  obtain ⟨bl, o, ha, hbl, hcs'⟩ : ∃ b o, x.a = some ⟨b, o, none⟩ ∧ b < w.heap.size ∧ (w.cell? ⟨b, o + k * 2, none⟩ = some (.int .i64 (x.ls.getD k (0, 0)).1) ∧ w.cell? ⟨b, o + k * 2 + 1, none⟩ = some (.int .i64 (x.ls.getD k (0, 0)).2)) := by
    rcases hL with q | ⟨b, o, ha, hb, hc⟩
    · rw [q] at hlk; simp at hlk
    · exact ⟨b, o, ha, hb, hc k _ hy⟩
  clear hL hy hlk hls
  unfold mineH
  generalize x.ls.getD k (0, 0) = y at *
  obtain ⟨y1, y2⟩ := y
  obtain ⟨v, g, i, d, l, z⟩ := H
  obtain ⟨id, gen, len, a, n, c, ls⟩ := x
  simp only at ha h9
  subst ha h9
  simp only [vcs, hcs] at HB HR ⊢
  have hk0 : (0 : Int) ≤ (k : Int) := by omega
  have hk9 : (k : Int) < 9 := by omega
  have hki : ¬ ((k : Int) < 0) := by omega
  have HC := hide hcs'
  clear hcs'
  go_enter Try.func16, Try.ntmps16
  go_wp2_with fail
  refine (below_yes _ _ _ hk0 hk9).mono ?_
  rintro e w1 ⟨rfl, rfl⟩
  go_wp2_with fail
  refine HR.out.mono ?_
  rintro e w1 ⟨rfl, hb1⟩
  have hb1' := HB.out.trans (hb1.mono HB.out.size)
  have HB1 := hide hb1'
  have HV1 := hide (HV.out.below hb1 HV.out.lt)
  have HC1 : Hid (w1.cell? ⟨bl, o + k * 2, none⟩ = some (.int .i64 y1) ∧ w1.cell? ⟨bl, o + k * 2 + 1, none⟩ = some (.int .i64 y2)) := ⟨(hb1'.cell (p := ⟨bl, o + k * 2, none⟩) hbl).trans HC.out.1, (hb1'.cell (p := ⟨bl, o + k * 2 + 1, none⟩) hbl).trans HC.out.2⟩
  have HLw := hide (Nat.lt_of_lt_of_le hbl hb1'.size)
  clear hb1 hb1' HC HR HV HB
  have hal : Below w1.heap.size w1 (w1.alloc (.cells #[.int .i64 v, .int .i64 g, .int .i64 i, .int .i64 d, .int .i64 l, .string z] 30)) := (Below.refl _ _).alloc (Nat.le_refl _) _
  have HB2 := hide (HB1.out.trans (hal.mono HB1.out.size))
  have HM : Hid (MS w.heap.size w1.heap.size ⟨id, gen, len, some ⟨bl, o, none⟩, 9, c, ls⟩ ⟨v, g, i, d, l, z⟩ bl (o + k * 2) (y1, y2) (w1.alloc (.cells #[.int .i64 v, .int .i64 g, .int .i64 i, .int .i64 d, .int .i64 l, .string z] 30))) :=
    ⟨HV1.out.below hal HV1.out.lt, hbx_new 30 ⟨v, g, i, d, l, z⟩ w1, (hal.cell (p := ⟨bl, o + k * 2, none⟩) HLw.out).trans HC1.out.1, (hal.cell (p := ⟨bl, o + k * 2 + 1, none⟩) HLw.out).trans HC1.out.2⟩
  have HL2 : Hid (bl < (w1.alloc (.cells #[.int .i64 v, .int .i64 g, .int .i64 i, .int .i64 d, .int .i64 l, .string z] 30)).heap.size) := Nat.lt_of_lt_of_le HLw.out hal.size
  clear hal HB1 HV1 HC1 HLw
  go_upto_region 6 with fail
  generalize w1.alloc (.cells #[.int .i64 v, .int .i64 g, .int .i64 i, .int .i64 d, .int .i64 l, .string z] 30) = W2 at *
  generalize w1.heap.size = bh at *
  refine wp_region_noPanic ?_
  refine wp_region_held_drew (S := MS w.heap.size bh ⟨id, gen, len, some ⟨bl, o, none⟩, 9, c, ls⟩ ⟨v, g, i, d, l, z⟩ bl (o + k * 2) (y1, y2)) (by kernel_rfl) HM.out (fun hHeld => ?_)
  refine wpAnyH_take (i := 0) (v := ?v1) rfl (by kernel_rfl) (by kernel_rfl) (by kernel_rfl) (fun _ _ _ h => h) (Or.inl ⟨by rfl, ?hy1⟩) hHeld ?rest1
  case hy1 => (intro w' hSw; obtain ⟨sv, sh, sl⟩ := hSw; obtain ⟨v0, v1, v2, v3⟩ := sv.cells; obtain ⟨⟨s0, s1, s2, s3, s4, s5⟩, -⟩ := sh.cells; obtain ⟨l0, l1⟩ := sl; simp only at l0 l1; go_simp; try with_reducible rfl)
  try simp [Act.put]
  refine wpAnyH_take (i := 1) (v := ?v2) rfl (by kernel_rfl) (by kernel_rfl) (by kernel_rfl) (fun _ _ _ h => h) (Or.inl ⟨by rfl, ?hy2⟩) hHeld ?rest2
  case hy2 => (intro w' hSw; obtain ⟨sv, sh, sl⟩ := hSw; obtain ⟨v0, v1, v2, v3⟩ := sv.cells; obtain ⟨⟨s0, s1, s2, s3, s4, s5⟩, -⟩ := sh.cells; obtain ⟨l0, l1⟩ := sl; simp only at l0 l1; go_simp; try with_reducible rfl)
  try simp [Act.put]
  refine wpAnyH_take (i := 2) (v := ?v3) rfl (by kernel_rfl) (by kernel_rfl) (by kernel_rfl) (fun _ _ _ h => h) (Or.inl ⟨by rfl, ?hy3⟩) hHeld ?rest3
  case hy3 => (intro w' hSw; obtain ⟨sv, sh, sl⟩ := hSw; obtain ⟨v0, v1, v2, v3⟩ := sv.cells; obtain ⟨⟨s0, s1, s2, s3, s4, s5⟩, -⟩ := sh.cells; obtain ⟨l0, l1⟩ := sl; simp only at l0 l1; go_simp; try with_reducible rfl)
  try simp [Act.put]
  refine wpAnyH_take (i := 3) (v := ?v4) rfl (by kernel_rfl) (by kernel_rfl) (by kernel_rfl) (fun _ _ _ h => h) (Or.inl ⟨by rfl, ?hy4⟩) hHeld ?rest4
  case hy4 => (intro w' hSw; obtain ⟨sv, sh, sl⟩ := hSw; obtain ⟨v0, v1, v2, v3⟩ := sv.cells; obtain ⟨⟨s0, s1, s2, s3, s4, s5⟩, -⟩ := sh.cells; obtain ⟨l0, l1⟩ := sl; simp only at l0 l1; go_simp; try with_reducible rfl)
  try simp [Act.put]
  refine wpAnyH_take (i := 4) (v := ?v5) rfl (by kernel_rfl) (by kernel_rfl) (by kernel_rfl) (fun _ _ _ h => h) (Or.inl ⟨by rfl, ?hy5⟩) hHeld ?rest5
  case hy5 => (intro w' hSw; obtain ⟨sv, sh, sl⟩ := hSw; obtain ⟨v0, v1, v2, v3⟩ := sv.cells; obtain ⟨⟨s0, s1, s2, s3, s4, s5⟩, -⟩ := sh.cells; obtain ⟨l0, l1⟩ := sl; simp only at l0 l1; go_simp; try with_reducible rfl)
  try simp [Act.put]
  refine wpAnyH_take (i := 5) (v := ?v6) rfl (by kernel_rfl) (by kernel_rfl) (by kernel_rfl) (fun _ _ _ h => h) (Or.inl ⟨by rfl, ?hy6⟩) hHeld ?rest6
  case hy6 => (intro w' hSw; obtain ⟨sv, sh, sl⟩ := hSw; obtain ⟨v0, v1, v2, v3⟩ := sv.cells; obtain ⟨⟨s0, s1, s2, s3, s4, s5⟩, -⟩ := sh.cells; obtain ⟨l0, l1⟩ := sl; simp only at l0 l1; go_simp; try with_reducible rfl)
  try simp [Act.put]
  refine wpAnyH_take (i := 6) (v := ?v7) rfl (by kernel_rfl) (by kernel_rfl) (by kernel_rfl) (fun _ _ _ h => h) (Or.inl ⟨by rfl, ?hy7⟩) hHeld ?rest7
  case hy7 => (intro w' hSw; obtain ⟨sv, sh, sl⟩ := hSw; obtain ⟨v0, v1, v2, v3⟩ := sv.cells; obtain ⟨⟨s0, s1, s2, s3, s4, s5⟩, -⟩ := sh.cells; obtain ⟨l0, l1⟩ := sl; simp only at l0 l1; go_simp; try with_reducible rfl)
  try simp [Act.put]
  refine wpAnyH_take (i := 7) (v := ?v8) rfl (by kernel_rfl) (by kernel_rfl) (by kernel_rfl) (fun _ _ _ h => h) (Or.inl ⟨by rfl, ?hy8⟩) hHeld ?rest8
  case hy8 => (intro w' hSw; obtain ⟨sv, sh, sl⟩ := hSw; obtain ⟨v0, v1, v2, v3⟩ := sv.cells; obtain ⟨⟨s0, s1, s2, s3, s4, s5⟩, -⟩ := sh.cells; obtain ⟨l0, l1⟩ := sl; simp only at l0 l1; go_simp; try with_reducible rfl)
  try simp [Act.put]
  refine wpAnyH_take (i := 8) (v := ?v9) rfl (by kernel_rfl) (by kernel_rfl) (by kernel_rfl) (fun _ _ _ h => h) (Or.inl ⟨by rfl, ?hy9⟩) hHeld ?rest9
  case hy9 => (intro w' hSw; obtain ⟨sv, sh, sl⟩ := hSw; obtain ⟨v0, v1, v2, v3⟩ := sv.cells; obtain ⟨⟨s0, s1, s2, s3, s4, s5⟩, -⟩ := sh.cells; obtain ⟨l0, l1⟩ := sl; simp only at l0 l1; go_simp; try with_reducible rfl)
  try simp [Act.put]
  refine wpAnyH_take (i := 9) (v := ?v10) rfl (by kernel_rfl) (by kernel_rfl) (by kernel_rfl) (fun _ _ _ h => h) (Or.inl ⟨by rfl, ?hy10⟩) hHeld ?rest10
  case hy10 => (intro w' hSw; obtain ⟨sv, sh, sl⟩ := hSw; obtain ⟨v0, v1, v2, v3⟩ := sv.cells; obtain ⟨⟨s0, s1, s2, s3, s4, s5⟩, -⟩ := sh.cells; obtain ⟨l0, l1⟩ := sl; simp only at l0 l1; go_simp; try with_reducible rfl)
  try simp [Act.put]
  refine wpAnyH_take (i := 10) (v := ?v11) rfl (by kernel_rfl) (by kernel_rfl) (by kernel_rfl) (fun _ _ _ h => h) (Or.inl ⟨by rfl, ?hy11⟩) hHeld ?rest11
  case hy11 => (intro w' hSw; obtain ⟨sv, sh, sl⟩ := hSw; obtain ⟨v0, v1, v2, v3⟩ := sv.cells; obtain ⟨⟨s0, s1, s2, s3, s4, s5⟩, -⟩ := sh.cells; obtain ⟨l0, l1⟩ := sl; simp only at l0 l1; go_simp; try with_reducible rfl)
  try simp [Act.put]
  refine wpAnyH_take (i := 11) (v := ?v12) rfl (by kernel_rfl) (by kernel_rfl) (by kernel_rfl) (fun _ _ _ h => h) (Or.inl ⟨by rfl, ?hy12⟩) hHeld ?rest12
  case hy12 => (intro w' hSw; obtain ⟨sv, sh, sl⟩ := hSw; obtain ⟨v0, v1, v2, v3⟩ := sv.cells; obtain ⟨⟨s0, s1, s2, s3, s4, s5⟩, -⟩ := sh.cells; obtain ⟨l0, l1⟩ := sl; simp only at l0 l1; go_simp; try with_reducible rfl)
  try simp [Act.put]
  refine wpAnyH_take (i := 12) (v := ?v13) rfl (by kernel_rfl) (by kernel_rfl) (by kernel_rfl) (fun _ _ _ h => h) (Or.inl ⟨by rfl, ?hy13⟩) hHeld ?rest13
  case hy13 => (intro w' hSw; obtain ⟨sv, sh, sl⟩ := hSw; obtain ⟨v0, v1, v2, v3⟩ := sv.cells; obtain ⟨⟨s0, s1, s2, s3, s4, s5⟩, -⟩ := sh.cells; obtain ⟨l0, l1⟩ := sl; simp only at l0 l1; go_simp; try with_reducible rfl)
  try simp [Act.put]
  refine wpAnyH_ready (rs := [13]) (by kernel_rfl) (by simp) ?_
  refine AllReadyH.cons rfl (fun K hK => ?_) AllReadyH.nil
  go_simp
  refine hK.out _ _ (HM.out.below (below_alloc_drew W2 _) HL2.out) (fun hHeld => ?_)
  clear hK K
  try simp [Act.put]
  refine wpAnyH_ready (rs := [14]) (by kernel_rfl) (by simp) ?_
  refine AllReadyH.cons rfl (fun K hK => ?_) AllReadyH.nil
  go_simp
  refine hK.out _ _ (HM.out.below (below_alloc_drew W2 _) HL2.out) (fun hHeld => ?_)
  clear hK K
  try simp [Act.put]
  refine wpAnyH_done (by kernel_rfl) (NoPanic.normal ?_) _
  have HX4 : Hid (HBx W2.heap.size 30 ⟨id, gen, (k : Int), y1, y2, z⟩ (W2.alloc (.cells #[.int .i64 id, .int .i64 gen, .int .i64 (k : Int), .int .i64 y1, .int .i64 y2, .string z] 30)).drew) := hbx_new 30 ⟨id, gen, (k : Int), y1, y2, z⟩ W2
  have HB4 := hide (HB2.out.trans ((below_alloc_drew W2 (.cells #[.int .i64 id, .int .i64 gen, .int .i64 (k : Int), .int .i64 y1, .int .i64 y2, .string z] 30)).mono HB2.out.size))
  obtain ⟨⟨s0, s1, s2, s3, s4, s5⟩, -⟩ := (HM.out.below (below_alloc_drew W2 (.cells #[.int .i64 id, .int .i64 gen, .int .i64 (k : Int), .int .i64 y1, .int .i64 y2, .string z] 30)) HL2.out).2.1.cells
  obtain ⟨⟨t0, t1, t2, t3, t4, t5⟩, -⟩ := HX4.out.cells
  simp only at s0 s1 s2 s3 s4 s5 t0 t1 t2 t3 t4 t5
  clear HX4 HM HL2 HB2 hHeld
  generalize (W2.alloc (.cells #[.int .i64 id, .int .i64 gen, .int .i64 (k : Int), .int .i64 y1, .int .i64 y2, .string z] 30)).drew = W4 at *
  go_wp2_with fail
  all_goals (try go_ret2)
  all_goals first | exact ⟨rfl, HB4.out⟩ | exact ⟨by simp_all, HB4.out⟩
theorem mine_any (s : ByteArray) (x : Vol) (k : Int) (w : World) (hs : s.size ≤ 100000) (hls : x.ls.length = x.n) (hL : LocsAt w x.a x.ls) : Calls Try.prog 16 #[.string s, .agg (vcs x), .int .i64 k] w fun r w' => r = .returned (.tuple #[.string (mT s x k), .int .i64 (mE s x k)]) ∧ Below w.heap.size w w' := by
  unfold mT
  by_cases h : x.n = 9 ∧ 0 ≤ k ∧ k < 9
  · by_cases hE : rdE s = 0
    · obtain ⟨h9, hk0, hk9⟩ := h
      obtain ⟨n, rfl⟩ := Int.eq_ofNat_of_zero_le hk0
      have e : mE s x n = if rdH s = mineH x n (rdH s) then 0 else 4 := by unfold mE; rw [if_pos ⟨h9, hk0, hk9⟩, if_pos hE, Int.toNat_natCast]
      have e2 : (if mE s x n = 0 then (rdH s).x else ByteArray.empty) = if rdH s = mineH x n (rdH s) then (rdH s).x else ByteArray.empty := by
        rw [e]
        by_cases q : rdH s = mineH x n (rdH s)
        · rw [if_pos q, if_pos q, if_pos rfl]
        · rw [if_neg q, if_neg q, if_neg (by decide)]
      rw [e2, e]
      exact mine_two s x n w hs h9 (by omega) hls hL hE
    · have e : mE s x k = rdE s := by unfold mE; rw [if_pos h, if_neg hE]
      rw [e, if_neg hE]
      exact mine_err s x k w hs h hE
  · have e : mE s x k = 1 := by unfold mE; rw [if_neg h]
    rw [e, if_neg (by decide)]
    exact mine_arg s x k w h
end Go.Proofs.Ytjcabdgikkmlpaa
