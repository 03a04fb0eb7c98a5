/- What a call on a space and on the document's tells: both the same. -/
import Derived.Test.YthcpcdinjellcaaRsAll
namespace Go.Proofs.Ythcpcdinjellcaa
open Go.RowKit
set_option linter.unusedVariables false
/-- both spaces, and what is taken in both -/
structure Jt (w0 : World) (b rb : Nat) (B : Nat → Bool) (v : Value) (L : List (Int × Int)) (w : World) : Prop where
  sp : SpB b B w0 w
  rs : Rs w rb v L
  lt : b < rb
theorem Jt.space {w0 w w' : World} {b rb : Nat} {B C : Nat → Bool} {v : Value} {L : List (Int × Int)} (h : Jt w0 b rb B v L w) (hs : SpB b C w0 w') (hu : Bu b w w') : Jt w0 b rb C v L w' := by
  have hlt := h.lt
  refine ⟨hs, h.rs.keep fun k hk => ?_, hlt⟩
  rcases hk with rfl | q
  · exact hu.blk k h.rs.lt (by omega)
  · exact hu.blk k (own_lt h.rs.row q).1 (by have := row_base h.rs.row q; omega)
theorem Jt.keep {w0 w w' : World} {b rb : Nat} {B : Nat → Bool} {v : Value} {L : List (Int × Int)} (h : Jt w0 b rb B v L w) (hb : Below w.heap.size w w') : Jt w0 b rb B v L w' := ⟨h.sp.keep hb, h.rs.below hb, h.lt⟩
theorem Jt.ref {w0 w w' : World} {b rb : Nat} {B : Nat → Bool} {v v' : Value} {L L' : List (Int × Int)} (h : Jt w0 b rb B v L w) (hr : Rs w' rb v' L') (hu : Ru rb v w v' w') : Jt w0 b rb B v' L' w' := by
  have hlt := h.lt
  have hw := h.sp.2.2
  have hsz := h.sp.2.1.size
  have low : ∀ k, k ≤ b → w'.heap[k]? = w.heap[k]? := fun k hk => hu.blk k (by have := h.sp.1.lt; omega) (by omega) fun e => by have := row_base h.rs.row e; omega
  exact ⟨⟨(low b (Nat.le_refl _)).trans h.sp.1, ⟨hu.os.trans h.sp.2.1.os, hu.tape.trans h.sp.2.1.tape, hu.output.trans h.sp.2.1.output, Nat.le_trans hsz hu.size, fun k hk => (low k (by omega)).trans (h.sp.2.1.block k hk)⟩, hw⟩, hr, hlt⟩
/-- a call's box -/
def OB (kb : Nat) (x : OpR) (w : World) : Prop := w.heap[kb]? = some (.cells #[.int .i64 x.act, .int .i64 x.x, .int .i64 x.y, .slice x.la x.ln x.lc] 34 (0, 0))
theorem OB.space {kb b : Nat} {x : OpR} {w w' : World} (h : OB kb x w) (hu : Bu b w w') (hn : kb ≠ b) : OB kb x w' := (hu.blk kb (lt_of_block h) hn).trans h
theorem OB.keep {kb : Nat} {x : OpR} {w w' : World} (h : OB kb x w) (hb : Below w.heap.size w w') : OB kb x w' := (hb.block kb (lt_of_block h)).trans h
theorem OB.ref {kb rb : Nat} {x : OpR} {w w' : World} {v v' : Value} {L : List (Int × Int)} (h : OB kb x w) (hr : Rs w rb v L) (hu : Ru rb v w v' w') (hn : kb ≠ rb) : OB kb x w' := by
  refine (hu.blk kb (lt_of_block h) hn fun e => ?_).trans h
  obtain ⟨_, cur, hc⟩ := own_lt hr.row e
  rw [show w.heap[kb]? = _ from h] at hc
  injection hc with hc
  injection hc with _ ht
  exact absurd ht (by decide)
theorem OB.c0 {kb : Nat} {x : OpR} {w : World} (h : OB kb x w) : w.cell? ⟨kb, 0, none⟩ = some (.int .i64 x.act) := cell_of_block h
theorem OB.c1 {kb : Nat} {x : OpR} {w : World} (h : OB kb x w) : w.cell? ⟨kb, 1, none⟩ = some (.int .i64 x.x) := cell_of_block h
theorem OB.c2 {kb : Nat} {x : OpR} {w : World} (h : OB kb x w) : w.cell? ⟨kb, 2, none⟩ = some (.int .i64 x.y) := cell_of_block h
theorem OB.c3 {kb : Nat} {x : OpR} {w : World} (h : OB kb x w) : w.cell? ⟨kb, 3, none⟩ = some (.slice x.la x.ln x.lc) := cell_of_block h
/-- what a call leaves -/
def DoP (w0 : World) (b rb : Nat) (L : List (Int × Int)) (e : Ending) (w' : World) : Prop :=
  e = .returned (.bool true) ∧ ∃ C v' L', Jt w0 b rb C v' L' w' ∧ Rel C L' ∧ L'.length ≤ L.length + 60
theorem rtL_len (B : Nat → Bool) (L : List (Int × Int)) (d : Int) : (rtL B L d).length ≤ L.length + 60 := by unfold rtL; split <;> simp
theorem rmL_len (B : Nat → Bool) (L : List (Int × Int)) (x : Int × Int) : (rmL B L x).length ≤ L.length + 60 := by unfold rmL; split <;> simp
/-- the cells that a drawn region reads -/
def S12 (kb : Nat) (x y : Int) (w : World) : Prop := w.cell? ⟨kb, 1, none⟩ = some (.int .i64 x) ∧ w.cell? ⟨kb, 2, none⟩ = some (.int .i64 y)
theorem OB.s12 {kb : Nat} {x : OpR} {w : World} (h : OB kb x w) : S12 kb x.x x.y w := ⟨h.c1, h.c2⟩
set_option maxRecDepth 100000 in
set_option maxHeartbeats 4000000 in
theorem does_take (w0 : World) (b rb : Nat) (B : Nat → Bool) (v : Value) (L : List (Int × Int)) (x : OpR) (w : World) (hj : Jt w0 b rb B v L w) (hr : Rel B L) (hl : L.length ≤ 90000) (ha : x.act = 0) : Calls Try.prog 11 #[.pointer (some ⟨b, 0, none⟩), .pointer (some ⟨rb, 0, none⟩), .agg #[.int .i64 x.act, .int .i64 x.x, .int .i64 x.y, .slice x.la x.ln x.lc]] w (DoP w0 b rb L) := by
  have HJ := hide hj
  have HR := hide hr
  have hal : Below w.heap.size w (w.alloc (.cells #[.int .i64 x.act, .int .i64 x.x, .int .i64 x.y, .slice x.la x.ln x.lc] 34)) := (Below.refl _ _).alloc (Nat.le_refl _) _
  have HJ1 := hide (hj.keep hal)
  have HOB : Hid (OB w.heap.size x (w.alloc (.cells #[.int .i64 x.act, .int .i64 x.x, .int .i64 x.y, .slice x.la x.ln x.lc] 34))) := heap_alloc_new _ _
  have hkb : w.heap.size ≠ b := by have := hj.sp.1.lt; omega
  have hkr : w.heap.size ≠ rb := by have := hj.rs.lt; omega
  have HTS := hide (takeS HJ1.out.sp x.x _ _ rfl rfl)
  have HRL := hide (rtL_len B L x.x)
  have HRE := hide (hr.take x.x)
  have hc1 := HOB.out.c1
  clear hj hr hal
  obtain ⟨act, xx, xy, la, ln, lc, ll⟩ := x
  simp only at ha HTS HRL HRE HOB HJ1 hc1 ⊢
  subst ha
  generalize hN : tkN B xx = N at *
  generalize hE : tkE B xx = E at *
  have HN := hide hN
  have HE := hide hE
  clear hN hE
  go_enter Try.func11, Try.ntmps11
  go_wp2_with fail
  refine HTS.out.mono ?_
  rintro e w1 ⟨rfl, hs1, hu1⟩
  have HJ2 := hide (HJ1.out.space hs1 hu1)
  have HO2 := hide (HOB.out.space hu1 hkb)
  have c1 := HO2.out.c1
  simp only at c1
  have HT2 := hide (rTake_any rb v L B xx w1 HJ2.out.rs HR.out (by omega))
  rw [HN.out, HE.out] at HT2
  clear hs1 hu1 HTS hc1
  go_wp2_with fail
  refine HT2.out.mono ?_
  rintro e w2 ⟨rfl, v', hrs, hru, -⟩
  have HJ3 := hide (HJ2.out.ref hrs hru)
  clear hrs hru HT2
  go_wp2_with fail
  try go_ret
  exact ⟨rfl, _, _, _, HJ3.out, HRE.out, HRL.out⟩
set_option maxRecDepth 100000 in
set_option maxHeartbeats 4000000 in
theorem does_none (w0 : World) (b rb : Nat) (B : Nat → Bool) (v : Value) (L : List (Int × Int)) (x : OpR) (w : World) (hj : Jt w0 b rb B v L w) (hr : Rel B L) (hl : L.length ≤ 90000) (h0 : x.act ≠ 0) (h1 : x.act ≠ 1) (h2 : x.act ≠ 2) (h3 : x.act ≠ 3) : Calls Try.prog 11 #[.pointer (some ⟨b, 0, none⟩), .pointer (some ⟨rb, 0, none⟩), .agg #[.int .i64 x.act, .int .i64 x.x, .int .i64 x.y, .slice x.la x.ln x.lc]] w (DoP w0 b rb L) := by
  have HJ := hide hj
  have HR := hide hr
  have hal : Below w.heap.size w (w.alloc (.cells #[.int .i64 x.act, .int .i64 x.x, .int .i64 x.y, .slice x.la x.ln x.lc] 34)) := (Below.refl _ _).alloc (Nat.le_refl _) _
  have HJ1 := hide (hj.keep hal)
  have HOB : Hid (OB w.heap.size x (w.alloc (.cells #[.int .i64 x.act, .int .i64 x.x, .int .i64 x.y, .slice x.la x.ln x.lc] 34))) := heap_alloc_new _ _
  have hkb : w.heap.size ≠ b := by have := hj.sp.1.lt; omega
  have hkr : w.heap.size ≠ rb := by have := hj.rs.lt; omega
  have hc0 := HOB.out.c0
  have q0 : (x.act == 0) = false := by simpa using h0
  have q1 : (x.act == 1) = false := by simpa using h1
  have q2 : (x.act == 2) = false := by simpa using h2
  have q3 : (x.act == 3) = false := by simpa using h3
  clear hj hr hal h0 h1 h2 h3
  obtain ⟨act, xx, xy, la, ln, lc, ll⟩ := x
  simp only at q0 q1 q2 q3 HOB HJ1 hc0 ⊢
  go_enter Try.func11, Try.ntmps11
  go_wp2_with fail
  try go_ret
  exact ⟨rfl, _, _, _, HJ1.out, HR.out, by omega⟩
set_option maxRecDepth 100000 in
set_option maxHeartbeats 8000000 in
theorem does_mark (w0 : World) (b rb : Nat) (B : Nat → Bool) (v : Value) (L : List (Int × Int)) (x : OpR) (w : World) (hj : Jt w0 b rb B v L w) (hr : Rel B L) (hl : L.length ≤ 90000) (ha : x.act = 1) : Calls Try.prog 11 #[.pointer (some ⟨b, 0, none⟩), .pointer (some ⟨rb, 0, none⟩), .agg #[.int .i64 x.act, .int .i64 x.x, .int .i64 x.y, .slice x.la x.ln x.lc]] w (DoP w0 b rb L) := by
  have HJ := hide hj
  have HR := hide hr
  have hal : Below w.heap.size w (w.alloc (.cells #[.int .i64 x.act, .int .i64 x.x, .int .i64 x.y, .slice x.la x.ln x.lc] 34)) := (Below.refl _ _).alloc (Nat.le_refl _) _
  have HJ1 := hide (hj.keep hal)
  have HOB : Hid (OB w.heap.size x (w.alloc (.cells #[.int .i64 x.act, .int .i64 x.x, .int .i64 x.y, .slice x.la x.ln x.lc] 34))) := heap_alloc_new _ _
  have hkb : w.heap.size ≠ b := by have := hj.sp.1.lt; omega
  have hkr : w.heap.size ≠ rb := by have := hj.rs.lt; omega
  have HRL := hide (rmL_len B L (x.x, x.y))
  have HRE := hide (hr.mark (x.x, x.y))
  have hc0 := HOB.out.c0
  have hS := HOB.out.s12
  clear hj hr hal
  obtain ⟨act, xx, xy, la, ln, lc, ll⟩ := x
  simp only at ha HRL HRE HOB HJ1 hS hc0 ⊢
  subst ha
  generalize hWW : (w.alloc (.cells #[.int .i64 1, .int .i64 xx, .int .i64 xy, .slice la ln lc] 34)) = W at *
  go_enter Try.func11, Try.ntmps11
  go_wp2_with fail
  try simp only [hWW]
  have HS := hide hS
  have HJd : Hid (Jt w0 b rb B v L W.drew) := HJ1.out.keep (Below.refl _ _).drew
  have HOd : Hid (OB w.heap.size ⟨1, xx, xy, la, ln, lc, ll⟩ W.drew) := HOB.out
  generalize hEE : mkE B (xx, xy) = E at *
  have HEE := hide hEE
  clear hEE
  refine wp_region_noPanic ?_
  refine wp_region_held_drew (S := S12 w.heap.size xx xy) (by kernel_rfl) hS (fun hHeld => ?_)
  refine wpAnyH_take (i := 0) (v := ?v1) rfl (by kernel_rfl) (by kernel_rfl) (by kernel_rfl) (fun _ _ _ h => h) (Or.inl ⟨by rfl, ?hy1⟩) hHeld ?rest1
  case hy1 => (intro w' hSw; obtain ⟨s1, s2⟩ := hSw; go_simp; try with_reducible rfl)
  try simp [Act.put]
  refine wpAnyH_take (i := 1) (v := ?v2) rfl (by kernel_rfl) (by kernel_rfl) (by kernel_rfl) (fun _ _ _ h => h) (Or.inl ⟨by rfl, ?hy2⟩) hHeld ?rest2
  case hy2 => (intro w' hSw; obtain ⟨s1, s2⟩ := hSw; go_simp; try with_reducible rfl)
  try simp [Act.put]
  refine wpAnyH_take (i := 2) (v := ?v3) rfl (by kernel_rfl) (by kernel_rfl) (by kernel_rfl) (fun _ _ _ h => h) (Or.inl ⟨by rfl, ?hy3⟩) hHeld ?rest3
  case hy3 => (intro w' hSw; obtain ⟨s1, s2⟩ := hSw; go_simp; try with_reducible rfl)
  try simp [Act.put]
  refine wpAnyH_take (i := 4) (v := ?v4) rfl (by kernel_rfl) (by kernel_rfl) (by kernel_rfl) (fun _ _ _ h => h) (Or.inl ⟨by rfl, ?hy4⟩) hHeld ?rest4
  case hy4 => (intro w' hSw; obtain ⟨s1, s2⟩ := hSw; go_simp; try with_reducible rfl)
  try simp [Act.put]
  refine wpAnyH_take (i := 5) (v := ?v5) rfl (by kernel_rfl) (by kernel_rfl) (by kernel_rfl) (fun _ _ _ h => h) (Or.inl ⟨by rfl, ?hy5⟩) hHeld ?rest5
  case hy5 => (intro w' hSw; obtain ⟨s1, s2⟩ := hSw; go_simp; try with_reducible rfl)
  try simp [Act.put]
  refine wpAnyH_take (i := 6) (v := ?v6) rfl (by kernel_rfl) (by kernel_rfl) (by kernel_rfl) (fun _ _ _ h => h) (Or.inl ⟨by rfl, ?hy6⟩) hHeld ?rest6
  case hy6 => (intro w' hSw; obtain ⟨s1, s2⟩ := hSw; go_simp; try with_reducible rfl)
  try simp [Act.put]
  refine wpAnyH_ready (rs := [3]) (by kernel_rfl) (by simp) ?_
  refine AllReadyH.cons rfl (fun K hK => ?first) AllReadyH.nil
  case first =>
    go_simp
    refine (markS HJd.out.sp xx xy _ HEE.out).mono ?_
    rintro e w1 ⟨rfl, hs1, hu1⟩
    have HJ2 := hide (HJd.out.space hs1 hu1)
    have HO2 := hide (HOd.out.space hu1 hkb)
    clear hs1 hu1
    go_simp
    refine hK.out _ _ HO2.out.s12 (fun hHeld => ?_)
    clear hK K
    try simp [Act.put]
    refine wpAnyH_ready (rs := [7]) (by kernel_rfl) (by simp) ?_
    refine AllReadyH.cons rfl (fun K hK => ?_) AllReadyH.nil
    go_simp
    refine (rMark_any rb v L B xx xy w1 HJ2.out.rs HR.out (by omega)).mono ?_
    rintro e w2 ⟨he, v', hrs, hru⟩
    rw [HEE.out] at he
    subst he
    have HJ3 := hide (HJ2.out.ref hrs hru)
    have HO3 := hide (HO2.out.ref HJ2.out.rs hru hkr)
    clear hrs hru
    go_simp
    refine hK.out _ _ HO3.out.s12 (fun hHeld => ?_)
    clear hK K
    try simp [Act.put]
    refine wpAnyH_take (i := 8) (v := ?v101) rfl (by kernel_rfl) (by kernel_rfl) (by kernel_rfl) (fun _ _ _ h => h) (Or.inl ⟨by rfl, ?hy101⟩) hHeld ?rest101
    case hy101 => (intro w' hSw; obtain ⟨s1, s2⟩ := hSw; go_simp; try with_reducible rfl)
    try simp [Act.put]
    refine wpAnyH_take (i := 9) (v := ?v102) rfl (by kernel_rfl) (by kernel_rfl) (by kernel_rfl) (fun _ _ _ h => h) (Or.inl ⟨by rfl, ?hy102⟩) hHeld ?rest102
    case hy102 => (intro w' hSw; obtain ⟨s1, s2⟩ := hSw; go_simp; try with_reducible rfl)
    try simp [Act.put]
    refine wpAnyH_done (by kernel_rfl) (NoPanic.normal ?_) _
    go_wp2_with fail
    try go_ret
    exact ⟨rfl, _, _, _, HJ3.out, HRE.out, HRL.out⟩
set_option maxRecDepth 100000 in
set_option maxHeartbeats 8000000 in
theorem does_give (w0 : World) (b rb : Nat) (B : Nat → Bool) (v : Value) (L : List (Int × Int)) (x : OpR) (w : World) (hj : Jt w0 b rb B v L w) (hr : Rel B L) (hl : L.length ≤ 90000) (ha : x.act = 2) : Calls Try.prog 11 #[.pointer (some ⟨b, 0, none⟩), .pointer (some ⟨rb, 0, none⟩), .agg #[.int .i64 x.act, .int .i64 x.x, .int .i64 x.y, .slice x.la x.ln x.lc]] w (DoP w0 b rb L) := by
  have HJ := hide hj
  have HR := hide hr
  have hal : Below w.heap.size w (w.alloc (.cells #[.int .i64 x.act, .int .i64 x.x, .int .i64 x.y, .slice x.la x.ln x.lc] 34)) := (Below.refl _ _).alloc (Nat.le_refl _) _
  have HJ1 := hide (hj.keep hal)
  have HOB : Hid (OB w.heap.size x (w.alloc (.cells #[.int .i64 x.act, .int .i64 x.x, .int .i64 x.y, .slice x.la x.ln x.lc] 34))) := heap_alloc_new _ _
  have hkb : w.heap.size ≠ b := by have := hj.sp.1.lt; omega
  have hkr : w.heap.size ≠ rb := by have := hj.rs.lt; omega
  have HRL := hide (Nat.le_trans (dl_le L (x.x, x.y)) (Nat.le_add_right _ 60))
  have HRE := hide (hr.give (x.x, x.y))
  have hc0 := HOB.out.c0
  have hS := HOB.out.s12
  clear hj hr hal
  obtain ⟨act, xx, xy, la, ln, lc, ll⟩ := x
  simp only at ha HRL HRE HOB HJ1 hS hc0 ⊢
  subst ha
  generalize hWW : (w.alloc (.cells #[.int .i64 2, .int .i64 xx, .int .i64 xy, .slice la ln lc] 34)) = W at *
  go_enter Try.func11, Try.ntmps11
  go_wp2_with fail
  try simp only [hWW]
  have HS := hide hS
  have HJd : Hid (Jt w0 b rb B v L W.drew) := HJ1.out.keep (Below.refl _ _).drew
  have HOd : Hid (OB w.heap.size ⟨2, xx, xy, la, ln, lc, ll⟩ W.drew) := HOB.out
  generalize hEE : gvE B (xx, xy) = E at *
  have HEE := hide hEE
  clear hEE
  refine wp_region_noPanic ?_
  refine wp_region_held_drew (S := S12 w.heap.size xx xy) (by kernel_rfl) hS (fun hHeld => ?_)
  refine wpAnyH_take (i := 0) (v := ?v1) rfl (by kernel_rfl) (by kernel_rfl) (by kernel_rfl) (fun _ _ _ h => h) (Or.inl ⟨by rfl, ?hy1⟩) hHeld ?rest1
  case hy1 => (intro w' hSw; obtain ⟨s1, s2⟩ := hSw; go_simp; try with_reducible rfl)
  try simp [Act.put]
  refine wpAnyH_take (i := 1) (v := ?v2) rfl (by kernel_rfl) (by kernel_rfl) (by kernel_rfl) (fun _ _ _ h => h) (Or.inl ⟨by rfl, ?hy2⟩) hHeld ?rest2
  case hy2 => (intro w' hSw; obtain ⟨s1, s2⟩ := hSw; go_simp; try with_reducible rfl)
  try simp [Act.put]
  refine wpAnyH_take (i := 2) (v := ?v3) rfl (by kernel_rfl) (by kernel_rfl) (by kernel_rfl) (fun _ _ _ h => h) (Or.inl ⟨by rfl, ?hy3⟩) hHeld ?rest3
  case hy3 => (intro w' hSw; obtain ⟨s1, s2⟩ := hSw; go_simp; try with_reducible rfl)
  try simp [Act.put]
  refine wpAnyH_take (i := 4) (v := ?v4) rfl (by kernel_rfl) (by kernel_rfl) (by kernel_rfl) (fun _ _ _ h => h) (Or.inl ⟨by rfl, ?hy4⟩) hHeld ?rest4
  case hy4 => (intro w' hSw; obtain ⟨s1, s2⟩ := hSw; go_simp; try with_reducible rfl)
  try simp [Act.put]
  refine wpAnyH_take (i := 5) (v := ?v5) rfl (by kernel_rfl) (by kernel_rfl) (by kernel_rfl) (fun _ _ _ h => h) (Or.inl ⟨by rfl, ?hy5⟩) hHeld ?rest5
  case hy5 => (intro w' hSw; obtain ⟨s1, s2⟩ := hSw; go_simp; try with_reducible rfl)
  try simp [Act.put]
  refine wpAnyH_take (i := 6) (v := ?v6) rfl (by kernel_rfl) (by kernel_rfl) (by kernel_rfl) (fun _ _ _ h => h) (Or.inl ⟨by rfl, ?hy6⟩) hHeld ?rest6
  case hy6 => (intro w' hSw; obtain ⟨s1, s2⟩ := hSw; go_simp; try with_reducible rfl)
  try simp [Act.put]
  refine wpAnyH_ready (rs := [3]) (by kernel_rfl) (by simp) ?_
  refine AllReadyH.cons rfl (fun K hK => ?first) AllReadyH.nil
  case first =>
    go_simp
    refine (giveS HJd.out.sp xx xy _ HEE.out).mono ?_
    rintro e w1 ⟨rfl, hs1, hu1⟩
    have HJ2 := hide (HJd.out.space hs1 hu1)
    have HO2 := hide (HOd.out.space hu1 hkb)
    clear hs1 hu1
    go_simp
    refine hK.out _ _ HO2.out.s12 (fun hHeld => ?_)
    clear hK K
    try simp [Act.put]
    refine wpAnyH_ready (rs := [7]) (by kernel_rfl) (by simp) ?_
    refine AllReadyH.cons rfl (fun K hK => ?_) AllReadyH.nil
    go_simp
    refine (rGive_any rb v L B xx xy w1 HJ2.out.rs HR.out (by omega)).mono ?_
    rintro e w2 ⟨he, v', hrs, hru⟩
    rw [HEE.out] at he
    subst he
    have HJ3 := hide (HJ2.out.ref hrs hru)
    have HO3 := hide (HO2.out.ref HJ2.out.rs hru hkr)
    clear hrs hru
    go_simp
    refine hK.out _ _ HO3.out.s12 (fun hHeld => ?_)
    clear hK K
    try simp [Act.put]
    refine wpAnyH_take (i := 8) (v := ?v101) rfl (by kernel_rfl) (by kernel_rfl) (by kernel_rfl) (fun _ _ _ h => h) (Or.inl ⟨by rfl, ?hy101⟩) hHeld ?rest101
    case hy101 => (intro w' hSw; obtain ⟨s1, s2⟩ := hSw; go_simp; try with_reducible rfl)
    try simp [Act.put]
    refine wpAnyH_take (i := 9) (v := ?v102) rfl (by kernel_rfl) (by kernel_rfl) (by kernel_rfl) (fun _ _ _ h => h) (Or.inl ⟨by rfl, ?hy102⟩) hHeld ?rest102
    case hy102 => (intro w' hSw; obtain ⟨s1, s2⟩ := hSw; go_simp; try with_reducible rfl)
    try simp [Act.put]
    refine wpAnyH_done (by kernel_rfl) (NoPanic.normal ?_) _
    go_wp2_with fail
    try go_ret
    exact ⟨rfl, _, _, _, HJ3.out, HRE.out, HRL.out⟩
end Go.Proofs.Ythcpcdinjellcaa
