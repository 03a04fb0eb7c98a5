/- What a call on a space and on any other of the document's leaves of the space. -/
import Derived.Test.YthcpcdinjellcaaSpDoesB
namespace Go.Proofs.Ythcpcdinjellcaa
open Go.RowKit
set_option linter.unusedVariables false
/-- what a call leaves, whatever it tells -/
def DoG (w0 : World) (b : Nat) (e : Ending) (w' : World) : Prop := ∃ (t : Bool) (C : Nat → Bool), e = .returned (.bool t) ∧ SpB b C w0 w'
set_option maxRecDepth 100000 in
set_option maxHeartbeats 8000000 in
theorem locs_some (a1 a2 : Option Addr) (c1 c2 n m : Nat) (l k : List (Int × Int)) (w : World) (hl : l.length = n) (hk : k.length = m) (h63 : n ≤ 1000000) (h64 : m ≤ 1000000) (h1 : LocsAt w a1 l) (h2 : LocsAt w a2 k) : Calls Try.prog 21 #[.slice a1 n c1, .slice a2 m c2] w fun e w' => (∃ t, e = .returned (.bool t)) ∧ Below w.heap.size w w' := by
  have HL := hide hl
  have HK := hide hk
  have H1 := hide h1
  have H2 := hide h2
  clear hl hk h1 h2
  by_cases hnm : ¬ n = m
  · have hq : ((n : Int) == (m : Int)) = false := by simp; omega
    have hq2 : ((n : Int) != (m : Int)) = true := by simp; omega
    go_enter Try.func21, Try.ntmps21
    go_wp2_with fail
    try go_ret
    exact ⟨⟨_, rfl⟩, Below.refl _ _⟩
  obtain rfl : n = m := by omega
  clear hnm
  go_enter Try.func21, Try.ntmps21
  go_wp2_with fail
  go_loopw [5] (fun y wr => ∃ k : Nat, k ≤ n ∧ y = .int .i64 k ∧ Below w.heap.size w wr) (fun y _ => n - (intOf y).toNat)
  case atStart => exact ⟨0, by omega, rfl, Below.refl _ _⟩
  case round =>
    obtain ⟨j, hj, rfl, hbl⟩ := hrel
    have HB := hide hbl
    clear hbl
    by_cases hlt : j < n
    · have hd : decide ((j : Int) < (n : Int)) = true := by simp; omega
      have hdi : (j : Int) < (n : Int) := by omega
      have hd0 : (0 : Int) ≤ (j : Int) := by omega
      obtain ⟨⟨x1, x2⟩, hx⟩ : ∃ x, l[j]? = some x := ⟨_, List.getElem?_eq_getElem (by have := HL.out; omega)⟩
      obtain ⟨⟨y1, y2⟩, hy⟩ : ∃ x, k[j]? = some x := ⟨_, List.getElem?_eq_getElem (by have := HK.out; omega)⟩
      obtain ⟨b1, o1, rfl, hb1, p1, p2⟩ := H1.out.nth hx
      obtain ⟨b2, o2, rfl, hb2, p3, p4⟩ := H2.out.nth hy
      have e1 := (HB.out.cell (p := ⟨b1, o1 + j * 2, none⟩) hb1).trans p1
      have e2 := (HB.out.cell (p := ⟨b1, o1 + j * 2 + 1, none⟩) hb1).trans p2
      have e3 := (HB.out.cell (p := ⟨b2, o2 + j * 2, none⟩) hb2).trans p3
      have e4 := (HB.out.cell (p := ⟨b2, o2 + j * 2 + 1, none⟩) hb2).trans p4
      simp only at e1 e2 e3 e4
      clear hx hy p1 p2 p3 p4
      by_cases q1 : x1 = y1
      · subst q1
        by_cases q2 : x2 = y2
        · subst q2
          go_wp2_with fail
          go_quiet (fail)
          go_wp2_with fail
          all_goals first | exact ⟨⟨j + 1, by omega, by go_num, drawn_below HB.out _⟩, by simp [intOf]; omega⟩ | exact ⟨⟨j + 1, by omega, by go_num, HB.out⟩, by simp [intOf]; omega⟩
        · have hq : (x2 == y2) = false := by simpa using q2
          have hq2 : (x2 != y2) = true := by simpa using q2
          go_wp2_with fail
          go_quiet (fail)
          go_wp2_with fail
          try go_ret
          exact ⟨⟨_, rfl⟩, drawn_below HB.out _⟩
      · have hq : (x1 == y1) = false := by simpa using q1
        have hq2 : (x1 != y1) = true := by simpa using q1
        go_wp2_with fail
        go_quiet (fail)
        go_wp2_with fail
        try go_ret
        exact ⟨⟨_, rfl⟩, drawn_below HB.out _⟩
    · have hd : decide ((j : Int) < (n : Int)) = false := by simp; omega
      go_wp2_with fail
      try go_ret
      exact ⟨⟨_, rfl⟩, HB.out⟩
set_option maxRecDepth 100000 in
set_option maxHeartbeats 4000000 in
theorem doesG_take (w0 : World) (b rb : Nat) (B B2 : Nat → Bool) (v : Value) (L : List (Int × Int)) (x : OpR) (w : World) (hj : Jt w0 b rb B v L w) (hr : Rel B2 L) (hl : L.length ≤ 90000) (ha : x.act = 0) : Calls Try.prog 11 #[.pointer (some ⟨b, 0, none⟩), .pointer (some ⟨rb, 0, none⟩), .agg #[.int .i64 x.act, .int .i64 x.x, .int .i64 x.y, .slice x.la x.ln x.lc]] w (DoG w0 b) := by
  have HJ := hide hj
  have HR := hide hr
  have hal : Below w.heap.size w (w.alloc (.cells #[.int .i64 x.act, .int .i64 x.x, .int .i64 x.y, .slice x.la x.ln x.lc] 34)) := (Below.refl _ _).alloc (Nat.le_refl _) _
  have HJ1 := hide (hj.keep hal)
  have HOB : Hid (OB w.heap.size x (w.alloc (.cells #[.int .i64 x.act, .int .i64 x.x, .int .i64 x.y, .slice x.la x.ln x.lc] 34))) := heap_alloc_new _ _
  have hkb : w.heap.size ≠ b := by have := hj.sp.1.lt; omega
  have hkr : w.heap.size ≠ rb := by have := hj.rs.lt; omega
  have HTS := hide (takeS HJ1.out.sp x.x _ _ rfl rfl)
  have hc1 := HOB.out.c1
  clear hj hr hal
  obtain ⟨act, xx, xy, la, ln, lc, ll⟩ := x
  simp only at ha HTS HOB HJ1 hc1 ⊢
  subst ha
  generalize hN : tkN B xx = N at *
  generalize hE : tkE B xx = E at *
  have HN := hide hN
  have HE := hide hE
  clear hN hE
  go_enter Try.func11, Try.ntmps11
  go_wp2_with fail
  refine HTS.out.mono ?_
  rintro e w1 ⟨rfl, hs1, hu1⟩
  have HJ2 := hide (HJ1.out.space hs1 hu1)
  have HO2 := hide (HOB.out.space hu1 hkb)
  have c1 := HO2.out.c1
  simp only at c1
  have HT2 := hide (rTake_any rb v L B2 xx w1 HJ2.out.rs HR.out (by omega))
  generalize tkN B2 xx = N2 at *
  generalize tkE B2 xx = E2 at *
  generalize rtL B2 L xx = L2 at *
  clear hs1 hu1 HTS hc1
  go_wp2_with fail
  refine HT2.out.mono ?_
  rintro e w2 ⟨rfl, v', hrs, hru, -⟩
  have HJ3 := hide (HJ2.out.ref hrs hru)
  clear hrs hru HT2
  by_cases q1 : N = N2
  · subst q1
    by_cases q2 : E = E2
    · subst q2
      go_wp2_with fail
      try go_ret
      exact ⟨_, _, rfl, HJ3.out.sp⟩
    · have hq : (E == E2) = false := by simpa using q2
      go_wp2_with fail
      try go_ret
      exact ⟨_, _, rfl, HJ3.out.sp⟩
  · have hq : (N == N2) = false := by simpa using q1
    go_wp2_with fail
    try go_ret
    exact ⟨_, _, rfl, HJ3.out.sp⟩
set_option maxRecDepth 100000 in
set_option maxHeartbeats 4000000 in
theorem doesG_none (w0 : World) (b rb : Nat) (B B2 : Nat → Bool) (v : Value) (L : List (Int × Int)) (x : OpR) (w : World) (hj : Jt w0 b rb B v L w) (hr : Rel B2 L) (hl : L.length ≤ 90000) (h0 : x.act ≠ 0) (h1 : x.act ≠ 1) (h2 : x.act ≠ 2) (h3 : x.act ≠ 3) : Calls Try.prog 11 #[.pointer (some ⟨b, 0, none⟩), .pointer (some ⟨rb, 0, none⟩), .agg #[.int .i64 x.act, .int .i64 x.x, .int .i64 x.y, .slice x.la x.ln x.lc]] w (DoG w0 b) := by
  have HJ := hide hj
  have HR := hide hr
  have hal : Below w.heap.size w (w.alloc (.cells #[.int .i64 x.act, .int .i64 x.x, .int .i64 x.y, .slice x.la x.ln x.lc] 34)) := (Below.refl _ _).alloc (Nat.le_refl _) _
  have HJ1 := hide (hj.keep hal)
  have HOB : Hid (OB w.heap.size x (w.alloc (.cells #[.int .i64 x.act, .int .i64 x.x, .int .i64 x.y, .slice x.la x.ln x.lc] 34))) := heap_alloc_new _ _
  have hkb : w.heap.size ≠ b := by have := hj.sp.1.lt; omega
  have hkr : w.heap.size ≠ rb := by have := hj.rs.lt; omega
  have hc0 := HOB.out.c0
  have q0 : (x.act == 0) = false := by simpa using h0
  have q1 : (x.act == 1) = false := by simpa using h1
  have q2 : (x.act == 2) = false := by simpa using h2
  have q3 : (x.act == 3) = false := by simpa using h3
  clear hj hr hal h0 h1 h2 h3
  obtain ⟨act, xx, xy, la, ln, lc, ll⟩ := x
  simp only at q0 q1 q2 q3 HOB HJ1 hc0 ⊢
  go_enter Try.func11, Try.ntmps11
  go_wp2_with fail
  try go_ret
  exact ⟨_, _, rfl, HJ1.out.sp⟩
set_option maxRecDepth 100000 in
set_option maxHeartbeats 8000000 in
theorem doesG_mark (w0 : World) (b rb : Nat) (B B2 : Nat → Bool) (v : Value) (L : List (Int × Int)) (x : OpR) (w : World) (hj : Jt w0 b rb B v L w) (hr : Rel B2 L) (hl : L.length ≤ 90000) (ha : x.act = 1) : Calls Try.prog 11 #[.pointer (some ⟨b, 0, none⟩), .pointer (some ⟨rb, 0, none⟩), .agg #[.int .i64 x.act, .int .i64 x.x, .int .i64 x.y, .slice x.la x.ln x.lc]] w (DoG w0 b) := by
  have HJ := hide hj
  have HR := hide hr
  have hal : Below w.heap.size w (w.alloc (.cells #[.int .i64 x.act, .int .i64 x.x, .int .i64 x.y, .slice x.la x.ln x.lc] 34)) := (Below.refl _ _).alloc (Nat.le_refl _) _
  have HJ1 := hide (hj.keep hal)
  have HOB : Hid (OB w.heap.size x (w.alloc (.cells #[.int .i64 x.act, .int .i64 x.x, .int .i64 x.y, .slice x.la x.ln x.lc] 34))) := heap_alloc_new _ _
  have hkb : w.heap.size ≠ b := by have := hj.sp.1.lt; omega
  have hkr : w.heap.size ≠ rb := by have := hj.rs.lt; omega
  have hc0 := HOB.out.c0
  have hS := HOB.out.s12
  clear hj hr hal
  obtain ⟨act, xx, xy, la, ln, lc, ll⟩ := x
  simp only at ha HOB HJ1 hS hc0 ⊢
  subst ha
  generalize hWW : (w.alloc (.cells #[.int .i64 1, .int .i64 xx, .int .i64 xy, .slice la ln lc] 34)) = W at *
  go_enter Try.func11, Try.ntmps11
  go_wp2_with fail
  try simp only [hWW]
  have HS := hide hS
  have HJd : Hid (Jt w0 b rb B v L W.drew) := HJ1.out.keep (Below.refl _ _).drew
  have HOd : Hid (OB w.heap.size ⟨1, xx, xy, la, ln, lc, ll⟩ W.drew) := HOB.out
  have HEE : Hid (∃ E, mkE B (xx, xy) = E) := ⟨_, rfl⟩
  have HEF : Hid (∃ E, mkE B2 (xx, xy) = E) := ⟨_, rfl⟩
  obtain ⟨E, hEE⟩ := HEE.out
  obtain ⟨E2, hEF⟩ := HEF.out
  clear HEE HEF
  have HEE := hide hEE
  have HEF := hide hEF
  clear hEE hEF
  refine wp_region_noPanic ?_
  refine wp_region_held_drew (S := S12 w.heap.size xx xy) (by kernel_rfl) hS (fun hHeld => ?_)
  refine wpAnyH_take (i := 0) (v := ?v1) rfl (by kernel_rfl) (by kernel_rfl) (by kernel_rfl) (fun _ _ _ h => h) (Or.inl ⟨by rfl, ?hy1⟩) hHeld ?rest1
  case hy1 => (intro w' hSw; obtain ⟨s1, s2⟩ := hSw; go_simp; try with_reducible rfl)
  try simp [Act.put]
  refine wpAnyH_take (i := 1) (v := ?v2) rfl (by kernel_rfl) (by kernel_rfl) (by kernel_rfl) (fun _ _ _ h => h) (Or.inl ⟨by rfl, ?hy2⟩) hHeld ?rest2
  case hy2 => (intro w' hSw; obtain ⟨s1, s2⟩ := hSw; go_simp; try with_reducible rfl)
  try simp [Act.put]
  refine wpAnyH_take (i := 2) (v := ?v3) rfl (by kernel_rfl) (by kernel_rfl) (by kernel_rfl) (fun _ _ _ h => h) (Or.inl ⟨by rfl, ?hy3⟩) hHeld ?rest3
  case hy3 => (intro w' hSw; obtain ⟨s1, s2⟩ := hSw; go_simp; try with_reducible rfl)
  try simp [Act.put]
  refine wpAnyH_take (i := 4) (v := ?v4) rfl (by kernel_rfl) (by kernel_rfl) (by kernel_rfl) (fun _ _ _ h => h) (Or.inl ⟨by rfl, ?hy4⟩) hHeld ?rest4
  case hy4 => (intro w' hSw; obtain ⟨s1, s2⟩ := hSw; go_simp; try with_reducible rfl)
  try simp [Act.put]
  refine wpAnyH_take (i := 5) (v := ?v5) rfl (by kernel_rfl) (by kernel_rfl) (by kernel_rfl) (fun _ _ _ h => h) (Or.inl ⟨by rfl, ?hy5⟩) hHeld ?rest5
  case hy5 => (intro w' hSw; obtain ⟨s1, s2⟩ := hSw; go_simp; try with_reducible rfl)
  try simp [Act.put]
  refine wpAnyH_take (i := 6) (v := ?v6) rfl (by kernel_rfl) (by kernel_rfl) (by kernel_rfl) (fun _ _ _ h => h) (Or.inl ⟨by rfl, ?hy6⟩) hHeld ?rest6
  case hy6 => (intro w' hSw; obtain ⟨s1, s2⟩ := hSw; go_simp; try with_reducible rfl)
  try simp [Act.put]
  refine wpAnyH_ready (rs := [3]) (by kernel_rfl) (by simp) ?_
  refine AllReadyH.cons rfl (fun K hK => ?first) AllReadyH.nil
  case first =>
    go_simp
    refine (markS HJd.out.sp xx xy _ HEE.out).mono ?_
    rintro e w1 ⟨rfl, hs1, hu1⟩
    have HJ2 := hide (HJd.out.space hs1 hu1)
    have HO2 := hide (HOd.out.space hu1 hkb)
    clear hs1 hu1
    go_simp
    refine hK.out _ _ HO2.out.s12 (fun hHeld => ?_)
    clear hK K
    try simp [Act.put]
    refine wpAnyH_ready (rs := [7]) (by kernel_rfl) (by simp) ?_
    refine AllReadyH.cons rfl (fun K hK => ?_) AllReadyH.nil
    go_simp
    refine (rMark_any rb v L B2 xx xy w1 HJ2.out.rs HR.out (by omega)).mono ?_
    rintro e w2 ⟨he, v', hrs, hru⟩
    rw [HEF.out] at he
    subst he
    have HJ3 := hide (HJ2.out.ref hrs hru)
    have HO3 := hide (HO2.out.ref HJ2.out.rs hru hkr)
    clear hrs hru
    go_simp
    refine hK.out _ _ HO3.out.s12 (fun hHeld => ?_)
    clear hK K
    try simp [Act.put]
    refine wpAnyH_take (i := 8) (v := ?v101) rfl (by kernel_rfl) (by kernel_rfl) (by kernel_rfl) (fun _ _ _ h => h) (Or.inl ⟨by rfl, ?hy101⟩) hHeld ?rest101
    case hy101 => (intro w' hSw; obtain ⟨s1, s2⟩ := hSw; go_simp; try with_reducible rfl)
    try simp [Act.put]
    refine wpAnyH_take (i := 9) (v := ?v102) rfl (by kernel_rfl) (by kernel_rfl) (by kernel_rfl) (fun _ _ _ h => h) (Or.inl ⟨by rfl, ?hy102⟩) hHeld ?rest102
    case hy102 => (intro w' hSw; obtain ⟨s1, s2⟩ := hSw; go_simp; try with_reducible rfl)
    try simp [Act.put]
    refine wpAnyH_done (by kernel_rfl) (NoPanic.normal ?_) _
    go_wp2_with fail
    try go_ret
    exact ⟨_, _, rfl, HJ3.out.sp⟩
set_option maxRecDepth 100000 in
set_option maxHeartbeats 8000000 in
theorem doesG_give (w0 : World) (b rb : Nat) (B B2 : Nat → Bool) (v : Value) (L : List (Int × Int)) (x : OpR) (w : World) (hj : Jt w0 b rb B v L w) (hr : Rel B2 L) (hl : L.length ≤ 90000) (ha : x.act = 2) : Calls Try.prog 11 #[.pointer (some ⟨b, 0, none⟩), .pointer (some ⟨rb, 0, none⟩), .agg #[.int .i64 x.act, .int .i64 x.x, .int .i64 x.y, .slice x.la x.ln x.lc]] w (DoG w0 b) := by
  have HJ := hide hj
  have HR := hide hr
  have hal : Below w.heap.size w (w.alloc (.cells #[.int .i64 x.act, .int .i64 x.x, .int .i64 x.y, .slice x.la x.ln x.lc] 34)) := (Below.refl _ _).alloc (Nat.le_refl _) _
  have HJ1 := hide (hj.keep hal)
  have HOB : Hid (OB w.heap.size x (w.alloc (.cells #[.int .i64 x.act, .int .i64 x.x, .int .i64 x.y, .slice x.la x.ln x.lc] 34))) := heap_alloc_new _ _
  have hkb : w.heap.size ≠ b := by have := hj.sp.1.lt; omega
  have hkr : w.heap.size ≠ rb := by have := hj.rs.lt; omega
  have hc0 := HOB.out.c0
  have hS := HOB.out.s12
  clear hj hr hal
  obtain ⟨act, xx, xy, la, ln, lc, ll⟩ := x
  simp only at ha HOB HJ1 hS hc0 ⊢
  subst ha
  generalize hWW : (w.alloc (.cells #[.int .i64 2, .int .i64 xx, .int .i64 xy, .slice la ln lc] 34)) = W at *
  go_enter Try.func11, Try.ntmps11
  go_wp2_with fail
  try simp only [hWW]
  have HS := hide hS
  have HJd : Hid (Jt w0 b rb B v L W.drew) := HJ1.out.keep (Below.refl _ _).drew
  have HOd : Hid (OB w.heap.size ⟨2, xx, xy, la, ln, lc, ll⟩ W.drew) := HOB.out
  have HEE : Hid (∃ E, gvE B (xx, xy) = E) := ⟨_, rfl⟩
  have HEF : Hid (∃ E, gvE B2 (xx, xy) = E) := ⟨_, rfl⟩
  obtain ⟨E, hEE⟩ := HEE.out
  obtain ⟨E2, hEF⟩ := HEF.out
  clear HEE HEF
  have HEE := hide hEE
  have HEF := hide hEF
  clear hEE hEF
  refine wp_region_noPanic ?_
  refine wp_region_held_drew (S := S12 w.heap.size xx xy) (by kernel_rfl) hS (fun hHeld => ?_)
  refine wpAnyH_take (i := 0) (v := ?v1) rfl (by kernel_rfl) (by kernel_rfl) (by kernel_rfl) (fun _ _ _ h => h) (Or.inl ⟨by rfl, ?hy1⟩) hHeld ?rest1
  case hy1 => (intro w' hSw; obtain ⟨s1, s2⟩ := hSw; go_simp; try with_reducible rfl)
  try simp [Act.put]
  refine wpAnyH_take (i := 1) (v := ?v2) rfl (by kernel_rfl) (by kernel_rfl) (by kernel_rfl) (fun _ _ _ h => h) (Or.inl ⟨by rfl, ?hy2⟩) hHeld ?rest2
  case hy2 => (intro w' hSw; obtain ⟨s1, s2⟩ := hSw; go_simp; try with_reducible rfl)
  try simp [Act.put]
  refine wpAnyH_take (i := 2) (v := ?v3) rfl (by kernel_rfl) (by kernel_rfl) (by kernel_rfl) (fun _ _ _ h => h) (Or.inl ⟨by rfl, ?hy3⟩) hHeld ?rest3
  case hy3 => (intro w' hSw; obtain ⟨s1, s2⟩ := hSw; go_simp; try with_reducible rfl)
  try simp [Act.put]
  refine wpAnyH_take (i := 4) (v := ?v4) rfl (by kernel_rfl) (by kernel_rfl) (by kernel_rfl) (fun _ _ _ h => h) (Or.inl ⟨by rfl, ?hy4⟩) hHeld ?rest4
  case hy4 => (intro w' hSw; obtain ⟨s1, s2⟩ := hSw; go_simp; try with_reducible rfl)
  try simp [Act.put]
  refine wpAnyH_take (i := 5) (v := ?v5) rfl (by kernel_rfl) (by kernel_rfl) (by kernel_rfl) (fun _ _ _ h => h) (Or.inl ⟨by rfl, ?hy5⟩) hHeld ?rest5
  case hy5 => (intro w' hSw; obtain ⟨s1, s2⟩ := hSw; go_simp; try with_reducible rfl)
  try simp [Act.put]
  refine wpAnyH_take (i := 6) (v := ?v6) rfl (by kernel_rfl) (by kernel_rfl) (by kernel_rfl) (fun _ _ _ h => h) (Or.inl ⟨by rfl, ?hy6⟩) hHeld ?rest6
  case hy6 => (intro w' hSw; obtain ⟨s1, s2⟩ := hSw; go_simp; try with_reducible rfl)
  try simp [Act.put]
  refine wpAnyH_ready (rs := [3]) (by kernel_rfl) (by simp) ?_
  refine AllReadyH.cons rfl (fun K hK => ?first) AllReadyH.nil
  case first =>
    go_simp
    refine (giveS HJd.out.sp xx xy _ HEE.out).mono ?_
    rintro e w1 ⟨rfl, hs1, hu1⟩
    have HJ2 := hide (HJd.out.space hs1 hu1)
    have HO2 := hide (HOd.out.space hu1 hkb)
    clear hs1 hu1
    go_simp
    refine hK.out _ _ HO2.out.s12 (fun hHeld => ?_)
    clear hK K
    try simp [Act.put]
    refine wpAnyH_ready (rs := [7]) (by kernel_rfl) (by simp) ?_
    refine AllReadyH.cons rfl (fun K hK => ?_) AllReadyH.nil
    go_simp
    refine (rGive_any rb v L B2 xx xy w1 HJ2.out.rs HR.out (by omega)).mono ?_
    rintro e w2 ⟨he, v', hrs, hru⟩
    rw [HEF.out] at he
    subst he
    have HJ3 := hide (HJ2.out.ref hrs hru)
    have HO3 := hide (HO2.out.ref HJ2.out.rs hru hkr)
    clear hrs hru
    go_simp
    refine hK.out _ _ HO3.out.s12 (fun hHeld => ?_)
    clear hK K
    try simp [Act.put]
    refine wpAnyH_take (i := 8) (v := ?v101) rfl (by kernel_rfl) (by kernel_rfl) (by kernel_rfl) (fun _ _ _ h => h) (Or.inl ⟨by rfl, ?hy101⟩) hHeld ?rest101
    case hy101 => (intro w' hSw; obtain ⟨s1, s2⟩ := hSw; go_simp; try with_reducible rfl)
    try simp [Act.put]
    refine wpAnyH_take (i := 9) (v := ?v102) rfl (by kernel_rfl) (by kernel_rfl) (by kernel_rfl) (fun _ _ _ h => h) (Or.inl ⟨by rfl, ?hy102⟩) hHeld ?rest102
    case hy102 => (intro w' hSw; obtain ⟨s1, s2⟩ := hSw; go_simp; try with_reducible rfl)
    try simp [Act.put]
    refine wpAnyH_done (by kernel_rfl) (NoPanic.normal ?_) _
    go_wp2_with fail
    try go_ret
    exact ⟨_, _, rfl, HJ3.out.sp⟩
set_option maxRecDepth 100000 in
set_option maxHeartbeats 8000000 in
theorem doesG_all (w0 : World) (b rb : Nat) (B B2 : Nat → Bool) (v : Value) (L : List (Int × Int)) (x : OpR) (w : World) (hj : Jt w0 b rb B v L w) (hr : Rel B2 L) (hl : L.length ≤ 90000) (ha : x.act = 3) (hop : OpIs w0 x) (h60 : x.ln ≤ 60) : Calls Try.prog 11 #[.pointer (some ⟨b, 0, none⟩), .pointer (some ⟨rb, 0, none⟩), .agg #[.int .i64 x.act, .int .i64 x.x, .int .i64 x.y, .slice x.la x.ln x.lc]] w (DoG w0 b) := by
  have HR := hide hr
  have hal : Below w.heap.size w (w.alloc (.cells #[.int .i64 x.act, .int .i64 x.x, .int .i64 x.y, .slice x.la x.ln x.lc] 34)) := (Below.refl _ _).alloc (Nat.le_refl _) _
  have HJ1 := hide (hj.keep hal)
  have HOB : Hid (OB w.heap.size x (w.alloc (.cells #[.int .i64 x.act, .int .i64 x.x, .int .i64 x.y, .slice x.la x.ln x.lc] 34))) := heap_alloc_new _ _
  have hkb : w.heap.size ≠ b := by have := hj.sp.1.lt; omega
  have hrl := hj.rs.lt
  have hbl := hj.lt
  have h0b := hj.sp.2.2
  have hc0 := HOB.out.c0
  have hc3 := HOB.out.c3
  have HLEN := hide hop.len
  have HD0 := hide hop.ints
  have HDB := hide (ints_blk hop.ints)
  have HVL : Hid (∀ g, v.ownBlock = some g → g < w.heap.size) := fun g hg => (own_lt hj.rs.row hg).1
  clear hj hr hop
  obtain ⟨act, xx, xy, la, ln, lc, ll⟩ := x
  simp only at ha HOB HJ1 hc0 hc3 HLEN HD0 HDB hal h60 ⊢
  subst ha
  have HAL := hide (all_any b la ln lc ll B _ HJ1.out.sp.1 HLEN.out (by omega) (HD0.out.below HJ1.out.sp.2.1) (fun h p hp => by have := HDB.out h p hp; omega))
  have hsW : w.heap.size ≤ (w.alloc (.cells #[.int .i64 3, .int .i64 xx, .int .i64 xy, .slice la ln lc] 34)).heap.size := hal.size
  have HSW := hide hsW
  clear hal hsW
  go_enter Try.func11, Try.ntmps11
  go_wp2_with fail
  refine HAL.out.mono ?_
  rintro e w1 ⟨hu1, hd1⟩
  have HO2 := hide (HOB.out.space hu1 hkb)
  have c3 := HO2.out.c3
  have hs1 := hu1.size
  simp only at c3
  clear hc0 hc3
  have HX1 : Hid (∃ (a1 : Option Addr) (n1 c1 : Nat) (E1 : Int) (M : List (Int × Int)) (C : Nat → Bool), e = .returned (.tuple #[.slice a1 n1 c1, .int .i64 E1]) ∧ M.length = n1 ∧ n1 ≤ 60 ∧ LocsAt w1 a1 M ∧ NewA w a1 ∧ SpAt w1 b C) := by
    have hlen := HLEN.out
    rcases hd1 with ⟨k, hk, hok, hne, he, hS⟩ | ⟨hok, a1, c1, he, hL, hN, hS⟩
    · exact ⟨none, 0, 0, _, [], B, he, rfl, by omega, .inl rfl, (fun p hp => by cases hp), hS⟩
    · exact ⟨a1, _, c1, _, _, _, he, allLs_len _ _ _, by omega, hL, (fun p hp => Nat.le_trans HSW.out (hN p hp)), hS⟩
  obtain ⟨a1, n1, c1, E1, M, C, rfl, hM, hn1, hL, hN, hS⟩ := HX1.out
  have HJ2 := hide (HJ1.out.space (HJ1.out.sp.step hS hu1) hu1)
  have HM := hide hM
  have HL1 := hide hL
  have HN := hide hN
  have HT2 := hide (rAll_any rb v L B2 la ln lc ll w1 HJ2.out.rs HR.out (by omega) HLEN.out (by omega) (HD0.out.below HJ2.out.sp.2.1) (fun h p hp => by have := HDB.out h p hp; omega))
  clear hS hu1 hd1 HX1 HAL hL hN hM hs1
  go_wp2_with fail
  refine HT2.out.mono ?_
  rintro e w2 hd2
  have HX2 : Hid (∃ (a2 : Option Addr) (n2 c2 : Nat) (E2 : Int) (M2 : List (Int × Int)) (v' : Value) (L' : List (Int × Int)), e = .returned (.tuple #[.slice a2 n2 c2, .int .i64 E2]) ∧ M2.length = n2 ∧ n2 ≤ 60 ∧ LocsAt w2 a2 M2 ∧ Rs w2 rb v' L' ∧ Ru rb v w1 v' w2) := by
    have hlen := HLEN.out
    rcases hd2 with ⟨k, hk, hok, hne, he, hrs, hru⟩ | ⟨hok, a2, c2, he, hL, v', hrs, hru, hrel⟩
    · exact ⟨none, 0, 0, _, [], v, L, he, rfl, by omega, .inl rfl, hrs, hru⟩
    · exact ⟨a2, _, c2, _, _, v', _, he, allLs_len _ _ _, by omega, hL, hrs, hru⟩
  obtain ⟨a2, n2, c2, E2, M2, v', L', rfl, hM2, hn2, hL2, hrs, hru⟩ := HX2.out
  have HJ3 := hide (HJ2.out.ref hrs hru)
  have HM2 := hide hM2
  have HL2 := hide hL2
  have HL3 : Hid (LocsAt w2 a1 M) := HL1.out.keepB hru.size fun p hp hlt => hru.blk p.block hlt (by have := HN.out p hp; omega) (fun e => by have := HVL.out _ e; have := HN.out p hp; omega)
  clear hrs hru HT2 hL2 hM2 HX2 hd2
  go_wp2_with fail
  refine (locs_some a1 a2 c1 c2 n1 n2 M M2 w2 HM.out HM2.out (by omega) (by omega) HL3.out HL2.out).mono ?_
  rintro e w3 ⟨⟨t, rfl⟩, hb3⟩
  have HJ4 := hide (HJ3.out.keep hb3)
  clear hb3
  cases t with
  | false =>
    go_wp2_with fail
    try go_ret
    exact ⟨_, _, rfl, HJ4.out.sp⟩
  | true =>
    go_wp2_with fail
    try go_ret
    exact ⟨_, _, rfl, HJ4.out.sp⟩
theorem doesG_any (w0 : World) (b rb : Nat) (B B2 : Nat → Bool) (v : Value) (L : List (Int × Int)) (x : OpR) (w : World) (hj : Jt w0 b rb B v L w) (hr : Rel B2 L) (hl : L.length ≤ 90000) (hop : OpIs w0 x) (h60 : x.ln ≤ 60) : Calls Try.prog 11 #[.pointer (some ⟨b, 0, none⟩), .pointer (some ⟨rb, 0, none⟩), .agg #[.int .i64 x.act, .int .i64 x.x, .int .i64 x.y, .slice x.la x.ln x.lc]] w (DoG w0 b) := by
  by_cases h0 : x.act = 0
  · exact doesG_take w0 b rb B B2 v L x w hj hr hl h0
  by_cases h1 : x.act = 1
  · exact doesG_mark w0 b rb B B2 v L x w hj hr hl h1
  by_cases h2 : x.act = 2
  · exact doesG_give w0 b rb B B2 v L x w hj hr hl h2
  by_cases h3 : x.act = 3
  · exact doesG_all w0 b rb B B2 v L x w hj hr hl h3 hop h60
  exact doesG_none w0 b rb B B2 v L x w hj hr hl h0 h1 h2 h3
end Go.Proofs.Ythcpcdinjellcaa
