/- What layer 10's live answers: true. -/
import Derived.Test.YthcpcdinjellcaaSpAllB
namespace Go.Proofs.Ythcpcdinjellcaa
open Go.RowKit
set_option linter.unusedVariables false
set_option maxRecDepth 100000 in
set_option maxHeartbeats 8000000 in
theorem locs_same (a1 a2 : Option Addr) (c1 c2 n : Nat) (l : List (Int × Int)) (w : World) (hl : l.length = n) (h63 : n ≤ 1000000) (h1 : LocsAt w a1 l) (h2 : LocsAt w a2 l) : Calls Try.prog 21 #[.slice a1 n c1, .slice a2 n c2] w fun e w' => e = .returned (.bool true) ∧ Below w.heap.size w w' := by
  have HL := hide hl
  have H1 := hide h1
  have H2 := hide h2
  clear hl h1 h2
  go_enter Try.func21, Try.ntmps21
  go_wp2_with fail
  go_loopw [5] (fun y wr => ∃ k : Nat, k ≤ n ∧ y = .int .i64 k ∧ Below w.heap.size w wr) (fun y _ => n - (intOf y).toNat)
  case atStart => exact ⟨0, by omega, rfl, Below.refl _ _⟩
  case round =>
    obtain ⟨k, hk, rfl, hbl⟩ := hrel
    have HB := hide hbl
    clear hbl
    by_cases hlt : k < n
    · have hd : decide ((k : Int) < (n : Int)) = true := by simp; omega
      have hdi : (k : Int) < (n : Int) := by omega
      have hd0 : (0 : Int) ≤ (k : Int) := by omega
      obtain ⟨x, hx⟩ : ∃ x, l[k]? = some x := ⟨_, List.getElem?_eq_getElem (by have := HL.out; omega)⟩
      rcases H1.out with q | ⟨b1, o1, rfl, hb1, hc1⟩
      · have := HL.out; rw [q] at this; simp at this; omega
      rcases H2.out with q | ⟨b2, o2, rfl, hb2, hc2⟩
      · have := HL.out; rw [q] at this; simp at this; omega
      have HC1 := hide hc1
      have HC2 := hide hc2
      clear hc1 hc2
      have e1 := (HB.out.cell (p := ⟨b1, o1 + k * 2, none⟩) hb1).trans (HC1.out k x hx).1
      have e2 := (HB.out.cell (p := ⟨b1, o1 + k * 2 + 1, none⟩) hb1).trans (HC1.out k x hx).2
      have e3 := (HB.out.cell (p := ⟨b2, o2 + k * 2, none⟩) hb2).trans (HC2.out k x hx).1
      have e4 := (HB.out.cell (p := ⟨b2, o2 + k * 2 + 1, none⟩) hb2).trans (HC2.out k x hx).2
      clear hx
      go_wp2_with fail
      go_quiet (fail)
      go_wp2_with fail
      all_goals first | exact ⟨⟨k + 1, by omega, by go_num, drawn_below HB.out _⟩, by simp [intOf]; omega⟩ | exact ⟨⟨k + 1, by omega, by go_num, HB.out⟩, by simp [intOf]; omega⟩
    · have hd : decide ((k : Int) < (n : Int)) = false := by simp; omega
      go_wp2_with fail
      try go_ret
      exact ⟨rfl, HB.out⟩
theorem ints_block {w : World} {b : Nat} {l : List Int} {t : TypeId} (h : w.heap[b]? = some (.cells (l.map fun x => Value.int .i64 x).toArray t (0, 0))) : IntsAt w (some ⟨b, 0, none⟩) l :=
  .inr ⟨b, 0, rfl, lt_of_block h, fun i s hs => by rw [cell_of_block h, Nat.zero_add]; simp [hs]⟩
theorem locs_block {w : World} {b : Nat} {l : List (Int × Int)} {t : TypeId} (h : w.heap[b]? = some (.cells (lcV l).toArray t (0, 0))) : LocsAt w (some ⟨b, 0, none⟩) l :=
  .inr ⟨b, 0, rfl, lt_of_block h, fun i x hx => ⟨by rw [cell_of_block h, Nat.zero_add]; simpa using (lcV_at hx).1, by rw [cell_of_block h, Nat.zero_add]; simpa using (lcV_at hx).2⟩⟩
/-- the calls at values that are known; the space is told by what it begins below -/
def SpB (b : Nat) (B : Nat → Bool) (w0 w : World) : Prop := SpAt w b B ∧ Below w0.heap.size w0 w ∧ w0.heap.size ≤ b
theorem SpB.step {b : Nat} {B C : Nat → Bool} {w0 w w' : World} (h : SpB b B w0 w) (hs : SpAt w' b C) (hu : Bu b w w') : SpB b C w0 w' := ⟨hs, hu.below h.2.1 h.2.1.size h.2.2, h.2.2⟩
theorem SpB.keep {b : Nat} {B : Nat → Bool} {w0 w w' : World} (h : SpB b B w0 w) (hb : Below w.heap.size w w') : SpB b B w0 w' := ⟨h.1.below hb, h.2.1.trans (hb.mono h.2.1.size), h.2.2⟩
theorem newS (w : World) : Calls Try.prog 10 #[] w fun e w' => e = .returned (.pointer (some ⟨w.heap.size, 0, none⟩)) ∧ SpB w.heap.size (fun _ => false) w w' :=
  (new_any w).mono fun e w' ⟨he, h1, h2⟩ => ⟨he, h1, h2, Nat.le_refl _⟩
theorem takeS {b : Nat} {B : Nat → Bool} {w0 w : World} (h : SpB b B w0 w) (d n E : Int) (hn : tkN B d = n) (hE : tkE B d = E) : Calls Try.prog 16 #[.pointer (some ⟨b, 0, none⟩), .int .i64 d] w fun e w' => e = .returned (.tuple #[.int .i64 n, .int .i64 E]) ∧ SpB b (tkB B d) w0 w' ∧ Bu b w w' :=
  (take_any b d B w h.1).mono fun e w' ⟨he, h1, h2⟩ => ⟨by rw [he, hn, hE], h.step h1 h2, h2⟩
theorem markS {b : Nat} {B : Nat → Bool} {w0 w : World} (h : SpB b B w0 w) (x y E : Int) (hE : mkE B (x, y) = E) : Calls Try.prog 17 #[.pointer (some ⟨b, 0, none⟩), .agg #[.int .i64 x, .int .i64 y]] w fun e w' => e = .returned (.int .i64 E) ∧ SpB b (mkB B (x, y)) w0 w' ∧ Bu b w w' :=
  (mark_any b (x, y) B w h.1).mono fun e w' ⟨he, h1, h2⟩ => ⟨by rw [he, hE], h.step h1 h2, h2⟩
theorem giveS {b : Nat} {B : Nat → Bool} {w0 w : World} (h : SpB b B w0 w) (x y E : Int) (hE : gvE B (x, y) = E) : Calls Try.prog 18 #[.pointer (some ⟨b, 0, none⟩), .agg #[.int .i64 x, .int .i64 y]] w fun e w' => e = .returned (.int .i64 E) ∧ SpB b (gvB B (x, y)) w0 w' ∧ Bu b w w' :=
  (give_any b (x, y) B w h.1).mono fun e w' ⟨he, h1, h2⟩ => ⟨by rw [he, hE], h.step h1 h2, h2⟩
theorem takenS {b : Nat} {B : Nat → Bool} {w0 w : World} (h : SpB b B w0 w) (x y : Int) (t : Bool) (ht : tnB B (x, y) = t) : Calls Try.prog 14 #[.pointer (some ⟨b, 0, none⟩), .agg #[.int .i64 x, .int .i64 y]] w fun e w' => e = .returned (.bool t) ∧ SpB b B w0 w' ∧ Below w.heap.size w w' :=
  (taken_any b (x, y) B w h.1).mono fun e w' ⟨he, h1⟩ => ⟨by rw [he, ht], h.keep h1, h1⟩
theorem freeS {b : Nat} {B : Nat → Bool} {w0 w : World} (h : SpB b B w0 w) (d n : Int) (hn : frC B d = n) : Calls Try.prog 12 #[.pointer (some ⟨b, 0, none⟩), .int .i64 d] w fun e w' => e = .returned (.int .i64 n) ∧ w = w' :=
  (free_any b d B w h.1).mono fun e w' ⟨he, h1⟩ => ⟨by rw [he, hn], h1⟩
theorem allS {b : Nat} {B : Nat → Bool} {w0 w : World} (h : SpB b B w0 w) (a : Option Addr) (n c : Nat) (D : List Int) (l : List (Int × Int)) (hl : D.length = n) (hn : n ≤ 1000) (hD : IntsAt w a D) (hDb : ∀ p, a = some p → p.block ≠ b) (hok : ∀ i, i < n → allE B D i = 0) (hls : allLs B D n = l) :
    Calls Try.prog 19 #[.pointer (some ⟨b, 0, none⟩), .slice a n c] w fun e w' => ∃ a' c', e = .returned (.tuple #[.slice a' n c', .int .i64 0]) ∧ LocsAt w' a' l ∧ NewA w a' ∧ SpB b (allB B D n) w0 w' ∧ Bu b w w' := by
  refine (all_any b a n c D B w h.1 hl hn hD (fun _ => hDb)).mono fun e w' ⟨hu, hd⟩ => ?_
  rcases hd with ⟨k, hk, _, hne, _⟩ | ⟨_, a', c', he, hL, hN, hS⟩
  · exact absurd (hok k (by omega)) hne
  · rw [hl] at he hL hS
    rw [hls] at hL
    exact ⟨a', c', he, hL, hN, h.step hS hu, hu⟩
theorem allF {b : Nat} {B : Nat → Bool} {w0 w : World} (h : SpB b B w0 w) (a : Option Addr) (n c : Nat) (D : List Int) (k : Nat) (E : Int) (hl : D.length = n) (hn : n ≤ 1000) (hD : IntsAt w a D) (hDb : ∀ p, a = some p → p.block ≠ b) (hk : k < n) (hok : ∀ i, i < k → allE B D i = 0) (hE : allE B D k = E) (hE0 : E ≠ 0) :
    Calls Try.prog 19 #[.pointer (some ⟨b, 0, none⟩), .slice a n c] w fun e w' => e = .returned (.tuple #[.slice none 0 0, .int .i64 E]) ∧ SpB b B w0 w' ∧ Bu b w w' := by
  refine (all_any b a n c D B w h.1 hl hn hD (fun _ => hDb)).mono fun e w' ⟨hu, hd⟩ => ?_
  rcases hd with ⟨k', hk', hok', hne, he, hS⟩ | ⟨hok', _⟩
  · have : k' = k := by
      rcases Nat.lt_trichotomy k' k with q | q | q
      · exact absurd (hok k' q) hne
      · exact q
      · exact absurd (hE ▸ hok' k q) hE0
    subst this
    rw [hE] at he
    exact ⟨he, h.step hS hu, hu⟩
  · exact absurd (hE ▸ hok' k (by omega)) hE0
def lv0 : Nat → Bool := fun _ => false
def lv5 : Nat → Bool := gvB (gvB (mkB (tkB (tkB lv0 3) 3) (3, 1)) (3, 0)) (3, 0)
def lv6 : Nat → Bool := allB lv5 [3, 3, 4] 3
set_option maxRecDepth 100000 in
set_option maxHeartbeats 4000000 in
theorem live_any (w : World) : Calls Try.prog 9 #[] w fun e w' => e = .returned (.bool true) ∧ Below w.heap.size w w' := by
  go_enter Try.func9, Try.ntmps9
  go_wp2_with fail
  refine (newS w).mono ?_
  rintro e w1 ⟨rfl, h1⟩
  have H1 := hide h1
  clear h1
  go_wp2_with fail
  refine (takeS H1.out 3 0 0 (by decide +kernel) (by decide +kernel)).mono ?_
  rintro e w2 ⟨rfl, h2, -⟩
  have H2 := hide h2
  clear h2 H1
  go_wp2_with fail
  refine (takeS H2.out 3 1 0 (by decide +kernel) (by decide +kernel)).mono ?_
  rintro e w3 ⟨rfl, h3, -⟩
  have H3 := hide h3
  clear h3 H2
  go_wp2_with fail
  refine (markS H3.out 3 1 13 (by decide +kernel)).mono ?_
  rintro e w4 ⟨rfl, h4, -⟩
  have H4 := hide h4
  clear h4 H3
  go_wp2_with fail
  refine (giveS H4.out 3 0 0 (by decide +kernel)).mono ?_
  rintro e w5 ⟨rfl, h5, -⟩
  have H5 := hide h5
  clear h5 H4
  go_wp2_with fail
  refine (giveS H5.out 3 0 1 (by decide +kernel)).mono ?_
  rintro e w6 ⟨rfl, h6, -⟩
  have H6 : Hid (SpB w.heap.size lv5 w w6) := h6
  clear h6 H5
  go_wp2_with fail
  have hb7 : Below w6.heap.size w6 (w6.alloc (.cells #[.int .i64 3, .int .i64 3, .int .i64 4] 3)) := (Below.refl _ _).alloc (Nat.le_refl _) _
  have H7 := hide (H6.out.keep hb7)
  have HI7 : Hid (IntsAt (w6.alloc (.cells #[.int .i64 3, .int .i64 3, .int .i64 4] 3)) (some ⟨w6.heap.size, 0, none⟩) [3, 3, 4]) := ints_block (heap_alloc_new _ _)
  have hlt6 := H6.out.1.lt
  clear hb7 H6
  refine (allS H7.out (some ⟨w6.heap.size, 0, none⟩) 3 3 [3, 3, 4] [(3, 0), (3, 2), (4, 0)] rfl (by omega) HI7.out (fun p hp => by cases hp; show w6.heap.size ≠ w.heap.size; omega) (by decide +kernel) (by decide +kernel)).mono ?_
  rintro e w8 ⟨a8, c8, rfl, hL8, hN8, h8, -⟩
  have H8 : Hid (SpB w.heap.size lv6 w w8) := h8
  have HL8 := hide hL8
  have HN8 := hide hN8
  clear hL8 h8 H7 HI7 hN8
  go_wp2_with fail
  have hb9 : Below w8.heap.size w8 (w8.alloc (.cells #[.int .i64 3, .int .i64 12] 3)) := (Below.refl _ _).alloc (Nat.le_refl _) _
  have H9 := hide (H8.out.keep hb9)
  have HI9 : Hid (IntsAt (w8.alloc (.cells #[.int .i64 3, .int .i64 12] 3)) (some ⟨w8.heap.size, 0, none⟩) [3, 12]) := ints_block (heap_alloc_new _ _)
  have HL9 := hide (HL8.out.below hb9)
  have hlt8 := H8.out.1.lt
  clear hb9 H8 HL8
  refine (allF H9.out (some ⟨w8.heap.size, 0, none⟩) 2 2 [3, 12] 1 1 rfl (by omega) HI9.out (fun p hp => by cases hp; show w8.heap.size ≠ w.heap.size; omega) (by omega) (by decide +kernel) (by decide +kernel) (by decide)).mono ?_
  rintro e w10 ⟨rfl, h10, hu10⟩
  have H10 := hide h10
  have hLB : LocsB w.heap.size (w8.alloc (.cells #[.int .i64 3, .int .i64 12] 3)) a8 [(3, 0), (3, 2), (4, 0)] := ⟨HL9.out, fun p hp => by have := HN8.out p hp; rw [World.size_alloc] at this; omega⟩
  have HL10 := hide (hLB.keep hu10)
  clear h10 hu10 H9 HL9 HI9 hLB
  go_wp2_with fail
  have hb11 : Below w10.heap.size w10 (w10.alloc (.cells #[.int .i64 3, .int .i64 0, .int .i64 3, .int .i64 2, .int .i64 4, .int .i64 0] 31)) := (Below.refl _ _).alloc (Nat.le_refl _) _
  have H11 := hide (H10.out.keep hb11)
  have HL11 := hide (HL10.out.below hb11)
  have HK11 : Hid (LocsAt (w10.alloc (.cells #[.int .i64 3, .int .i64 0, .int .i64 3, .int .i64 2, .int .i64 4, .int .i64 0] 31)) (some ⟨w10.heap.size, 0, none⟩) [(3, 0), (3, 2), (4, 0)]) := locs_block (heap_alloc_new _ _)
  clear hb11 H10 HL10
  refine (locs_same a8 _ c8 3 3 _ _ rfl (by omega) HL11.out HK11.out).mono ?_
  rintro e w12 ⟨rfl, hb12⟩
  have H12 := hide (H11.out.keep hb12)
  clear hb12 H11 HL11 HK11
  go_wp2_with fail
  refine (freeS H12.out 3 45 (by decide +kernel)).mono ?_
  rintro e w13 ⟨rfl, rfl⟩
  go_wp2_with fail
  refine (takenS H12.out 4 0 true (by decide +kernel)).mono ?_
  rintro e w14 ⟨rfl, h14, -⟩
  have H14 := hide h14
  clear h14 H12
  go_wp2_with fail
  refine (takenS H14.out 5 0 false (by decide +kernel)).mono ?_
  rintro e w15 ⟨rfl, h15, -⟩
  have H15 := hide h15
  clear h15 H14
  go_wp2_with fail
  try go_ret
  exact ⟨rfl, H15.out.2.1⟩
end Go.Proofs.Ythcpcdinjellcaa
