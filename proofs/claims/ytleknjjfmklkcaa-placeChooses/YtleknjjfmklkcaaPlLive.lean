/- What layer 9's live answers: true. -/
import Derived.Test.YtleknjjfmklkcaaPlRef
import Derived.Test.YtleknjjfmklkcaaPlEvenR
namespace Go.Proofs.Ytleknjjfmklkcaa
open Go.RowKit
set_option linter.unusedVariables false
def all12 : List Int := [0, 1, 2, 3, 4, 5, 6, 7, 8, 9, 10, 11]
def allC : Array Value := #[.int .i64 0, .int .i64 1, .int .i64 2, .int .i64 3, .int .i64 4, .int .i64 5, .int .i64 6, .int .i64 7, .int .i64 8, .int .i64 9, .int .i64 10, .int .i64 11]
/-- numbers that lie in a block of their own -/
theorem ints_block {w : World} {b : Nat} {l : List Int} {t : TypeId} (h : w.heap[b]? = some (.cells (l.map fun x => Value.int .i64 x).toArray t (0, 0))) : IntsAt w (some ⟨b, 0, none⟩) l :=
  .inr ⟨b, 0, rfl, lt_of_block h, fun i s hs => by rw [cell_of_block h, Nat.zero_add]; simp [hs]⟩
theorem IntsAt.take {w : World} {a : Option Addr} {l : List Int} (h : IntsAt w a l) (k : Nat) : IntsAt w a (l.take k) := by
  rcases h with h | ⟨b, o, ha, hlt, hc⟩
  · exact .inl (by rw [h]; simp)
  · exact .inr ⟨b, o, ha, hlt, fun i s hs => hc i s (by rw [List.getElem?_take] at hs; split at hs; exact hs; cases hs)⟩
theorem all_any (w : World) : Calls Try.prog 19 #[] w fun e w' => e = .returned (.slice (some ⟨w.heap.size, 0, none⟩) 12 12) ∧ IntsAt w' (some ⟨w.heap.size, 0, none⟩) all12 ∧ Below w.heap.size w w' := by
  go_enter Try.func19, Try.ntmps19
  go_wp2_with fail
  try go_ret
  exact ⟨rfl, ints_block (heap_alloc_new w _), (Below.refl _ _).alloc (Nat.le_refl _) _⟩
theorem choose_at (id gen : Int) (a : Option Addr) (n c : Nat) (l r : List Int) (m : Nat) (E : Int) (w : World) (hl : l.length = n) (hn : n ≤ 1000) (hS : IntsAt w a l) (hr : chL id gen l = r) (hm : r.length = m) (hE : chE id gen l = E) :
    Calls Try.prog 10 #[.int .i64 id, .int .i64 gen, .slice a n c] w fun e w' => ∃ a' c', e = .returned (.tuple #[.slice a' m c', .int .i64 E]) ∧ m ≤ c' ∧ IntsAt w' a' r ∧ Below w.heap.size w w' := by
  refine (choose_any id gen a n c l w hl (by omega) hS).mono fun e w' ⟨hb, a', c', he, hc, hI, _⟩ => ?_
  rw [hr, hm, hE] at he
  rw [hr, hm] at hc
  rw [hr] at hI
  exact ⟨a', c', he, hc, hI, hb⟩
theorem instead_at (used l : List Int) (id : Int) (au a : Option Addr) (nu cu n c : Nat) (d E : Int) (w : World) (hu : used.length = nu) (hnu : nu ≤ 1000) (hU : IntsAt w au used) (hl : l.length = n) (hn : n ≤ 1000) (hS : IntsAt w a l) (hD : inD used l id = d) (hE : inE used l id = E) :
    Calls Try.prog 12 #[.slice au nu cu, .slice a n c, .int .i64 id] w fun e w' => e = .returned (.tuple #[.int .i64 d, .int .i64 E]) ∧ Below w.heap.size w w' := by
  refine (instead_any used l id au a nu cu n c w hu (by omega) hU hl (by omega) hS).mono fun e w' ⟨he, hb⟩ => ?_
  rw [hD, hE] at he
  exact ⟨he, hb⟩
theorem locs_block {w : World} {b : Nat} {l : List (Int × Int)} {t : TypeId} (h : w.heap[b]? = some (.cells (lcV l).toArray t (0, 0))) : LocsAt w (some ⟨b, 0, none⟩) l :=
  .inr ⟨b, 0, rfl, lt_of_block h, fun i x hx => ⟨by rw [cell_of_block h, Nat.zero_add]; simpa using (lcV_at hx).1, by rw [cell_of_block h, Nat.zero_add]; simpa using (lcV_at hx).2⟩⟩
theorem vol_block {w : World} {b : Nat} {x : Vol} {t : TypeId} (h : w.heap[b]? = some (.cells #[.int .i64 x.id, .int .i64 x.gen, .int .i64 x.len, .slice x.a x.n x.c] t (0, 0))) (hi : VolIs w x) : VolsAt w (some ⟨b, 0, none⟩) [x] :=
  .inr ⟨b, 0, rfl, lt_of_block h, fun i y hy => by
    match i, hy with
    | 0, hy =>
      obtain rfl : x = y := by simpa using hy
      exact ⟨⟨cell_of_block h, cell_of_block h, cell_of_block h, cell_of_block h⟩, hi⟩⟩
theorem load_live (w : World) : Calls Try.prog 17 #[.slice (some ⟨w.heap.size + 1, 0, none⟩) 1 1] ((w.alloc (.cells #[.int .i64 3, .int .i64 0, .int .i64 3, .int .i64 1, .int .i64 12, .int .i64 0] 45)).alloc (.cells #[.int .i64 0, .int .i64 0, .int .i64 0, .slice (some ⟨w.heap.size, 0, none⟩) 3 3] 36)) fun e w' => ∃ g, e = .returned (.slice (some ⟨g, 0, none⟩) 12 12) ∧ w'.cell? ⟨g, 3, none⟩ = some (.int .i64 2) ∧ g < w'.heap.size ∧ Below w.heap.size w w' := by
  have hb : Below w.heap.size w ((w.alloc (.cells #[.int .i64 3, .int .i64 0, .int .i64 3, .int .i64 1, .int .i64 12, .int .i64 0] 45)).alloc (.cells #[.int .i64 0, .int .i64 0, .int .i64 0, .slice (some ⟨w.heap.size, 0, none⟩) 3 3] 36)) := ((Below.refl _ w).alloc (Nat.le_refl _) _).alloc (by rw [World.size_alloc]; omega) _
  have hlb : ((w.alloc (.cells #[.int .i64 3, .int .i64 0, .int .i64 3, .int .i64 1, .int .i64 12, .int .i64 0] 45)).alloc (.cells #[.int .i64 0, .int .i64 0, .int .i64 0, .slice (some ⟨w.heap.size, 0, none⟩) 3 3] 36)).heap[w.heap.size]? = some (.cells (lcV [(3, 0), (3, 1), (12, 0)]).toArray 45 (0, 0)) := (Below.heap_alloc _ _ _ (by rw [World.size_alloc]; omega)).trans (heap_alloc_new w _)
  have hvb : ((w.alloc (.cells #[.int .i64 3, .int .i64 0, .int .i64 3, .int .i64 1, .int .i64 12, .int .i64 0] 45)).alloc (.cells #[.int .i64 0, .int .i64 0, .int .i64 0, .slice (some ⟨w.heap.size, 0, none⟩) 3 3] 36)).heap[w.heap.size + 1]? = some (.cells #[.int .i64 0, .int .i64 0, .int .i64 0, .slice (some ⟨w.heap.size, 0, none⟩) 3 3] 36 (0, 0)) := by
    have := heap_alloc_new (w.alloc (.cells #[.int .i64 3, .int .i64 0, .int .i64 3, .int .i64 1, .int .i64 12, .int .i64 0] 45)) (.cells #[.int .i64 0, .int .i64 0, .int .i64 0, .slice (some ⟨w.heap.size, 0, none⟩) 3 3] 36)
    rwa [World.size_alloc] at this
  have hv := vol_block (x := ⟨0, 0, 0, some ⟨w.heap.size, 0, none⟩, 3, 3, [(3, 0), (3, 1), (12, 0)]⟩) hvb ⟨rfl, by show 3 ≤ _; omega, locs_block hlb⟩
  refine (load_any _ 1 1 _ _ rfl (by omega) hv (by show allN [[(3, 0), (3, 1), (12, 0)]] ≤ _; decide)).mono fun e w' ⟨g, he, hg, hc, hb'⟩ => ?_
  exact ⟨g, he, hc.cell (d := 3) (by omega), hc.lt, hb.trans (hb'.mono hb.size)⟩
theorem even_live (w : World) : Calls Try.prog 15 #[.slice (some ⟨w.heap.size + 1, 0, none⟩) 1 1, .slice (some ⟨w.heap.size + 1 + 1, 0, none⟩) 2 2] (((w.alloc (.cells #[.int .i64 3, .int .i64 0, .int .i64 3, .int .i64 0] 45)).alloc (.cells #[.int .i64 0, .int .i64 0, .int .i64 0, .slice (some ⟨w.heap.size, 0, none⟩) 2 2] 36)).alloc (.cells #[.int .i64 2, .int .i64 3] 3)) fun e w' => e = .returned (.tuple #[.int .i64 3, .int .i64 2, .bool true]) ∧ Below w.heap.size w w' := by
  have hb : Below w.heap.size w (((w.alloc (.cells #[.int .i64 3, .int .i64 0, .int .i64 3, .int .i64 0] 45)).alloc (.cells #[.int .i64 0, .int .i64 0, .int .i64 0, .slice (some ⟨w.heap.size, 0, none⟩) 2 2] 36)).alloc (.cells #[.int .i64 2, .int .i64 3] 3)) := (((Below.refl _ w).alloc (Nat.le_refl _) _).alloc (by rw [World.size_alloc]; omega) _).alloc (by rw [World.size_alloc, World.size_alloc]; omega) _
  have hlb : (((w.alloc (.cells #[.int .i64 3, .int .i64 0, .int .i64 3, .int .i64 0] 45)).alloc (.cells #[.int .i64 0, .int .i64 0, .int .i64 0, .slice (some ⟨w.heap.size, 0, none⟩) 2 2] 36)).alloc (.cells #[.int .i64 2, .int .i64 3] 3)).heap[w.heap.size]? = some (.cells (lcV [(3, 0), (3, 0)]).toArray 45 (0, 0)) := (Below.heap_alloc _ _ _ (by rw [World.size_alloc, World.size_alloc]; omega)).trans ((Below.heap_alloc _ _ _ (by rw [World.size_alloc]; omega)).trans (heap_alloc_new w _))
  have hvb : (((w.alloc (.cells #[.int .i64 3, .int .i64 0, .int .i64 3, .int .i64 0] 45)).alloc (.cells #[.int .i64 0, .int .i64 0, .int .i64 0, .slice (some ⟨w.heap.size, 0, none⟩) 2 2] 36)).alloc (.cells #[.int .i64 2, .int .i64 3] 3)).heap[w.heap.size + 1]? = some (.cells #[.int .i64 0, .int .i64 0, .int .i64 0, .slice (some ⟨w.heap.size, 0, none⟩) 2 2] 36 (0, 0)) := by
    have := heap_alloc_new (w.alloc (.cells #[.int .i64 3, .int .i64 0, .int .i64 3, .int .i64 0] 45)) (.cells #[.int .i64 0, .int .i64 0, .int .i64 0, .slice (some ⟨w.heap.size, 0, none⟩) 2 2] 36)
    rw [World.size_alloc] at this
    exact (Below.heap_alloc _ _ _ (by rw [World.size_alloc, World.size_alloc]; omega)).trans this
  have hnb := heap_alloc_new ((w.alloc (.cells #[.int .i64 3, .int .i64 0, .int .i64 3, .int .i64 0] 45)).alloc (.cells #[.int .i64 0, .int .i64 0, .int .i64 0, .slice (some ⟨w.heap.size, 0, none⟩) 2 2] 36)) (.cells #[.int .i64 2, .int .i64 3] 3)
  rw [World.size_alloc, World.size_alloc] at hnb
  have hv := vol_block (x := ⟨0, 0, 0, some ⟨w.heap.size, 0, none⟩, 2, 2, [(3, 0), (3, 0)]⟩) hvb ⟨rfl, by show 2 ≤ _; omega, locs_block hlb⟩
  have hi := ints_block (l := [2, 3]) hnb
  refine (even_any _ _ 1 1 2 2 [2, 3] _ _ rfl (by omega) hv (by show allN [[(3, 0), (3, 0)]] ≤ _; decide) rfl (by omega) hi).mono fun e w' ⟨he, hb'⟩ => ?_
  refine ⟨?_, hb.trans (hb'.mono hb.size)⟩
  rw [he]
  show Ending.returned (.tuple #[.int .i64 (evM [[(3, 0), (3, 0)]] [2, 3]), .int .i64 (evL [[(3, 0), (3, 0)]] [2, 3]), .bool (evU [[(3, 0), (3, 0)]] [2, 3])]) = _
  rw [show evM [[(3, 0), (3, 0)]] [2, 3] = 3 by decide, show evL [[(3, 0), (3, 0)]] [2, 3] = 2 by decide, show evU [[(3, 0), (3, 0)]] [2, 3] = true by decide]
set_option maxRecDepth 100000 in
set_option maxHeartbeats 4000000 in
theorem live_any (w : World) : Calls Try.prog 9 #[] w fun e w' => e = .returned (.bool true) ∧ Below w.heap.size w w' := by
  go_enter Try.func9, Try.ntmps9
  go_wp2_with fail
  refine (all_any _).mono ?_
  rintro e w1 ⟨rfl, hI1, hb1⟩
  have HI1 := hide hI1
  have HB1 := hide hb1
  clear hI1 hb1
  go_wp2_with fail
  refine (choose_at 1 0 _ 12 12 all12 [5, 6, 7, 8, 9, 10, 11, 0, 1] 9 0 _ rfl (by omega) HI1.out (by decide) rfl (by decide)).mono ?_
  rintro e w2 ⟨a2, c2, rfl, hc2, hI2, hb2⟩
  have HI2 := hide hI2
  have HB2 : Hid (Below w.heap.size w w2) := HB1.out.trans (hb2.mono HB1.out.size)
  clear hI2 hb2 HI1 HB1
  go_wp2_with fail
  refine (all_any _).mono ?_
  rintro e w3 ⟨rfl, hI3, hb3⟩
  have HI3 := hide hI3
  have HB3 : Hid (Below w.heap.size w w3) := HB2.out.trans (hb3.mono HB2.out.size)
  have HI2' := hide (HI2.out.below hb3)
  clear hI3 hb3 HI2 HB2
  go_wp2_with fail
  refine (choose_at 1 0 _ 8 12 (all12.take 8) [] 0 2 _ rfl (by omega) (HI3.out.take 8) (by decide) rfl (by decide)).mono ?_
  rintro e w4 ⟨a4, c4, rfl, -, -, hb4⟩
  have HB4 : Hid (Below w.heap.size w w4) := HB3.out.trans (hb4.mono HB3.out.size)
  have HI4 := hide (HI2'.out.below hb4)
  clear hb4 HI2' HB3 HI3
  go_wp2_with fail
  refine (all_any _).mono ?_
  rintro e w5 ⟨rfl, hI5, hb5⟩
  have HI5 := hide hI5
  have HB5 : Hid (Below w.heap.size w w5) := HB4.out.trans (hb5.mono HB4.out.size)
  have HJ5 := hide (HI4.out.below hb5)
  clear hI5 hb5 HI4 HB4
  go_wp2_with fail
  refine (choose_at (-1) 0 _ 12 12 all12 [] 0 1 _ rfl (by omega) HI5.out (by decide) rfl (by decide)).mono ?_
  rintro e w6 ⟨a6, c6, rfl, -, -, hb6⟩
  have HB6 : Hid (Below w.heap.size w w6) := HB5.out.trans (hb6.mono HB5.out.size)
  have HJ6 := hide (HJ5.out.below hb6)
  clear hb6 HI5 HB5 HJ5
  go_wp2_with fail
  have hb7 : Below w6.heap.size w6 ((w6.alloc (.cells #[.int .i64 2, .int .i64 3] 3)).alloc (.cells #[.int .i64 1, .int .i64 2, .int .i64 3] 3)) := ((Below.refl _ w6).alloc (Nat.le_refl _) _).alloc (by rw [World.size_alloc]; omega) _
  have HI7 : Hid (IntsAt ((w6.alloc (.cells #[.int .i64 2, .int .i64 3] 3)).alloc (.cells #[.int .i64 1, .int .i64 2, .int .i64 3] 3)) (some ⟨w6.heap.size, 0, none⟩) [2, 3]) := ints_block ((Below.heap_alloc _ _ _ (by rw [World.size_alloc]; omega)).trans (heap_alloc_new w6 _))
  have HK7 : Hid (IntsAt ((w6.alloc (.cells #[.int .i64 2, .int .i64 3] 3)).alloc (.cells #[.int .i64 1, .int .i64 2, .int .i64 3] 3)) (some ⟨w6.heap.size + 1, 0, none⟩) [1, 2, 3]) := ints_block (by have := heap_alloc_new (w6.alloc (.cells #[.int .i64 2, .int .i64 3] 3)) (.cells #[.int .i64 1, .int .i64 2, .int .i64 3] 3); rw [World.size_alloc] at this; exact this)
  have HB7 := hide (HB6.out.trans (hb7.mono HB6.out.size))
  have HJ7 := hide (HJ6.out.below hb7)
  clear hb7 HB6 HJ6
  refine (instead_at [2, 3] [1, 2, 3] 1 _ _ 2 2 3 3 1 0 _ rfl (by omega) HI7.out rfl (by omega) HK7.out (by decide) (by decide)).mono ?_
  rintro e w8 ⟨rfl, hb8⟩
  have HB8 : Hid (Below w.heap.size w w8) := HB7.out.trans (hb8.mono HB7.out.size)
  have HJ8 := hide (HJ7.out.below hb8)
  clear hb8 HB7 HJ7 HI7 HK7
  go_wp2_with fail
  have hb9 : Below w8.heap.size w8 ((w8.alloc (.cells #[.int .i64 1] 3)).alloc (.cells #[.int .i64 1] 3)) := ((Below.refl _ w8).alloc (Nat.le_refl _) _).alloc (by rw [World.size_alloc]; omega) _
  have HI9 : Hid (IntsAt ((w8.alloc (.cells #[.int .i64 1] 3)).alloc (.cells #[.int .i64 1] 3)) (some ⟨w8.heap.size, 0, none⟩) [1]) := ints_block ((Below.heap_alloc _ _ _ (by rw [World.size_alloc]; omega)).trans (heap_alloc_new w8 _))
  have HK9 : Hid (IntsAt ((w8.alloc (.cells #[.int .i64 1] 3)).alloc (.cells #[.int .i64 1] 3)) (some ⟨w8.heap.size + 1, 0, none⟩) [1]) := ints_block (by have := heap_alloc_new (w8.alloc (.cells #[.int .i64 1] 3)) (.cells #[.int .i64 1] 3); rw [World.size_alloc] at this; exact this)
  have HB9 := hide (HB8.out.trans (hb9.mono HB8.out.size))
  have HJ9 := hide (HJ8.out.below hb9)
  clear hb9 HB8 HJ8
  refine (instead_at [1] [1] 0 _ _ 1 1 1 1 0 2 _ rfl (by omega) HI9.out rfl (by omega) HK9.out (by decide) (by decide)).mono ?_
  rintro e w10 ⟨rfl, hb10⟩
  have HB10 : Hid (Below w.heap.size w w10) := HB9.out.trans (hb10.mono HB9.out.size)
  have HJ10 := hide (HJ9.out.below hb10)
  clear hb10 HB9 HJ9 HI9 HK9
  go_wp2_with fail
  refine (load_live w10).mono ?_
  rintro e w11 ⟨g, rfl, hc11, hg11, hb11⟩
  have HB11 : Hid (Below w.heap.size w w11) := HB10.out.trans (hb11.mono HB10.out.size)
  have HJ11 := hide (HJ10.out.below hb11)
  have HC11 := hide hc11
  clear hb11 HB10 HJ10 hc11
  go_wp2_with fail
  refine (even_live w11).mono ?_
  rintro e w12 ⟨rfl, hb12⟩
  have HB12 : Hid (Below w.heap.size w w12) := HB11.out.trans (hb12.mono HB11.out.size)
  have HJ12 := hide (HJ11.out.below hb12)
  have HC12 := hide ((hb12.cell (p := ⟨g, 3, none⟩) hg11).trans HC11.out)
  have hg12 : g < w12.heap.size := Nat.lt_of_lt_of_le hg11 hb12.size
  clear hb12 HB11 HJ11 HC11
  go_wp2_with fail
  have hb13 : Below w12.heap.size w12 (w12.alloc (.cells #[.int .i64 5, .int .i64 6, .int .i64 7, .int .i64 8, .int .i64 9, .int .i64 10, .int .i64 11, .int .i64 0, .int .i64 1] 3)) := (Below.refl _ w12).alloc (Nat.le_refl _) _
  have HI13 : Hid (IntsAt (w12.alloc (.cells #[.int .i64 5, .int .i64 6, .int .i64 7, .int .i64 8, .int .i64 9, .int .i64 10, .int .i64 11, .int .i64 0, .int .i64 1] 3)) (some ⟨w12.heap.size, 0, none⟩) [5, 6, 7, 8, 9, 10, 11, 0, 1]) := ints_block (heap_alloc_new w12 _)
  have HB13 := hide (HB12.out.trans (hb13.mono HB12.out.size))
  have HJ13 := hide (HJ12.out.below hb13)
  have HC13 := hide ((hb13.cell (p := ⟨g, 3, none⟩) hg12).trans HC12.out)
  have hg13 : g < (w12.alloc (.cells #[.int .i64 5, .int .i64 6, .int .i64 7, .int .i64 8, .int .i64 9, .int .i64 10, .int .i64 11, .int .i64 0, .int .i64 1] 3)).heap.size := Nat.lt_of_lt_of_le hg12 hb13.size
  clear hb13 HB12 HJ12 HC12
  refine (ints_same _ _ c2 9 9 [5, 6, 7, 8, 9, 10, 11, 0, 1] _ rfl (by omega) HJ13.out HI13.out).mono ?_
  rintro e w14 ⟨rfl, hb14⟩
  have hc14 := (hb14.cell (p := ⟨g, 3, none⟩) hg13).trans HC13.out
  have HB14 : Hid (Below w.heap.size w w14) := HB13.out.trans (hb14.mono HB13.out.size)
  clear hb14 HB13 HJ13 HC13 HI13
  go_wp2_with fail
  try go_ret
  exact ⟨rfl, HB14.out⟩
end Go.Proofs.Ytleknjjfmklkcaa
