/- What New, Copy, Silent of the model answer; the document's Silent and Small. -/
import Derived.Test.YtlpibpkbgmcclaaDoorMdValue
import Derived.Test.YtlpibpkbgmcclaaDoorIter
import Derived.Handy
namespace Go.Proofs.YtlpibpkbgmcclaaDoor
open Go.RowKit Go.Maps Go.Shelf
set_option linter.unusedVariables false
def T0 : MT := fun _ => none
theorem T0_ok : T0.Ok := fun k h e => by cases e
theorem T0_val (k : ByteArray) : T0.val k = none := rfl
set_option maxRecDepth 100000 in
set_option maxHeartbeats 4000000 in
theorem md_new (w : World) : Calls Tryd.prog 9 #[] w fun e w' => e = .returned (.pointer (some ⟨w.heap.size + 1, 0, none⟩)) ∧ MdAt w' (w.heap.size + 1) w.heap.size 0 T0 ∧ Below w.heap.size w w' := by
  have hmm := @run_makeMap Tryd.prog
  have HM := hide (MAt.made w 9 lStr okS)
  have HB : Hid (Below (w.alloc (.map #[] 0)).heap.size (w.alloc (.map #[] 0)) ((w.alloc (.map #[] 0)).alloc (.cells #[.map (some w.heap.size)] 43))) := (Below.refl _ _).alloc (Nat.le_refl _) _
  have HB0 : Hid (Below w.heap.size w (w.alloc (.map #[] 0))) := (Below.refl _ _).alloc (Nat.le_refl _) _
  go_enter Tryd.func9, Tryd.ntmps9
  go_wp2_with fail
  try go_ret
  refine ⟨by simp, ⟨?_, HM.out.below HB.out, T0_ok⟩, HB0.out.trans (HB.out.mono (by rw [World.size_alloc]; omega))⟩
  have := heap_alloc_new (w.alloc (.map #[] 0)) (.cells #[.map (some w.heap.size)] 43)
  rw [World.size_alloc] at this
  exact this
theorem MAt.clone {w w' : World} {b b' n : Nat} {α : Type} {kf : α → Lit} {ok : α → Prop} {f : α → Option Value} (h : MAt w 9 b n kf ok f) (hc : ∀ D : DataW Value, w.ownsMap Tryd.prog 9 hv b n D → w'.ownsMap Tryd.prog 9 hv b' n D) : MAt w' 9 b' n kf ok f := by
  obtain ⟨D, h1, h2⟩ := h
  exact ⟨D, hc D h1, h2⟩
set_option maxRecDepth 100000 in
set_option maxHeartbeats 4000000 in
theorem md_copy {w : World} {x b n : Nat} {T : MT} (h : MdAt w x b n T) : Calls Tryd.prog 12 #[.pointer (some ⟨x, 0, none⟩)] w fun e w' => ∃ y, e = .returned (.pointer (some ⟨y, 0, none⟩)) ∧ MdAt w' y w.heap.size n T ∧ w.heap.size ≤ y ∧ Below w.heap.size w w' := by
  have c0 := h.c0
  have HO := hide h.ok
  obtain ⟨D, h1, h2⟩ := h.m
  have HC := hide (AnyW.maps_Clone_owns (ρ := Tryd.cloneH_ren) { Tryd.cloneH with } 9 hv b n D w h1)
  have H2 := hide h2
  have HC' : Hid (Calls Tryd.prog 23 #[.map (some b)] w fun e w' => e = .returned (.map (some w.heap.size)) ∧ w'.ownsMap Tryd.prog 9 hv w.heap.size n D ∧ w'.ownsMap Tryd.prog 9 hv b n D ∧ Below w.heap.size w w') := HC.out
  clear h h1 h2 HC
  go_enter Tryd.func12, Tryd.ntmps12
  go_wp2_with fail
  refine HC'.out.mono ?_
  rintro e w1 ⟨rfl, hm, _, hb⟩
  have HM : Hid (MAt w1 9 w.heap.size n lStr okS (fun k => (T k).map hdV)) := ⟨D, hm, H2.out⟩
  have HB := hide hb
  clear hm hb
  go_wp2_with fail
  try go_ret
  have hb2 : Below w1.heap.size w1 (w1.alloc (.cells #[.map (some w.heap.size)] 43)) := (Below.refl _ _).alloc (Nat.le_refl _) _
  exact ⟨w1.heap.size, rfl, ⟨heap_alloc_new _ _, HM.out.below hb2, HO.out⟩, HB.out.size, HB.out.trans (hb2.mono HB.out.size)⟩
set_option maxRecDepth 100000 in
set_option maxHeartbeats 4000000 in
theorem md_copy_nil (w : World) : Calls Tryd.prog 12 #[.pointer none] w fun e w' => e = .returned (.pointer none) ∧ Below w.heap.size w w' := by
  go_enter Tryd.func12, Tryd.ntmps12
  go_wp2_with fail
  try go_ret
  exact ⟨rfl, Below.refl _ _⟩
def silB (e : Int) : Bool := decide (e = 2 ∨ e = 7 ∨ e = 8 ∨ e = 10)
set_option maxRecDepth 100000 in
set_option maxHeartbeats 4000000 in
theorem md_silent (e : Int) (w : World) : Calls Tryd.prog 14 #[.int .i64 e] w fun r w' => r = .returned (.bool (silB e)) ∧ w' = w := by
  by_cases h2 : e = 2
  · subst h2; go_enter Tryd.func14, Tryd.ntmps14; go_wp2_with fail; try go_ret
    exact ⟨rfl, rfl⟩
  by_cases h7 : e = 7
  · subst h7; go_enter Tryd.func14, Tryd.ntmps14; go_wp2_with fail; try go_ret
    exact ⟨rfl, rfl⟩
  by_cases h8 : e = 8
  · subst h8; go_enter Tryd.func14, Tryd.ntmps14; go_wp2_with fail; try go_ret
    exact ⟨rfl, rfl⟩
  by_cases h10 : e = 10
  · subst h10; go_enter Tryd.func14, Tryd.ntmps14; go_wp2_with fail; try go_ret
    exact ⟨rfl, rfl⟩
  have HF : Hid (silB e = false) := by show _ = _; unfold silB; simp [h2, h7, h8, h10]
  have b2 : (e == 2) = false := by simpa using h2
  have b7 : (e == 7) = false := by simpa using h7
  have b8 : (e == 8) = false := by simpa using h8
  have b10 : (e == 10) = false := by simpa using h10
  clear h2 h7 h8 h10
  go_enter Tryd.func14, Tryd.ntmps14
  go_wp2_with fail
  try go_ret
  exact ⟨ret_val (by rw [HF.out]; rfl), rfl⟩
set_option maxRecDepth 100000 in
set_option maxHeartbeats 4000000 in
theorem rf_silent (e : Int) (w : World) : Calls Tryd.prog 15 #[.int .i64 e] w fun r w' => r = .returned (.bool (silB e)) ∧ w' = w := by
  by_cases h2 : e = 2
  · subst h2; go_enter Tryd.func15, Tryd.ntmps15; go_wp2_with fail; try go_ret
    exact ⟨rfl, rfl⟩
  by_cases h7 : e = 7
  · subst h7; go_enter Tryd.func15, Tryd.ntmps15; go_wp2_with fail; try go_ret
    exact ⟨rfl, rfl⟩
  by_cases h8 : e = 8
  · subst h8; go_enter Tryd.func15, Tryd.ntmps15; go_wp2_with fail; try go_ret
    exact ⟨rfl, rfl⟩
  by_cases h10 : e = 10
  · subst h10; go_enter Tryd.func15, Tryd.ntmps15; go_wp2_with fail; try go_ret
    exact ⟨rfl, rfl⟩
  have HF : Hid (silB e = false) := by show _ = _; unfold silB; simp [h2, h7, h8, h10]
  have b2 : (e == 2) = false := by simpa using h2
  have b7 : (e == 7) = false := by simpa using h7
  have b8 : (e == 8) = false := by simpa using h8
  have b10 : (e == 10) = false := by simpa using h10
  clear h2 h7 h8 h10
  go_enter Tryd.func15, Tryd.ntmps15
  go_wp2_with fail
  try go_ret
  exact ⟨ret_val (by rw [HF.out]; rfl), rfl⟩
/-- requests that the laws take -/
def smB (r : Rq) : Bool := decide (r.k.size ≤ 100) && decide (r.v.size ≤ 500)
set_option maxRecDepth 100000 in
set_option maxHeartbeats 4000000 in
theorem rf_small (r : Rq) (w : World) : Calls Tryd.prog 7 #[.agg (rqs r)] w fun e w' => e = .returned (.bool (smB r)) ∧ Below w.heap.size w w' := by
  obtain ⟨d, k, v⟩ := r
  simp only [rqs]
  have HB : Hid (Below w.heap.size w (w.alloc (.cells #[.int .i64 d, .string k, .string v] 24))) := (Below.refl _ _).alloc (Nat.le_refl _) _
  by_cases h1 : k.size ≤ 100
  · by_cases h2 : v.size ≤ 500
    · have HF : Hid (smB ⟨d, k, v⟩ = true) := by show _ = _; unfold smB; simp [h1, h2]
      have g1 : (k.size : Int) ≤ 100 := by omega
      have g2 : (v.size : Int) ≤ 500 := by omega
      clear h1 h2
      go_enter Tryd.func7, Tryd.ntmps7
      go_wp2_with fail
      try go_ret
      exact ⟨ret_val (by rw [HF.out]; rfl), HB.out⟩
    · have HF : Hid (smB ⟨d, k, v⟩ = false) := by show _ = _; unfold smB; simp [h1, h2]
      have g1 : (k.size : Int) ≤ 100 := by omega
      have g2 : ¬ (v.size : Int) ≤ 500 := by omega
      clear h1 h2
      go_enter Tryd.func7, Tryd.ntmps7
      go_wp2_with fail
      try go_ret
      exact ⟨ret_val (by rw [HF.out]; rfl), HB.out⟩
  · have HF : Hid (smB ⟨d, k, v⟩ = false) := by show _ = _; unfold smB; simp [h1]
    have g1 : ¬ (k.size : Int) ≤ 100 := by omega
    clear h1
    go_enter Tryd.func7, Tryd.ntmps7
    go_wp2_with fail
    try go_ret
    exact ⟨ret_val (by rw [HF.out]; rfl), HB.out⟩
end Go.Proofs.YtlpibpkbgmcclaaDoor
