/- What New and Silent of the model answer; the document's Small. -/
import Derived.Test.YtlpibpkbgmcclaaGreatDoorMdMemX
import Derived.Handy
namespace Go.Proofs.YtlpibpkbgmcclaaGreatDoor
open Go.RowKit
set_option linter.unusedVariables false
def T0 : MT := fun _ => none
theorem T0_ok : T0.Ok := fun k h e => by cases e
theorem T0_val (k : ByteArray) : T0.val k = none := rfl
set_option maxRecDepth 100000 in
set_option maxHeartbeats 4000000 in
theorem md_new (w : World) : Calls Tryz.prog 5 #[] w fun e w' => e = .returned (.pointer (some ⟨w.heap.size + 1, 0, none⟩)) ∧ MdAt w' (w.heap.size + 1) w.heap.size 0 T0 ∧ Below w.heap.size w w' := by
  have hmm := @run_makeMap Tryz.prog
  have HM := hide (MAt.made w 9 lStr okS)
  have HB : Hid (Below (w.alloc (.map #[] 0)).heap.size (w.alloc (.map #[] 0)) ((w.alloc (.map #[] 0)).alloc (.cells #[.map (some w.heap.size)] 44))) := (Below.refl _ _).alloc (Nat.le_refl _) _
  have HB0 : Hid (Below w.heap.size w (w.alloc (.map #[] 0))) := (Below.refl _ _).alloc (Nat.le_refl _) _
  go_enter Tryz.func5, Tryz.ntmps5
  go_wp2_with fail
  try go_ret
  refine ⟨by simp, ⟨?_, HM.out.below HB.out, T0_ok⟩, HB0.out.trans (HB.out.mono (by rw [World.size_alloc]; omega))⟩
  have := heap_alloc_new (w.alloc (.map #[] 0)) (.cells #[.map (some w.heap.size)] 44)
  rw [World.size_alloc] at this
  exact this
def silB (e : Int) : Bool := decide (e = 2 ∨ e = 7 ∨ e = 8 ∨ e = 10)
set_option maxRecDepth 100000 in
set_option maxHeartbeats 4000000 in
theorem md_silent (e : Int) (w : World) : Calls Tryz.prog 12 #[.int .i64 e] w fun r w' => r = .returned (.bool (silB e)) ∧ w' = w := by
  by_cases h2 : e = 2
  · subst h2; go_enter Tryz.func12, Tryz.ntmps12; go_wp2_with fail; try go_ret
    exact ⟨rfl, rfl⟩
  by_cases h7 : e = 7
  · subst h7; go_enter Tryz.func12, Tryz.ntmps12; go_wp2_with fail; try go_ret
    exact ⟨rfl, rfl⟩
  by_cases h8 : e = 8
  · subst h8; go_enter Tryz.func12, Tryz.ntmps12; go_wp2_with fail; try go_ret
    exact ⟨rfl, rfl⟩
  by_cases h10 : e = 10
  · subst h10; go_enter Tryz.func12, Tryz.ntmps12; go_wp2_with fail; try go_ret
    exact ⟨rfl, rfl⟩
  have HF : Hid (silB e = false) := by show _ = _; unfold silB; simp [h2, h7, h8, h10]
  have b2 : (e == 2) = false := by simpa using h2
  have b7 : (e == 7) = false := by simpa using h7
  have b8 : (e == 8) = false := by simpa using h8
  have b10 : (e == 10) = false := by simpa using h10
  clear h2 h7 h8 h10
  go_enter Tryz.func12, Tryz.ntmps12
  go_wp2_with fail
  try go_ret
  exact ⟨ret_val (by rw [HF.out]; rfl), rfl⟩
/-- requests that the laws take -/
def smB (r : Rq) : Bool := decide (r.k.size ≤ 100) && decide (r.v.size ≤ 500)
set_option maxRecDepth 100000 in
set_option maxHeartbeats 4000000 in
theorem rf_small (r : Rq) (w : World) : Calls Tryz.prog 6 #[.agg (rqs r)] w fun e w' => e = .returned (.bool (smB r)) ∧ Below w.heap.size w w' := by
  obtain ⟨d, k, v⟩ := r
  simp only [rqs]
  have HB : Hid (Below w.heap.size w (w.alloc (.cells #[.int .i64 d, .string k, .string v] 32))) := (Below.refl _ _).alloc (Nat.le_refl _) _
  by_cases h1 : k.size ≤ 100
  · by_cases h2 : v.size ≤ 500
    · have HF : Hid (smB ⟨d, k, v⟩ = true) := by show _ = _; unfold smB; simp [h1, h2]
      have g1 : (k.size : Int) ≤ 100 := by omega
      have g2 : (v.size : Int) ≤ 500 := by omega
      clear h1 h2
      go_enter Tryz.func6, Tryz.ntmps6
      go_wp2_with fail
      try go_ret
      exact ⟨ret_val (by rw [HF.out]; rfl), HB.out⟩
    · have HF : Hid (smB ⟨d, k, v⟩ = false) := by show _ = _; unfold smB; simp [h1, h2]
      have g1 : (k.size : Int) ≤ 100 := by omega
      have g2 : ¬ (v.size : Int) ≤ 500 := by omega
      clear h1 h2
      go_enter Tryz.func6, Tryz.ntmps6
      go_wp2_with fail
      try go_ret
      exact ⟨ret_val (by rw [HF.out]; rfl), HB.out⟩
  · have HF : Hid (smB ⟨d, k, v⟩ = false) := by show _ = _; unfold smB; simp [h1]
    have g1 : ¬ (k.size : Int) ≤ 100 := by omega
    clear h1
    go_enter Tryz.func6, Tryz.ntmps6
    go_wp2_with fail
    try go_ret
    exact ⟨ret_val (by rw [HF.out]; rfl), HB.out⟩
end Go.Proofs.YtlpibpkbgmcclaaGreatDoor
