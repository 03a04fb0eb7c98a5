/- Records handed from one package to the other; which are small; what layer 11's live answers: true. -/
import Derived.Test.YthepgheiohfhdaaRcRead
namespace Go.Proofs.Ythepgheiohfhdaa
open Go.RowKit
set_option linter.unusedVariables false
set_option maxRecDepth 100000 in
set_option maxHeartbeats 4000000 in
theorem own_any (r : Rc) (a : Option Addr) (c : Nat) (w : World) : Calls Try.prog 12 #[.agg (rcs r a c)] w fun e w' => e = .returned (.agg (rcs r a c)) ∧ Below w.heap.size w w' := by
  have hal : Below w.heap.size w ((w.alloc (.cells (rcs r a c) 28)).alloc (.cells #[.int .i64 0, .int .i64 0, .int .i64 0, .int .i64 0, .int .i64 0, .slice none 0 0, .string { data := #[] }, .int .i64 0, .int .i64 0, .int .i64 0, .string { data := #[] }, .string { data := #[] }, .int .i64 0, .int .i64 0] 34)) := (((Below.refl _ _).alloc (Nat.le_refl _) _).alloc (by rw [World.size_alloc]; omega) _)
  have HB := hide hal
  have HR : Hid (RBx w.heap.size 28 r a c ((w.alloc (.cells (rcs r a c) 28)).alloc (.cells #[.int .i64 0, .int .i64 0, .int .i64 0, .int .i64 0, .int .i64 0, .slice none 0 0, .string { data := #[] }, .int .i64 0, .int .i64 0, .int .i64 0, .string { data := #[] }, .string { data := #[] }, .int .i64 0, .int .i64 0] 34))) := (rbx_new _ r a c w).below ((Below.refl _ _).alloc (Nat.le_refl _) _) (by rw [World.size_alloc]; omega)
  have HZ : Hid (RBx (w.heap.size + 1) 34 Rc.zero none 0 ((w.alloc (.cells (rcs r a c) 28)).alloc (.cells #[.int .i64 0, .int .i64 0, .int .i64 0, .int .i64 0, .int .i64 0, .slice none 0 0, .string { data := #[] }, .int .i64 0, .int .i64 0, .int .i64 0, .string { data := #[] }, .string { data := #[] }, .int .i64 0, .int .i64 0] 34))) := by
    have q := rbx_new 34 Rc.zero none 0 (w.alloc (.cells (rcs r a c) 28))
    rw [World.size_alloc] at q
    exact q
  clear hal
  go_enter Try.func12, Try.ntmps12
  go_upto_region 1 with fail
  generalize (w.alloc (.cells (rcs r a c) 28)).alloc (.cells #[.int .i64 0, .int .i64 0, .int .i64 0, .int .i64 0, .int .i64 0, .slice none 0 0, .string { data := #[] }, .int .i64 0, .int .i64 0, .int .i64 0, .string { data := #[] }, .string { data := #[] }, .int .i64 0, .int .i64 0] 34) = W at *
  obtain ⟨c0, c1, c2, c3, c4, c5, c6, c7, c8, c9, c10, c11, c12, c13⟩ := HR.out.cells
  go_wp2_with (first | (refine wpList_store_row rfl 34 (.tmp 2) (.tmp 17) rfl (w.heap.size + 1) (rcs r a c) rfl rfl 34 (rcs Rc.zero none 0) HZ.out rec_info rfl (rcs_one _ _ _) ?_))
  refine bodyPost_ret (res_rec rfl _ _ (w.heap.size + 1) r a c rfl (HZ.out.row _ _ _)) rfl ⟨rfl, below_setRow HB.out (by omega) _⟩
set_option maxRecDepth 100000 in
set_option maxHeartbeats 4000000 in
theorem told_any (r : Rc) (a : Option Addr) (c : Nat) (w : World) : Calls Try.prog 22 #[.agg (rcs r a c)] w fun e w' => e = .returned (.agg (rcs r a c)) ∧ Below w.heap.size w w' := by
  have hal : Below w.heap.size w ((w.alloc (.cells (rcs r a c) 34)).alloc (.cells #[.int .i64 0, .int .i64 0, .int .i64 0, .int .i64 0, .int .i64 0, .slice none 0 0, .string { data := #[] }, .int .i64 0, .int .i64 0, .int .i64 0, .string { data := #[] }, .string { data := #[] }, .int .i64 0, .int .i64 0] 28)) := (((Below.refl _ _).alloc (Nat.le_refl _) _).alloc (by rw [World.size_alloc]; omega) _)
  have HB := hide hal
  have HR : Hid (RBx w.heap.size 34 r a c ((w.alloc (.cells (rcs r a c) 34)).alloc (.cells #[.int .i64 0, .int .i64 0, .int .i64 0, .int .i64 0, .int .i64 0, .slice none 0 0, .string { data := #[] }, .int .i64 0, .int .i64 0, .int .i64 0, .string { data := #[] }, .string { data := #[] }, .int .i64 0, .int .i64 0] 28))) := (rbx_new _ r a c w).below ((Below.refl _ _).alloc (Nat.le_refl _) _) (by rw [World.size_alloc]; omega)
  have HZ : Hid (RBx (w.heap.size + 1) 28 Rc.zero none 0 ((w.alloc (.cells (rcs r a c) 34)).alloc (.cells #[.int .i64 0, .int .i64 0, .int .i64 0, .int .i64 0, .int .i64 0, .slice none 0 0, .string { data := #[] }, .int .i64 0, .int .i64 0, .int .i64 0, .string { data := #[] }, .string { data := #[] }, .int .i64 0, .int .i64 0] 28))) := by
    have q := rbx_new 28 Rc.zero none 0 (w.alloc (.cells (rcs r a c) 34))
    rw [World.size_alloc] at q
    exact q
  clear hal
  go_enter Try.func22, Try.ntmps22
  go_upto_region 1 with fail
  generalize (w.alloc (.cells (rcs r a c) 34)).alloc (.cells #[.int .i64 0, .int .i64 0, .int .i64 0, .int .i64 0, .int .i64 0, .slice none 0 0, .string { data := #[] }, .int .i64 0, .int .i64 0, .int .i64 0, .string { data := #[] }, .string { data := #[] }, .int .i64 0, .int .i64 0] 28) = W at *
  obtain ⟨c0, c1, c2, c3, c4, c5, c6, c7, c8, c9, c10, c11, c12, c13⟩ := HR.out.cells
  go_wp2_with (first | (refine wpList_store_row rfl 28 (.tmp 2) (.tmp 17) rfl (w.heap.size + 1) (rcs r a c) rfl rfl 28 (rcs Rc.zero none 0) HZ.out ref_info rfl (rcs_one _ _ _) ?_))
  refine bodyPost_ret (res_ref rfl _ _ (w.heap.size + 1) r a c rfl (HZ.out.row _ _ _)) rfl ⟨rfl, below_setRow HB.out (by omega) _⟩
/-- few places, short texts -/
def smlB (r : Rc) : Bool := decide (r.ls.length ≤ 20) && (decide (r.ek.size ≤ 100) && (decide (r.ed.size ≤ 100) && decide (r.k.size ≤ 100)))
theorem smlB_iff {r : Rc} : smlB r = true ↔ r.ls.length ≤ 20 ∧ r.ek.size ≤ 100 ∧ r.ed.size ≤ 100 ∧ r.k.size ≤ 100 := by unfold smlB; simp
/-- what came in lies within the machine's reach -/
def Rc.cm (r : Rc) : Prop := r.ls.length ≤ 9223372036854775807 ∧ r.ek.size ≤ 9223372036854775807 ∧ r.ed.size ≤ 9223372036854775807 ∧ r.k.size ≤ 9223372036854775807 ∧ (-9223372036854775808 ≤ r.eo ∧ r.eo ≤ 9223372036854775807)
theorem small_fit {r : Rc} (hc : r.cm) (h : smlB r = true) : r.fit := by
  obtain ⟨h1, h2, h3, h4⟩ := smlB_iff.1 h
  exact ⟨by omega, by omega, by omega, by omega, hc.2.2.2.2⟩
set_option maxRecDepth 100000 in
set_option maxHeartbeats 4000000 in
theorem small_any (r : Rc) (a : Option Addr) (c : Nat) (w : World) (hc : r.cm) : Calls Try.prog 9 #[.agg (rcs r a c)] w fun e w' => e = .returned (.bool (smlB r)) ∧ Below w.heap.size w w' := by
  have HB : Hid (Below w.heap.size w (w.alloc (.cells (rcs r a c) 28))) := (Below.refl _ _).alloc (Nat.le_refl _) _
  have HR := hide (rbx_new 28 r a c w)
  obtain ⟨m1, m2, m3, m4, m5⟩ := hc
  have main : ∀ b1 b2 b3 b4 : Bool, decide (r.ls.length ≤ 20) = b1 → decide (r.ek.size ≤ 100) = b2 → decide (r.ed.size ≤ 100) = b3 → decide (r.k.size ≤ 100) = b4 → Calls Try.prog 9 #[.agg (rcs r a c)] w fun e w' => e = .returned (.bool (b1 && (b2 && (b3 && b4)))) ∧ Below w.heap.size w w' := by
    intro b1 b2 b3 b4 p1 p2 p3 p4
    have q1 : decide ((r.ls.length : Int) ≤ 20) = b1 := by rw [← p1]; congr 1; simp; omega
    have q2 : decide ((r.ek.size : Int) ≤ 100) = b2 := by rw [← p2]; congr 1; simp; omega
    have q3 : decide ((r.ed.size : Int) ≤ 100) = b3 := by rw [← p3]; congr 1; simp; omega
    have q4 : decide ((r.k.size : Int) ≤ 100) = b4 := by rw [← p4]; congr 1; simp; omega
    go_enter Try.func9, Try.ntmps9
    go_upto_region 1 with fail
    generalize w.alloc (.cells (rcs r a c) 28) = W at *
    have c5 := HR.out.c5
    have c6 := HR.out.c6
    have c10 := HR.out.c10
    have c11 := HR.out.c11
    cases b1
    · go_wp2_with fail
      try go_ret
      exact ⟨rfl, HB.out⟩
    cases b2
    · go_wp2_with fail
      try go_ret
      exact ⟨rfl, HB.out⟩
    cases b3
    · go_wp2_with fail
      try go_ret
      exact ⟨rfl, HB.out⟩
    cases b4
    all_goals
      go_wp2_with fail
      try go_ret
      exact ⟨rfl, HB.out⟩
  exact main _ _ _ _ rfl rfl rfl rfl
end Go.Proofs.Ythepgheiohfhdaa
