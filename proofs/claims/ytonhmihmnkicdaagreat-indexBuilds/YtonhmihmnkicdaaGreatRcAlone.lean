/- What (parts).alone answers; the document's only. -/
import Derived.Test.YtonhmihmnkicdaaGreatRcSame
import Derived.Test.YtonhmihmnkicdaaGreatRcSmall
namespace Go.Proofs.YtonhmihmnkicdaaGreat
open Go.RowKit
set_option linter.unusedVariables false
def alA (r : Rc) (a : Option Addr) : Option Addr := if r.kind = 1 then none else a
def alC (r : Rc) (c : Nat) : Nat := if r.kind = 1 then 0 else c
theorem alone_locs {r : Rc} {a : Option Addr} {w : World} (h : LocsAt w a r.ls) : LocsAt w (alA r a) r.alone.ls ∧ r.alone.ls.length ≤ r.ls.length := by
  unfold alA Rc.alone
  by_cases h1 : r.kind = 1
  · rw [if_pos h1, if_neg (by omega), if_pos h1]; exact ⟨.inl rfl, by simp⟩
  · rw [if_neg h1]
    by_cases h0 : r.kind = 0
    · rw [if_pos h0]; exact ⟨h, Nat.le_refl _⟩
    · rw [if_neg h0, if_neg h1]
      by_cases h2 : r.kind = 2
      · rw [if_pos h2]; exact ⟨h, Nat.le_refl _⟩
      · rw [if_neg h2]; exact ⟨h, Nat.le_refl _⟩
theorem rcs_one (r : Rc) (a : Option Addr) (c : Nat) : (rcs r a c).all (·.oneCell') = true := by simp [rcs, Value.oneCell']
theorem RBx.row {bx : Nat} {t : TypeId} {r : Rc} {a : Option Addr} {c : Nat} {w : World} (k : RBx bx t r a c w) (q : Rc) (a2 : Option Addr) (c2 : Nat) : RBx bx t q a2 c2 (w.setRow bx (rcs q a2 c2)) := setRow_heap w bx _ _ _ _ k
set_option maxRecDepth 100000 in
set_option maxHeartbeats 8000000 in
theorem alone_any (r : Rc) (a : Option Addr) (c : Nat) (w : World) (h : r.sqOk) : Calls Tryz.prog 62 #[.agg (prt r.kind), .agg (rcs r a c)] w fun e w' => e = .returned (.agg (rcs r.alone (alA r a) (alC r c))) ∧ Below w.heap.size w w' := by
  have hk := kind_four h
  clear h
  obtain ⟨x1, x2, x3, x4, x5, xl, x6, x7, x8, x9, x10, x11, x12, x13⟩ := r
  simp only at hk
  rcases hk with rfl | hk
  · have HE : Hid (Rc.alone ⟨x1, 0, x3, x4, x5, xl, x6, x7, x8, x9, x10, x11, x12, x13⟩ = ⟨x1, 0, x3, x4, x5, xl, x6, x7, x8, x9, x10, ByteArray.empty, 0, 0⟩) := rfl
    rw [HE.out]
    clear HE
    have HA : Hid (RBx (w.heap.size + 1) 43 ⟨x1, 0, x3, x4, x5, xl, x6, x7, x8, x9, x10, x11, x12, x13⟩ a c (((w.alloc (.cells #[.bool true, .bool true, .bool false, .bool false] 95)).alloc (.cells #[.int .i64 x1, .int .i64 0, .int .i64 x3, .int .i64 x4, .int .i64 x5, .slice a xl.length c, .string x6, .int .i64 x7, .int .i64 x8, .int .i64 x9, .string x10, .string x11, .int .i64 x12, .int .i64 x13] 43)).alloc (.cells #[.int .i64 0, .int .i64 0, .int .i64 0, .int .i64 0, .int .i64 0, .slice none 0 0, .string { data := #[] }, .int .i64 0, .int .i64 0, .int .i64 0, .string { data := #[] }, .string { data := #[] }, .int .i64 0, .int .i64 0] 43))) := by
      unfold Hid
      have q := (rbx_new 43 ⟨x1, 0, x3, x4, x5, xl, x6, x7, x8, x9, x10, x11, x12, x13⟩ a c (w.alloc (.cells #[.bool true, .bool true, .bool false, .bool false] 95))).below ((Below.refl _ _).alloc (Nat.le_refl _) (.cells #[.int .i64 0, .int .i64 0, .int .i64 0, .int .i64 0, .int .i64 0, .slice none 0 0, .string { data := #[] }, .int .i64 0, .int .i64 0, .int .i64 0, .string { data := #[] }, .string { data := #[] }, .int .i64 0, .int .i64 0] 43)) (by simp only [World.size_alloc]; omega)
      rw [World.size_alloc] at q
      exact q
    have HZ : Hid (RBx (w.heap.size + 1 + 1) 43 Rc.zero none 0 (((w.alloc (.cells #[.bool true, .bool true, .bool false, .bool false] 95)).alloc (.cells #[.int .i64 x1, .int .i64 0, .int .i64 x3, .int .i64 x4, .int .i64 x5, .slice a xl.length c, .string x6, .int .i64 x7, .int .i64 x8, .int .i64 x9, .string x10, .string x11, .int .i64 x12, .int .i64 x13] 43)).alloc (.cells #[.int .i64 0, .int .i64 0, .int .i64 0, .int .i64 0, .int .i64 0, .slice none 0 0, .string { data := #[] }, .int .i64 0, .int .i64 0, .int .i64 0, .string { data := #[] }, .string { data := #[] }, .int .i64 0, .int .i64 0] 43))) := by
      unfold Hid
      have q := rbx_new 43 Rc.zero none 0 ((w.alloc (.cells #[.bool true, .bool true, .bool false, .bool false] 95)).alloc (.cells #[.int .i64 x1, .int .i64 0, .int .i64 x3, .int .i64 x4, .int .i64 x5, .slice a xl.length c, .string x6, .int .i64 x7, .int .i64 x8, .int .i64 x9, .string x10, .string x11, .int .i64 x12, .int .i64 x13] 43))
      rw [World.size_alloc, World.size_alloc] at q
      exact q
    have HB : Hid (Below w.heap.size w (((w.alloc (.cells #[.bool true, .bool true, .bool false, .bool false] 95)).alloc (.cells #[.int .i64 x1, .int .i64 0, .int .i64 x3, .int .i64 x4, .int .i64 x5, .slice a xl.length c, .string x6, .int .i64 x7, .int .i64 x8, .int .i64 x9, .string x10, .string x11, .int .i64 x12, .int .i64 x13] 43)).alloc (.cells #[.int .i64 0, .int .i64 0, .int .i64 0, .int .i64 0, .int .i64 0, .slice none 0 0, .string { data := #[] }, .int .i64 0, .int .i64 0, .int .i64 0, .string { data := #[] }, .string { data := #[] }, .int .i64 0, .int .i64 0] 43))) := by
      unfold Hid
      refine Below.alloc (Below.alloc (Below.alloc (Below.refl _ _) (Nat.le_refl _) _) ?_ _) ?_ _ <;> (try simp only [World.size_alloc]) <;> omega
    have HS : Hid ((((w.alloc (.cells #[.bool true, .bool true, .bool false, .bool false] 95)).alloc (.cells #[.int .i64 x1, .int .i64 0, .int .i64 x3, .int .i64 x4, .int .i64 x5, .slice a xl.length c, .string x6, .int .i64 x7, .int .i64 x8, .int .i64 x9, .string x10, .string x11, .int .i64 x12, .int .i64 x13] 43)).alloc (.cells #[.int .i64 0, .int .i64 0, .int .i64 0, .int .i64 0, .int .i64 0, .slice none 0 0, .string { data := #[] }, .int .i64 0, .int .i64 0, .int .i64 0, .string { data := #[] }, .string { data := #[] }, .int .i64 0, .int .i64 0] 43)).heap.size = w.heap.size + 1 + 1 + 1) := by unfold Hid; simp only [World.size_alloc]
    have p0 : (((w.alloc (.cells #[.bool true, .bool true, .bool false, .bool false] 95)).alloc (.cells #[.int .i64 x1, .int .i64 0, .int .i64 x3, .int .i64 x4, .int .i64 x5, .slice a xl.length c, .string x6, .int .i64 x7, .int .i64 x8, .int .i64 x9, .string x10, .string x11, .int .i64 x12, .int .i64 x13] 43)).alloc (.cells #[.int .i64 0, .int .i64 0, .int .i64 0, .int .i64 0, .int .i64 0, .slice none 0 0, .string { data := #[] }, .int .i64 0, .int .i64 0, .int .i64 0, .string { data := #[] }, .string { data := #[] }, .int .i64 0, .int .i64 0] 43)).heap[w.heap.size]? = some (.cells #[.bool true, .bool true, .bool false, .bool false] 95 (0, 0)) := by
      refine (Below.heap_alloc _ _ _ (by simp only [World.size_alloc]; omega)).trans ((Below.heap_alloc _ _ _ (by simp only [World.size_alloc]; omega)).trans (heap_alloc_new w _))
    have d0 : (((w.alloc (.cells #[.bool true, .bool true, .bool false, .bool false] 95)).alloc (.cells #[.int .i64 x1, .int .i64 0, .int .i64 x3, .int .i64 x4, .int .i64 x5, .slice a xl.length c, .string x6, .int .i64 x7, .int .i64 x8, .int .i64 x9, .string x10, .string x11, .int .i64 x12, .int .i64 x13] 43)).alloc (.cells #[.int .i64 0, .int .i64 0, .int .i64 0, .int .i64 0, .int .i64 0, .slice none 0 0, .string { data := #[] }, .int .i64 0, .int .i64 0, .int .i64 0, .string { data := #[] }, .string { data := #[] }, .int .i64 0, .int .i64 0] 43)).cell? ⟨w.heap.size, 0, none⟩ = _ := cell_of_block p0
    have d1 : (((w.alloc (.cells #[.bool true, .bool true, .bool false, .bool false] 95)).alloc (.cells #[.int .i64 x1, .int .i64 0, .int .i64 x3, .int .i64 x4, .int .i64 x5, .slice a xl.length c, .string x6, .int .i64 x7, .int .i64 x8, .int .i64 x9, .string x10, .string x11, .int .i64 x12, .int .i64 x13] 43)).alloc (.cells #[.int .i64 0, .int .i64 0, .int .i64 0, .int .i64 0, .int .i64 0, .slice none 0 0, .string { data := #[] }, .int .i64 0, .int .i64 0, .int .i64 0, .string { data := #[] }, .string { data := #[] }, .int .i64 0, .int .i64 0] 43)).cell? ⟨w.heap.size, 1, none⟩ = _ := cell_of_block p0
    have d2 : (((w.alloc (.cells #[.bool true, .bool true, .bool false, .bool false] 95)).alloc (.cells #[.int .i64 x1, .int .i64 0, .int .i64 x3, .int .i64 x4, .int .i64 x5, .slice a xl.length c, .string x6, .int .i64 x7, .int .i64 x8, .int .i64 x9, .string x10, .string x11, .int .i64 x12, .int .i64 x13] 43)).alloc (.cells #[.int .i64 0, .int .i64 0, .int .i64 0, .int .i64 0, .int .i64 0, .slice none 0 0, .string { data := #[] }, .int .i64 0, .int .i64 0, .int .i64 0, .string { data := #[] }, .string { data := #[] }, .int .i64 0, .int .i64 0] 43)).cell? ⟨w.heap.size, 2, none⟩ = _ := cell_of_block p0
    have d3 : (((w.alloc (.cells #[.bool true, .bool true, .bool false, .bool false] 95)).alloc (.cells #[.int .i64 x1, .int .i64 0, .int .i64 x3, .int .i64 x4, .int .i64 x5, .slice a xl.length c, .string x6, .int .i64 x7, .int .i64 x8, .int .i64 x9, .string x10, .string x11, .int .i64 x12, .int .i64 x13] 43)).alloc (.cells #[.int .i64 0, .int .i64 0, .int .i64 0, .int .i64 0, .int .i64 0, .slice none 0 0, .string { data := #[] }, .int .i64 0, .int .i64 0, .int .i64 0, .string { data := #[] }, .string { data := #[] }, .int .i64 0, .int .i64 0] 43)).cell? ⟨w.heap.size, 3, none⟩ = _ := cell_of_block p0
    clear p0
    simp only [List.getElem?_toArray, List.getElem?_cons_zero, List.getElem?_cons_succ] at d0 d1 d2 d3
    obtain ⟨c0, c1, c2, c3, c4, c5, c6, c7, c8, c9, c10, c11, c12, c13⟩ := HA.out.cells
    simp only at c0 c1 c2 c3 c4 c5 c6 c7 c8 c9 c10 c11 c12 c13
    have hal : alA ⟨x1, 0, x3, x4, x5, xl, x6, x7, x8, x9, x10, x11, x12, x13⟩ a = a := rfl
    have hcl : alC ⟨x1, 0, x3, x4, x5, xl, x6, x7, x8, x9, x10, x11, x12, x13⟩ c = c := rfl
    rw [hal, hcl]
    clear hal hcl
    have hpr : prt 0 = #[.bool true, .bool true, .bool false, .bool false] := by simp [prt]
    simp only [hpr]
    clear hpr
    simp only [rcs]
    go_enter Tryz.func62, Tryz.ntmps62
    go_upto_region 1 with fail
    generalize (((w.alloc (.cells #[.bool true, .bool true, .bool false, .bool false] 95)).alloc (.cells #[.int .i64 x1, .int .i64 0, .int .i64 x3, .int .i64 x4, .int .i64 x5, .slice a xl.length c, .string x6, .int .i64 x7, .int .i64 x8, .int .i64 x9, .string x10, .string x11, .int .i64 x12, .int .i64 x13] 43)).alloc (.cells #[.int .i64 0, .int .i64 0, .int .i64 0, .int .i64 0, .int .i64 0, .slice none 0 0, .string { data := #[] }, .int .i64 0, .int .i64 0, .int .i64 0, .string { data := #[] }, .string { data := #[] }, .int .i64 0, .int .i64 0] 43)) = W at *
    have hs := HS.out
    have HZ2 := hide (RBx.below HZ.out ((Below.refl _ _).alloc (Nat.le_refl _) (.cells #[.int .i64 x1, .int .i64 0, .int .i64 x3, .int .i64 x4, .int .i64 x5, .slice a xl.length c, .string x6, .int .i64 x7, .int .i64 x8, .int .i64 x9, .string x10, .string { data := #[] }, .int .i64 0, .int .i64 0] 43)) (RBx.lt HZ.out))
    have HB2 := hide (HB.out.alloc HB.out.size (.cells #[.int .i64 x1, .int .i64 0, .int .i64 x3, .int .i64 x4, .int .i64 x5, .slice a xl.length c, .string x6, .int .i64 x7, .int .i64 x8, .int .i64 x9, .string x10, .string { data := #[] }, .int .i64 0, .int .i64 0] 43))
    go_wp2_with (first | (refine wpList_store_row rfl 43 (.tmp 4) (.tmp 34) rfl (w.heap.size + 1 + 1) (rcs ⟨x1, 0, x3, x4, x5, xl, x6, x7, x8, x9, x10, ByteArray.empty, 0, 0⟩ a c) rfl rfl 43 (rcs Rc.zero none 0) HZ2.out rec_info rfl (rcs_one _ _ _) ?_))
    refine bodyPost_ret (res_rec rfl _ _ (w.heap.size + 1 + 1) ⟨x1, 0, x3, x4, x5, xl, x6, x7, x8, x9, x10, ByteArray.empty, 0, 0⟩ a c rfl (RBx.row HZ2.out _ _ _)) rfl ⟨rfl, below_setRow HB2.out (by omega) _⟩
  rcases hk with rfl | hk
  · have HE : Hid (Rc.alone ⟨x1, 1, x3, x4, x5, xl, x6, x7, x8, x9, x10, x11, x12, x13⟩ = ⟨x1, 1, 0, 0, 0, [], ByteArray.empty, 0, 0, 0, ByteArray.empty, x11, 0, 0⟩) := rfl
    rw [HE.out]
    clear HE
    have HA : Hid (RBx (w.heap.size + 1) 43 ⟨x1, 1, x3, x4, x5, xl, x6, x7, x8, x9, x10, x11, x12, x13⟩ a c (((w.alloc (.cells #[.bool false, .bool false, .bool true, .bool false] 95)).alloc (.cells #[.int .i64 x1, .int .i64 1, .int .i64 x3, .int .i64 x4, .int .i64 x5, .slice a xl.length c, .string x6, .int .i64 x7, .int .i64 x8, .int .i64 x9, .string x10, .string x11, .int .i64 x12, .int .i64 x13] 43)).alloc (.cells #[.int .i64 0, .int .i64 0, .int .i64 0, .int .i64 0, .int .i64 0, .slice none 0 0, .string { data := #[] }, .int .i64 0, .int .i64 0, .int .i64 0, .string { data := #[] }, .string { data := #[] }, .int .i64 0, .int .i64 0] 43))) := by
      unfold Hid
      have q := (rbx_new 43 ⟨x1, 1, x3, x4, x5, xl, x6, x7, x8, x9, x10, x11, x12, x13⟩ a c (w.alloc (.cells #[.bool false, .bool false, .bool true, .bool false] 95))).below ((Below.refl _ _).alloc (Nat.le_refl _) (.cells #[.int .i64 0, .int .i64 0, .int .i64 0, .int .i64 0, .int .i64 0, .slice none 0 0, .string { data := #[] }, .int .i64 0, .int .i64 0, .int .i64 0, .string { data := #[] }, .string { data := #[] }, .int .i64 0, .int .i64 0] 43)) (by simp only [World.size_alloc]; omega)
      rw [World.size_alloc] at q
      exact q
    have HZ : Hid (RBx (w.heap.size + 1 + 1) 43 Rc.zero none 0 (((w.alloc (.cells #[.bool false, .bool false, .bool true, .bool false] 95)).alloc (.cells #[.int .i64 x1, .int .i64 1, .int .i64 x3, .int .i64 x4, .int .i64 x5, .slice a xl.length c, .string x6, .int .i64 x7, .int .i64 x8, .int .i64 x9, .string x10, .string x11, .int .i64 x12, .int .i64 x13] 43)).alloc (.cells #[.int .i64 0, .int .i64 0, .int .i64 0, .int .i64 0, .int .i64 0, .slice none 0 0, .string { data := #[] }, .int .i64 0, .int .i64 0, .int .i64 0, .string { data := #[] }, .string { data := #[] }, .int .i64 0, .int .i64 0] 43))) := by
      unfold Hid
      have q := rbx_new 43 Rc.zero none 0 ((w.alloc (.cells #[.bool false, .bool false, .bool true, .bool false] 95)).alloc (.cells #[.int .i64 x1, .int .i64 1, .int .i64 x3, .int .i64 x4, .int .i64 x5, .slice a xl.length c, .string x6, .int .i64 x7, .int .i64 x8, .int .i64 x9, .string x10, .string x11, .int .i64 x12, .int .i64 x13] 43))
      rw [World.size_alloc, World.size_alloc] at q
      exact q
    have HB : Hid (Below w.heap.size w (((w.alloc (.cells #[.bool false, .bool false, .bool true, .bool false] 95)).alloc (.cells #[.int .i64 x1, .int .i64 1, .int .i64 x3, .int .i64 x4, .int .i64 x5, .slice a xl.length c, .string x6, .int .i64 x7, .int .i64 x8, .int .i64 x9, .string x10, .string x11, .int .i64 x12, .int .i64 x13] 43)).alloc (.cells #[.int .i64 0, .int .i64 0, .int .i64 0, .int .i64 0, .int .i64 0, .slice none 0 0, .string { data := #[] }, .int .i64 0, .int .i64 0, .int .i64 0, .string { data := #[] }, .string { data := #[] }, .int .i64 0, .int .i64 0] 43))) := by
      unfold Hid
      refine Below.alloc (Below.alloc (Below.alloc (Below.refl _ _) (Nat.le_refl _) _) ?_ _) ?_ _ <;> (try simp only [World.size_alloc]) <;> omega
    have HS : Hid ((((w.alloc (.cells #[.bool false, .bool false, .bool true, .bool false] 95)).alloc (.cells #[.int .i64 x1, .int .i64 1, .int .i64 x3, .int .i64 x4, .int .i64 x5, .slice a xl.length c, .string x6, .int .i64 x7, .int .i64 x8, .int .i64 x9, .string x10, .string x11, .int .i64 x12, .int .i64 x13] 43)).alloc (.cells #[.int .i64 0, .int .i64 0, .int .i64 0, .int .i64 0, .int .i64 0, .slice none 0 0, .string { data := #[] }, .int .i64 0, .int .i64 0, .int .i64 0, .string { data := #[] }, .string { data := #[] }, .int .i64 0, .int .i64 0] 43)).heap.size = w.heap.size + 1 + 1 + 1) := by unfold Hid; simp only [World.size_alloc]
    have p0 : (((w.alloc (.cells #[.bool false, .bool false, .bool true, .bool false] 95)).alloc (.cells #[.int .i64 x1, .int .i64 1, .int .i64 x3, .int .i64 x4, .int .i64 x5, .slice a xl.length c, .string x6, .int .i64 x7, .int .i64 x8, .int .i64 x9, .string x10, .string x11, .int .i64 x12, .int .i64 x13] 43)).alloc (.cells #[.int .i64 0, .int .i64 0, .int .i64 0, .int .i64 0, .int .i64 0, .slice none 0 0, .string { data := #[] }, .int .i64 0, .int .i64 0, .int .i64 0, .string { data := #[] }, .string { data := #[] }, .int .i64 0, .int .i64 0] 43)).heap[w.heap.size]? = some (.cells #[.bool false, .bool false, .bool true, .bool false] 95 (0, 0)) := by
      refine (Below.heap_alloc _ _ _ (by simp only [World.size_alloc]; omega)).trans ((Below.heap_alloc _ _ _ (by simp only [World.size_alloc]; omega)).trans (heap_alloc_new w _))
    have d0 : (((w.alloc (.cells #[.bool false, .bool false, .bool true, .bool false] 95)).alloc (.cells #[.int .i64 x1, .int .i64 1, .int .i64 x3, .int .i64 x4, .int .i64 x5, .slice a xl.length c, .string x6, .int .i64 x7, .int .i64 x8, .int .i64 x9, .string x10, .string x11, .int .i64 x12, .int .i64 x13] 43)).alloc (.cells #[.int .i64 0, .int .i64 0, .int .i64 0, .int .i64 0, .int .i64 0, .slice none 0 0, .string { data := #[] }, .int .i64 0, .int .i64 0, .int .i64 0, .string { data := #[] }, .string { data := #[] }, .int .i64 0, .int .i64 0] 43)).cell? ⟨w.heap.size, 0, none⟩ = _ := cell_of_block p0
    have d1 : (((w.alloc (.cells #[.bool false, .bool false, .bool true, .bool false] 95)).alloc (.cells #[.int .i64 x1, .int .i64 1, .int .i64 x3, .int .i64 x4, .int .i64 x5, .slice a xl.length c, .string x6, .int .i64 x7, .int .i64 x8, .int .i64 x9, .string x10, .string x11, .int .i64 x12, .int .i64 x13] 43)).alloc (.cells #[.int .i64 0, .int .i64 0, .int .i64 0, .int .i64 0, .int .i64 0, .slice none 0 0, .string { data := #[] }, .int .i64 0, .int .i64 0, .int .i64 0, .string { data := #[] }, .string { data := #[] }, .int .i64 0, .int .i64 0] 43)).cell? ⟨w.heap.size, 1, none⟩ = _ := cell_of_block p0
    have d2 : (((w.alloc (.cells #[.bool false, .bool false, .bool true, .bool false] 95)).alloc (.cells #[.int .i64 x1, .int .i64 1, .int .i64 x3, .int .i64 x4, .int .i64 x5, .slice a xl.length c, .string x6, .int .i64 x7, .int .i64 x8, .int .i64 x9, .string x10, .string x11, .int .i64 x12, .int .i64 x13] 43)).alloc (.cells #[.int .i64 0, .int .i64 0, .int .i64 0, .int .i64 0, .int .i64 0, .slice none 0 0, .string { data := #[] }, .int .i64 0, .int .i64 0, .int .i64 0, .string { data := #[] }, .string { data := #[] }, .int .i64 0, .int .i64 0] 43)).cell? ⟨w.heap.size, 2, none⟩ = _ := cell_of_block p0
    have d3 : (((w.alloc (.cells #[.bool false, .bool false, .bool true, .bool false] 95)).alloc (.cells #[.int .i64 x1, .int .i64 1, .int .i64 x3, .int .i64 x4, .int .i64 x5, .slice a xl.length c, .string x6, .int .i64 x7, .int .i64 x8, .int .i64 x9, .string x10, .string x11, .int .i64 x12, .int .i64 x13] 43)).alloc (.cells #[.int .i64 0, .int .i64 0, .int .i64 0, .int .i64 0, .int .i64 0, .slice none 0 0, .string { data := #[] }, .int .i64 0, .int .i64 0, .int .i64 0, .string { data := #[] }, .string { data := #[] }, .int .i64 0, .int .i64 0] 43)).cell? ⟨w.heap.size, 3, none⟩ = _ := cell_of_block p0
    clear p0
    simp only [List.getElem?_toArray, List.getElem?_cons_zero, List.getElem?_cons_succ] at d0 d1 d2 d3
    obtain ⟨c0, c1, c2, c3, c4, c5, c6, c7, c8, c9, c10, c11, c12, c13⟩ := HA.out.cells
    simp only at c0 c1 c2 c3 c4 c5 c6 c7 c8 c9 c10 c11 c12 c13
    have hal : alA ⟨x1, 1, x3, x4, x5, xl, x6, x7, x8, x9, x10, x11, x12, x13⟩ a = none := rfl
    have hcl : alC ⟨x1, 1, x3, x4, x5, xl, x6, x7, x8, x9, x10, x11, x12, x13⟩ c = 0 := rfl
    rw [hal, hcl]
    clear hal hcl
    have hpr : prt 1 = #[.bool false, .bool false, .bool true, .bool false] := by simp [prt]
    simp only [hpr]
    clear hpr
    simp only [rcs]
    go_enter Tryz.func62, Tryz.ntmps62
    go_upto_region 1 with fail
    generalize (((w.alloc (.cells #[.bool false, .bool false, .bool true, .bool false] 95)).alloc (.cells #[.int .i64 x1, .int .i64 1, .int .i64 x3, .int .i64 x4, .int .i64 x5, .slice a xl.length c, .string x6, .int .i64 x7, .int .i64 x8, .int .i64 x9, .string x10, .string x11, .int .i64 x12, .int .i64 x13] 43)).alloc (.cells #[.int .i64 0, .int .i64 0, .int .i64 0, .int .i64 0, .int .i64 0, .slice none 0 0, .string { data := #[] }, .int .i64 0, .int .i64 0, .int .i64 0, .string { data := #[] }, .string { data := #[] }, .int .i64 0, .int .i64 0] 43)) = W at *
    have hs := HS.out
    have HZ2 := hide (RBx.below HZ.out ((Below.refl _ _).alloc (Nat.le_refl _) (.cells #[.int .i64 x1, .int .i64 1, .int .i64 0, .int .i64 0, .int .i64 0, .slice none 0 0, .string { data := #[] }, .int .i64 0, .int .i64 0, .int .i64 0, .string { data := #[] }, .string x11, .int .i64 0, .int .i64 0] 43)) (RBx.lt HZ.out))
    have HB2 := hide (HB.out.alloc HB.out.size (.cells #[.int .i64 x1, .int .i64 1, .int .i64 0, .int .i64 0, .int .i64 0, .slice none 0 0, .string { data := #[] }, .int .i64 0, .int .i64 0, .int .i64 0, .string { data := #[] }, .string x11, .int .i64 0, .int .i64 0] 43))
    go_wp2_with (first | (refine wpList_store_row rfl 43 (.tmp 4) (.tmp 34) rfl (w.heap.size + 1 + 1) (rcs ⟨x1, 1, 0, 0, 0, [], ByteArray.empty, 0, 0, 0, ByteArray.empty, x11, 0, 0⟩ none 0) rfl rfl 43 (rcs Rc.zero none 0) HZ2.out rec_info rfl (rcs_one _ _ _) ?_))
    refine bodyPost_ret (res_rec rfl _ _ (w.heap.size + 1 + 1) ⟨x1, 1, 0, 0, 0, [], ByteArray.empty, 0, 0, 0, ByteArray.empty, x11, 0, 0⟩ none 0 rfl (RBx.row HZ2.out _ _ _)) rfl ⟨rfl, below_setRow HB2.out (by omega) _⟩
  rcases hk with rfl | hk
  · have HE : Hid (Rc.alone ⟨x1, 2, x3, x4, x5, xl, x6, x7, x8, x9, x10, x11, x12, x13⟩ = ⟨x1, 2, x3, x4, x5, xl, ByteArray.empty, 0, 0, 0, ByteArray.empty, ByteArray.empty, 0, 0⟩) := rfl
    rw [HE.out]
    clear HE
    have HA : Hid (RBx (w.heap.size + 1) 43 ⟨x1, 2, x3, x4, x5, xl, x6, x7, x8, x9, x10, x11, x12, x13⟩ a c (((w.alloc (.cells #[.bool true, .bool false, .bool false, .bool false] 95)).alloc (.cells #[.int .i64 x1, .int .i64 2, .int .i64 x3, .int .i64 x4, .int .i64 x5, .slice a xl.length c, .string x6, .int .i64 x7, .int .i64 x8, .int .i64 x9, .string x10, .string x11, .int .i64 x12, .int .i64 x13] 43)).alloc (.cells #[.int .i64 0, .int .i64 0, .int .i64 0, .int .i64 0, .int .i64 0, .slice none 0 0, .string { data := #[] }, .int .i64 0, .int .i64 0, .int .i64 0, .string { data := #[] }, .string { data := #[] }, .int .i64 0, .int .i64 0] 43))) := by
      unfold Hid
      have q := (rbx_new 43 ⟨x1, 2, x3, x4, x5, xl, x6, x7, x8, x9, x10, x11, x12, x13⟩ a c (w.alloc (.cells #[.bool true, .bool false, .bool false, .bool false] 95))).below ((Below.refl _ _).alloc (Nat.le_refl _) (.cells #[.int .i64 0, .int .i64 0, .int .i64 0, .int .i64 0, .int .i64 0, .slice none 0 0, .string { data := #[] }, .int .i64 0, .int .i64 0, .int .i64 0, .string { data := #[] }, .string { data := #[] }, .int .i64 0, .int .i64 0] 43)) (by simp only [World.size_alloc]; omega)
      rw [World.size_alloc] at q
      exact q
    have HZ : Hid (RBx (w.heap.size + 1 + 1) 43 Rc.zero none 0 (((w.alloc (.cells #[.bool true, .bool false, .bool false, .bool false] 95)).alloc (.cells #[.int .i64 x1, .int .i64 2, .int .i64 x3, .int .i64 x4, .int .i64 x5, .slice a xl.length c, .string x6, .int .i64 x7, .int .i64 x8, .int .i64 x9, .string x10, .string x11, .int .i64 x12, .int .i64 x13] 43)).alloc (.cells #[.int .i64 0, .int .i64 0, .int .i64 0, .int .i64 0, .int .i64 0, .slice none 0 0, .string { data := #[] }, .int .i64 0, .int .i64 0, .int .i64 0, .string { data := #[] }, .string { data := #[] }, .int .i64 0, .int .i64 0] 43))) := by
      unfold Hid
      have q := rbx_new 43 Rc.zero none 0 ((w.alloc (.cells #[.bool true, .bool false, .bool false, .bool false] 95)).alloc (.cells #[.int .i64 x1, .int .i64 2, .int .i64 x3, .int .i64 x4, .int .i64 x5, .slice a xl.length c, .string x6, .int .i64 x7, .int .i64 x8, .int .i64 x9, .string x10, .string x11, .int .i64 x12, .int .i64 x13] 43))
      rw [World.size_alloc, World.size_alloc] at q
      exact q
    have HB : Hid (Below w.heap.size w (((w.alloc (.cells #[.bool true, .bool false, .bool false, .bool false] 95)).alloc (.cells #[.int .i64 x1, .int .i64 2, .int .i64 x3, .int .i64 x4, .int .i64 x5, .slice a xl.length c, .string x6, .int .i64 x7, .int .i64 x8, .int .i64 x9, .string x10, .string x11, .int .i64 x12, .int .i64 x13] 43)).alloc (.cells #[.int .i64 0, .int .i64 0, .int .i64 0, .int .i64 0, .int .i64 0, .slice none 0 0, .string { data := #[] }, .int .i64 0, .int .i64 0, .int .i64 0, .string { data := #[] }, .string { data := #[] }, .int .i64 0, .int .i64 0] 43))) := by
      unfold Hid
      refine Below.alloc (Below.alloc (Below.alloc (Below.refl _ _) (Nat.le_refl _) _) ?_ _) ?_ _ <;> (try simp only [World.size_alloc]) <;> omega
    have HS : Hid ((((w.alloc (.cells #[.bool true, .bool false, .bool false, .bool false] 95)).alloc (.cells #[.int .i64 x1, .int .i64 2, .int .i64 x3, .int .i64 x4, .int .i64 x5, .slice a xl.length c, .string x6, .int .i64 x7, .int .i64 x8, .int .i64 x9, .string x10, .string x11, .int .i64 x12, .int .i64 x13] 43)).alloc (.cells #[.int .i64 0, .int .i64 0, .int .i64 0, .int .i64 0, .int .i64 0, .slice none 0 0, .string { data := #[] }, .int .i64 0, .int .i64 0, .int .i64 0, .string { data := #[] }, .string { data := #[] }, .int .i64 0, .int .i64 0] 43)).heap.size = w.heap.size + 1 + 1 + 1) := by unfold Hid; simp only [World.size_alloc]
    have p0 : (((w.alloc (.cells #[.bool true, .bool false, .bool false, .bool false] 95)).alloc (.cells #[.int .i64 x1, .int .i64 2, .int .i64 x3, .int .i64 x4, .int .i64 x5, .slice a xl.length c, .string x6, .int .i64 x7, .int .i64 x8, .int .i64 x9, .string x10, .string x11, .int .i64 x12, .int .i64 x13] 43)).alloc (.cells #[.int .i64 0, .int .i64 0, .int .i64 0, .int .i64 0, .int .i64 0, .slice none 0 0, .string { data := #[] }, .int .i64 0, .int .i64 0, .int .i64 0, .string { data := #[] }, .string { data := #[] }, .int .i64 0, .int .i64 0] 43)).heap[w.heap.size]? = some (.cells #[.bool true, .bool false, .bool false, .bool false] 95 (0, 0)) := by
      refine (Below.heap_alloc _ _ _ (by simp only [World.size_alloc]; omega)).trans ((Below.heap_alloc _ _ _ (by simp only [World.size_alloc]; omega)).trans (heap_alloc_new w _))
    have d0 : (((w.alloc (.cells #[.bool true, .bool false, .bool false, .bool false] 95)).alloc (.cells #[.int .i64 x1, .int .i64 2, .int .i64 x3, .int .i64 x4, .int .i64 x5, .slice a xl.length c, .string x6, .int .i64 x7, .int .i64 x8, .int .i64 x9, .string x10, .string x11, .int .i64 x12, .int .i64 x13] 43)).alloc (.cells #[.int .i64 0, .int .i64 0, .int .i64 0, .int .i64 0, .int .i64 0, .slice none 0 0, .string { data := #[] }, .int .i64 0, .int .i64 0, .int .i64 0, .string { data := #[] }, .string { data := #[] }, .int .i64 0, .int .i64 0] 43)).cell? ⟨w.heap.size, 0, none⟩ = _ := cell_of_block p0
    have d1 : (((w.alloc (.cells #[.bool true, .bool false, .bool false, .bool false] 95)).alloc (.cells #[.int .i64 x1, .int .i64 2, .int .i64 x3, .int .i64 x4, .int .i64 x5, .slice a xl.length c, .string x6, .int .i64 x7, .int .i64 x8, .int .i64 x9, .string x10, .string x11, .int .i64 x12, .int .i64 x13] 43)).alloc (.cells #[.int .i64 0, .int .i64 0, .int .i64 0, .int .i64 0, .int .i64 0, .slice none 0 0, .string { data := #[] }, .int .i64 0, .int .i64 0, .int .i64 0, .string { data := #[] }, .string { data := #[] }, .int .i64 0, .int .i64 0] 43)).cell? ⟨w.heap.size, 1, none⟩ = _ := cell_of_block p0
    have d2 : (((w.alloc (.cells #[.bool true, .bool false, .bool false, .bool false] 95)).alloc (.cells #[.int .i64 x1, .int .i64 2, .int .i64 x3, .int .i64 x4, .int .i64 x5, .slice a xl.length c, .string x6, .int .i64 x7, .int .i64 x8, .int .i64 x9, .string x10, .string x11, .int .i64 x12, .int .i64 x13] 43)).alloc (.cells #[.int .i64 0, .int .i64 0, .int .i64 0, .int .i64 0, .int .i64 0, .slice none 0 0, .string { data := #[] }, .int .i64 0, .int .i64 0, .int .i64 0, .string { data := #[] }, .string { data := #[] }, .int .i64 0, .int .i64 0] 43)).cell? ⟨w.heap.size, 2, none⟩ = _ := cell_of_block p0
    have d3 : (((w.alloc (.cells #[.bool true, .bool false, .bool false, .bool false] 95)).alloc (.cells #[.int .i64 x1, .int .i64 2, .int .i64 x3, .int .i64 x4, .int .i64 x5, .slice a xl.length c, .string x6, .int .i64 x7, .int .i64 x8, .int .i64 x9, .string x10, .string x11, .int .i64 x12, .int .i64 x13] 43)).alloc (.cells #[.int .i64 0, .int .i64 0, .int .i64 0, .int .i64 0, .int .i64 0, .slice none 0 0, .string { data := #[] }, .int .i64 0, .int .i64 0, .int .i64 0, .string { data := #[] }, .string { data := #[] }, .int .i64 0, .int .i64 0] 43)).cell? ⟨w.heap.size, 3, none⟩ = _ := cell_of_block p0
    clear p0
    simp only [List.getElem?_toArray, List.getElem?_cons_zero, List.getElem?_cons_succ] at d0 d1 d2 d3
    obtain ⟨c0, c1, c2, c3, c4, c5, c6, c7, c8, c9, c10, c11, c12, c13⟩ := HA.out.cells
    simp only at c0 c1 c2 c3 c4 c5 c6 c7 c8 c9 c10 c11 c12 c13
    have hal : alA ⟨x1, 2, x3, x4, x5, xl, x6, x7, x8, x9, x10, x11, x12, x13⟩ a = a := rfl
    have hcl : alC ⟨x1, 2, x3, x4, x5, xl, x6, x7, x8, x9, x10, x11, x12, x13⟩ c = c := rfl
    rw [hal, hcl]
    clear hal hcl
    have hpr : prt 2 = #[.bool true, .bool false, .bool false, .bool false] := by simp [prt]
    simp only [hpr]
    clear hpr
    simp only [rcs]
    go_enter Tryz.func62, Tryz.ntmps62
    go_upto_region 1 with fail
    generalize (((w.alloc (.cells #[.bool true, .bool false, .bool false, .bool false] 95)).alloc (.cells #[.int .i64 x1, .int .i64 2, .int .i64 x3, .int .i64 x4, .int .i64 x5, .slice a xl.length c, .string x6, .int .i64 x7, .int .i64 x8, .int .i64 x9, .string x10, .string x11, .int .i64 x12, .int .i64 x13] 43)).alloc (.cells #[.int .i64 0, .int .i64 0, .int .i64 0, .int .i64 0, .int .i64 0, .slice none 0 0, .string { data := #[] }, .int .i64 0, .int .i64 0, .int .i64 0, .string { data := #[] }, .string { data := #[] }, .int .i64 0, .int .i64 0] 43)) = W at *
    have hs := HS.out
    have HZ2 := hide (RBx.below HZ.out ((Below.refl _ _).alloc (Nat.le_refl _) (.cells #[.int .i64 x1, .int .i64 2, .int .i64 x3, .int .i64 x4, .int .i64 x5, .slice a xl.length c, .string { data := #[] }, .int .i64 0, .int .i64 0, .int .i64 0, .string { data := #[] }, .string { data := #[] }, .int .i64 0, .int .i64 0] 43)) (RBx.lt HZ.out))
    have HB2 := hide (HB.out.alloc HB.out.size (.cells #[.int .i64 x1, .int .i64 2, .int .i64 x3, .int .i64 x4, .int .i64 x5, .slice a xl.length c, .string { data := #[] }, .int .i64 0, .int .i64 0, .int .i64 0, .string { data := #[] }, .string { data := #[] }, .int .i64 0, .int .i64 0] 43))
    go_wp2_with (first | (refine wpList_store_row rfl 43 (.tmp 4) (.tmp 34) rfl (w.heap.size + 1 + 1) (rcs ⟨x1, 2, x3, x4, x5, xl, ByteArray.empty, 0, 0, 0, ByteArray.empty, ByteArray.empty, 0, 0⟩ a c) rfl rfl 43 (rcs Rc.zero none 0) HZ2.out rec_info rfl (rcs_one _ _ _) ?_))
    refine bodyPost_ret (res_rec rfl _ _ (w.heap.size + 1 + 1) ⟨x1, 2, x3, x4, x5, xl, ByteArray.empty, 0, 0, 0, ByteArray.empty, ByteArray.empty, 0, 0⟩ a c rfl (RBx.row HZ2.out _ _ _)) rfl ⟨rfl, below_setRow HB2.out (by omega) _⟩
  subst hk
  · have HE : Hid (Rc.alone ⟨x1, 3, x3, x4, x5, xl, x6, x7, x8, x9, x10, x11, x12, x13⟩ = ⟨x1, 3, x3, x4, x5, xl, ByteArray.empty, 0, 0, 0, ByteArray.empty, ByteArray.empty, x12, x13⟩) := rfl
    rw [HE.out]
    clear HE
    have HA : Hid (RBx (w.heap.size + 1) 43 ⟨x1, 3, x3, x4, x5, xl, x6, x7, x8, x9, x10, x11, x12, x13⟩ a c (((w.alloc (.cells #[.bool true, .bool false, .bool false, .bool true] 95)).alloc (.cells #[.int .i64 x1, .int .i64 3, .int .i64 x3, .int .i64 x4, .int .i64 x5, .slice a xl.length c, .string x6, .int .i64 x7, .int .i64 x8, .int .i64 x9, .string x10, .string x11, .int .i64 x12, .int .i64 x13] 43)).alloc (.cells #[.int .i64 0, .int .i64 0, .int .i64 0, .int .i64 0, .int .i64 0, .slice none 0 0, .string { data := #[] }, .int .i64 0, .int .i64 0, .int .i64 0, .string { data := #[] }, .string { data := #[] }, .int .i64 0, .int .i64 0] 43))) := by
      unfold Hid
      have q := (rbx_new 43 ⟨x1, 3, x3, x4, x5, xl, x6, x7, x8, x9, x10, x11, x12, x13⟩ a c (w.alloc (.cells #[.bool true, .bool false, .bool false, .bool true] 95))).below ((Below.refl _ _).alloc (Nat.le_refl _) (.cells #[.int .i64 0, .int .i64 0, .int .i64 0, .int .i64 0, .int .i64 0, .slice none 0 0, .string { data := #[] }, .int .i64 0, .int .i64 0, .int .i64 0, .string { data := #[] }, .string { data := #[] }, .int .i64 0, .int .i64 0] 43)) (by simp only [World.size_alloc]; omega)
      rw [World.size_alloc] at q
      exact q
    have HZ : Hid (RBx (w.heap.size + 1 + 1) 43 Rc.zero none 0 (((w.alloc (.cells #[.bool true, .bool false, .bool false, .bool true] 95)).alloc (.cells #[.int .i64 x1, .int .i64 3, .int .i64 x3, .int .i64 x4, .int .i64 x5, .slice a xl.length c, .string x6, .int .i64 x7, .int .i64 x8, .int .i64 x9, .string x10, .string x11, .int .i64 x12, .int .i64 x13] 43)).alloc (.cells #[.int .i64 0, .int .i64 0, .int .i64 0, .int .i64 0, .int .i64 0, .slice none 0 0, .string { data := #[] }, .int .i64 0, .int .i64 0, .int .i64 0, .string { data := #[] }, .string { data := #[] }, .int .i64 0, .int .i64 0] 43))) := by
      unfold Hid
      have q := rbx_new 43 Rc.zero none 0 ((w.alloc (.cells #[.bool true, .bool false, .bool false, .bool true] 95)).alloc (.cells #[.int .i64 x1, .int .i64 3, .int .i64 x3, .int .i64 x4, .int .i64 x5, .slice a xl.length c, .string x6, .int .i64 x7, .int .i64 x8, .int .i64 x9, .string x10, .string x11, .int .i64 x12, .int .i64 x13] 43))
      rw [World.size_alloc, World.size_alloc] at q
      exact q
    have HB : Hid (Below w.heap.size w (((w.alloc (.cells #[.bool true, .bool false, .bool false, .bool true] 95)).alloc (.cells #[.int .i64 x1, .int .i64 3, .int .i64 x3, .int .i64 x4, .int .i64 x5, .slice a xl.length c, .string x6, .int .i64 x7, .int .i64 x8, .int .i64 x9, .string x10, .string x11, .int .i64 x12, .int .i64 x13] 43)).alloc (.cells #[.int .i64 0, .int .i64 0, .int .i64 0, .int .i64 0, .int .i64 0, .slice none 0 0, .string { data := #[] }, .int .i64 0, .int .i64 0, .int .i64 0, .string { data := #[] }, .string { data := #[] }, .int .i64 0, .int .i64 0] 43))) := by
      unfold Hid
      refine Below.alloc (Below.alloc (Below.alloc (Below.refl _ _) (Nat.le_refl _) _) ?_ _) ?_ _ <;> (try simp only [World.size_alloc]) <;> omega
    have HS : Hid ((((w.alloc (.cells #[.bool true, .bool false, .bool false, .bool true] 95)).alloc (.cells #[.int .i64 x1, .int .i64 3, .int .i64 x3, .int .i64 x4, .int .i64 x5, .slice a xl.length c, .string x6, .int .i64 x7, .int .i64 x8, .int .i64 x9, .string x10, .string x11, .int .i64 x12, .int .i64 x13] 43)).alloc (.cells #[.int .i64 0, .int .i64 0, .int .i64 0, .int .i64 0, .int .i64 0, .slice none 0 0, .string { data := #[] }, .int .i64 0, .int .i64 0, .int .i64 0, .string { data := #[] }, .string { data := #[] }, .int .i64 0, .int .i64 0] 43)).heap.size = w.heap.size + 1 + 1 + 1) := by unfold Hid; simp only [World.size_alloc]
    have p0 : (((w.alloc (.cells #[.bool true, .bool false, .bool false, .bool true] 95)).alloc (.cells #[.int .i64 x1, .int .i64 3, .int .i64 x3, .int .i64 x4, .int .i64 x5, .slice a xl.length c, .string x6, .int .i64 x7, .int .i64 x8, .int .i64 x9, .string x10, .string x11, .int .i64 x12, .int .i64 x13] 43)).alloc (.cells #[.int .i64 0, .int .i64 0, .int .i64 0, .int .i64 0, .int .i64 0, .slice none 0 0, .string { data := #[] }, .int .i64 0, .int .i64 0, .int .i64 0, .string { data := #[] }, .string { data := #[] }, .int .i64 0, .int .i64 0] 43)).heap[w.heap.size]? = some (.cells #[.bool true, .bool false, .bool false, .bool true] 95 (0, 0)) := by
      refine (Below.heap_alloc _ _ _ (by simp only [World.size_alloc]; omega)).trans ((Below.heap_alloc _ _ _ (by simp only [World.size_alloc]; omega)).trans (heap_alloc_new w _))
    have d0 : (((w.alloc (.cells #[.bool true, .bool false, .bool false, .bool true] 95)).alloc (.cells #[.int .i64 x1, .int .i64 3, .int .i64 x3, .int .i64 x4, .int .i64 x5, .slice a xl.length c, .string x6, .int .i64 x7, .int .i64 x8, .int .i64 x9, .string x10, .string x11, .int .i64 x12, .int .i64 x13] 43)).alloc (.cells #[.int .i64 0, .int .i64 0, .int .i64 0, .int .i64 0, .int .i64 0, .slice none 0 0, .string { data := #[] }, .int .i64 0, .int .i64 0, .int .i64 0, .string { data := #[] }, .string { data := #[] }, .int .i64 0, .int .i64 0] 43)).cell? ⟨w.heap.size, 0, none⟩ = _ := cell_of_block p0
    have d1 : (((w.alloc (.cells #[.bool true, .bool false, .bool false, .bool true] 95)).alloc (.cells #[.int .i64 x1, .int .i64 3, .int .i64 x3, .int .i64 x4, .int .i64 x5, .slice a xl.length c, .string x6, .int .i64 x7, .int .i64 x8, .int .i64 x9, .string x10, .string x11, .int .i64 x12, .int .i64 x13] 43)).alloc (.cells #[.int .i64 0, .int .i64 0, .int .i64 0, .int .i64 0, .int .i64 0, .slice none 0 0, .string { data := #[] }, .int .i64 0, .int .i64 0, .int .i64 0, .string { data := #[] }, .string { data := #[] }, .int .i64 0, .int .i64 0] 43)).cell? ⟨w.heap.size, 1, none⟩ = _ := cell_of_block p0
    have d2 : (((w.alloc (.cells #[.bool true, .bool false, .bool false, .bool true] 95)).alloc (.cells #[.int .i64 x1, .int .i64 3, .int .i64 x3, .int .i64 x4, .int .i64 x5, .slice a xl.length c, .string x6, .int .i64 x7, .int .i64 x8, .int .i64 x9, .string x10, .string x11, .int .i64 x12, .int .i64 x13] 43)).alloc (.cells #[.int .i64 0, .int .i64 0, .int .i64 0, .int .i64 0, .int .i64 0, .slice none 0 0, .string { data := #[] }, .int .i64 0, .int .i64 0, .int .i64 0, .string { data := #[] }, .string { data := #[] }, .int .i64 0, .int .i64 0] 43)).cell? ⟨w.heap.size, 2, none⟩ = _ := cell_of_block p0
    have d3 : (((w.alloc (.cells #[.bool true, .bool false, .bool false, .bool true] 95)).alloc (.cells #[.int .i64 x1, .int .i64 3, .int .i64 x3, .int .i64 x4, .int .i64 x5, .slice a xl.length c, .string x6, .int .i64 x7, .int .i64 x8, .int .i64 x9, .string x10, .string x11, .int .i64 x12, .int .i64 x13] 43)).alloc (.cells #[.int .i64 0, .int .i64 0, .int .i64 0, .int .i64 0, .int .i64 0, .slice none 0 0, .string { data := #[] }, .int .i64 0, .int .i64 0, .int .i64 0, .string { data := #[] }, .string { data := #[] }, .int .i64 0, .int .i64 0] 43)).cell? ⟨w.heap.size, 3, none⟩ = _ := cell_of_block p0
    clear p0
    simp only [List.getElem?_toArray, List.getElem?_cons_zero, List.getElem?_cons_succ] at d0 d1 d2 d3
    obtain ⟨c0, c1, c2, c3, c4, c5, c6, c7, c8, c9, c10, c11, c12, c13⟩ := HA.out.cells
    simp only at c0 c1 c2 c3 c4 c5 c6 c7 c8 c9 c10 c11 c12 c13
    have hal : alA ⟨x1, 3, x3, x4, x5, xl, x6, x7, x8, x9, x10, x11, x12, x13⟩ a = a := rfl
    have hcl : alC ⟨x1, 3, x3, x4, x5, xl, x6, x7, x8, x9, x10, x11, x12, x13⟩ c = c := rfl
    rw [hal, hcl]
    clear hal hcl
    have hpr : prt 3 = #[.bool true, .bool false, .bool false, .bool true] := by simp [prt]
    simp only [hpr]
    clear hpr
    simp only [rcs]
    go_enter Tryz.func62, Tryz.ntmps62
    go_upto_region 1 with fail
    generalize (((w.alloc (.cells #[.bool true, .bool false, .bool false, .bool true] 95)).alloc (.cells #[.int .i64 x1, .int .i64 3, .int .i64 x3, .int .i64 x4, .int .i64 x5, .slice a xl.length c, .string x6, .int .i64 x7, .int .i64 x8, .int .i64 x9, .string x10, .string x11, .int .i64 x12, .int .i64 x13] 43)).alloc (.cells #[.int .i64 0, .int .i64 0, .int .i64 0, .int .i64 0, .int .i64 0, .slice none 0 0, .string { data := #[] }, .int .i64 0, .int .i64 0, .int .i64 0, .string { data := #[] }, .string { data := #[] }, .int .i64 0, .int .i64 0] 43)) = W at *
    have hs := HS.out
    have HZ2 := hide (RBx.below HZ.out ((Below.refl _ _).alloc (Nat.le_refl _) (.cells #[.int .i64 x1, .int .i64 3, .int .i64 x3, .int .i64 x4, .int .i64 x5, .slice a xl.length c, .string { data := #[] }, .int .i64 0, .int .i64 0, .int .i64 0, .string { data := #[] }, .string { data := #[] }, .int .i64 x12, .int .i64 x13] 43)) (RBx.lt HZ.out))
    have HB2 := hide (HB.out.alloc HB.out.size (.cells #[.int .i64 x1, .int .i64 3, .int .i64 x3, .int .i64 x4, .int .i64 x5, .slice a xl.length c, .string { data := #[] }, .int .i64 0, .int .i64 0, .int .i64 0, .string { data := #[] }, .string { data := #[] }, .int .i64 x12, .int .i64 x13] 43))
    go_wp2_with fail
    go_region
    all_goals
      go_wp2_with (first | (refine wpList_store_row rfl 43 (.tmp 4) (.tmp 34) rfl (w.heap.size + 1 + 1) (rcs ⟨x1, 3, x3, x4, x5, xl, ByteArray.empty, 0, 0, 0, ByteArray.empty, ByteArray.empty, x12, x13⟩ a c) rfl rfl 43 (rcs Rc.zero none 0) HZ2.out rec_info rfl (rcs_one _ _ _) ?_))
      refine bodyPost_ret (res_rec rfl _ _ (w.heap.size + 1 + 1) ⟨x1, 3, x3, x4, x5, xl, ByteArray.empty, 0, 0, 0, ByteArray.empty, ByteArray.empty, x12, x13⟩ a c rfl (RBx.row (show RBx _ _ _ _ _ (World.drew _) from HZ2.out) _ _ _)) rfl ⟨rfl, below_setRow HB2.out.drew (by omega) _⟩
set_option maxRecDepth 100000 in
set_option maxHeartbeats 8000000 in
theorem only_any (r : Rc) (a : Option Addr) (c : Nat) (w : World) (h : r.sqOk) : Calls Tryz.prog 68 #[.agg (rcs r a c)] w fun e w' => e = .returned (.agg (rcs r.alone (alA r a) (alC r c))) ∧ Below w.heap.size w w' := by
  have hk := kind_four h
  clear h
  obtain ⟨x1, x2, x3, x4, x5, xl, x6, x7, x8, x9, x10, x11, x12, x13⟩ := r
  simp only at hk
  rcases hk with rfl | hk
  · have HE : Hid (Rc.alone ⟨x1, 0, x3, x4, x5, xl, x6, x7, x8, x9, x10, x11, x12, x13⟩ = ⟨x1, 0, x3, x4, x5, xl, x6, x7, x8, x9, x10, ByteArray.empty, 0, 0⟩) := rfl
    rw [HE.out]
    clear HE
    have HA : Hid (RBx (w.heap.size) 40 ⟨x1, 0, x3, x4, x5, xl, x6, x7, x8, x9, x10, x11, x12, x13⟩ a c ((w.alloc (.cells #[.int .i64 x1, .int .i64 0, .int .i64 x3, .int .i64 x4, .int .i64 x5, .slice a xl.length c, .string x6, .int .i64 x7, .int .i64 x8, .int .i64 x9, .string x10, .string x11, .int .i64 x12, .int .i64 x13] 40)).alloc (.cells #[.int .i64 0, .int .i64 0, .int .i64 0, .int .i64 0, .int .i64 0, .slice none 0 0, .string { data := #[] }, .int .i64 0, .int .i64 0, .int .i64 0, .string { data := #[] }, .string { data := #[] }, .int .i64 0, .int .i64 0] 40))) := by
      unfold Hid
      have q := (rbx_new 40 ⟨x1, 0, x3, x4, x5, xl, x6, x7, x8, x9, x10, x11, x12, x13⟩ a c w).below ((Below.refl _ _).alloc (Nat.le_refl _) (.cells #[.int .i64 0, .int .i64 0, .int .i64 0, .int .i64 0, .int .i64 0, .slice none 0 0, .string { data := #[] }, .int .i64 0, .int .i64 0, .int .i64 0, .string { data := #[] }, .string { data := #[] }, .int .i64 0, .int .i64 0] 40)) (by simp only [World.size_alloc]; omega)
      skip
      exact q
    have HZ : Hid (RBx (w.heap.size + 1) 40 Rc.zero none 0 ((w.alloc (.cells #[.int .i64 x1, .int .i64 0, .int .i64 x3, .int .i64 x4, .int .i64 x5, .slice a xl.length c, .string x6, .int .i64 x7, .int .i64 x8, .int .i64 x9, .string x10, .string x11, .int .i64 x12, .int .i64 x13] 40)).alloc (.cells #[.int .i64 0, .int .i64 0, .int .i64 0, .int .i64 0, .int .i64 0, .slice none 0 0, .string { data := #[] }, .int .i64 0, .int .i64 0, .int .i64 0, .string { data := #[] }, .string { data := #[] }, .int .i64 0, .int .i64 0] 40))) := by
      unfold Hid
      have q := rbx_new 40 Rc.zero none 0 (w.alloc (.cells #[.int .i64 x1, .int .i64 0, .int .i64 x3, .int .i64 x4, .int .i64 x5, .slice a xl.length c, .string x6, .int .i64 x7, .int .i64 x8, .int .i64 x9, .string x10, .string x11, .int .i64 x12, .int .i64 x13] 40))
      rw [World.size_alloc] at q
      exact q
    have HB : Hid (Below w.heap.size w ((w.alloc (.cells #[.int .i64 x1, .int .i64 0, .int .i64 x3, .int .i64 x4, .int .i64 x5, .slice a xl.length c, .string x6, .int .i64 x7, .int .i64 x8, .int .i64 x9, .string x10, .string x11, .int .i64 x12, .int .i64 x13] 40)).alloc (.cells #[.int .i64 0, .int .i64 0, .int .i64 0, .int .i64 0, .int .i64 0, .slice none 0 0, .string { data := #[] }, .int .i64 0, .int .i64 0, .int .i64 0, .string { data := #[] }, .string { data := #[] }, .int .i64 0, .int .i64 0] 40))) := by
      unfold Hid
      refine Below.alloc (Below.alloc (Below.refl _ _) ?_ _) ?_ _ <;> (try simp only [World.size_alloc]) <;> omega
    have HS : Hid (((w.alloc (.cells #[.int .i64 x1, .int .i64 0, .int .i64 x3, .int .i64 x4, .int .i64 x5, .slice a xl.length c, .string x6, .int .i64 x7, .int .i64 x8, .int .i64 x9, .string x10, .string x11, .int .i64 x12, .int .i64 x13] 40)).alloc (.cells #[.int .i64 0, .int .i64 0, .int .i64 0, .int .i64 0, .int .i64 0, .slice none 0 0, .string { data := #[] }, .int .i64 0, .int .i64 0, .int .i64 0, .string { data := #[] }, .string { data := #[] }, .int .i64 0, .int .i64 0] 40)).heap.size = w.heap.size + 1 + 1) := by unfold Hid; simp only [World.size_alloc]
    obtain ⟨c0, c1, c2, c3, c4, c5, c6, c7, c8, c9, c10, c11, c12, c13⟩ := HA.out.cells
    simp only at c0 c1 c2 c3 c4 c5 c6 c7 c8 c9 c10 c11 c12 c13
    have hal : alA ⟨x1, 0, x3, x4, x5, xl, x6, x7, x8, x9, x10, x11, x12, x13⟩ a = a := rfl
    have hcl : alC ⟨x1, 0, x3, x4, x5, xl, x6, x7, x8, x9, x10, x11, x12, x13⟩ c = c := rfl
    rw [hal, hcl]
    clear hal hcl
    skip
    skip
    skip
    simp only [rcs]
    go_enter Tryz.func68, Tryz.ntmps68
    go_upto_region 1 with fail
    generalize ((w.alloc (.cells #[.int .i64 x1, .int .i64 0, .int .i64 x3, .int .i64 x4, .int .i64 x5, .slice a xl.length c, .string x6, .int .i64 x7, .int .i64 x8, .int .i64 x9, .string x10, .string x11, .int .i64 x12, .int .i64 x13] 40)).alloc (.cells #[.int .i64 0, .int .i64 0, .int .i64 0, .int .i64 0, .int .i64 0, .slice none 0 0, .string { data := #[] }, .int .i64 0, .int .i64 0, .int .i64 0, .string { data := #[] }, .string { data := #[] }, .int .i64 0, .int .i64 0] 40)) = W at *
    have hs := HS.out
    have HZ2 := hide (RBx.below HZ.out ((Below.refl _ _).alloc (Nat.le_refl _) (.cells #[.int .i64 x1, .int .i64 0, .int .i64 x3, .int .i64 x4, .int .i64 x5, .slice a xl.length c, .string x6, .int .i64 x7, .int .i64 x8, .int .i64 x9, .string x10, .string { data := #[] }, .int .i64 0, .int .i64 0] 40)) (RBx.lt HZ.out))
    have HB2 := hide (HB.out.alloc HB.out.size (.cells #[.int .i64 x1, .int .i64 0, .int .i64 x3, .int .i64 x4, .int .i64 x5, .slice a xl.length c, .string x6, .int .i64 x7, .int .i64 x8, .int .i64 x9, .string x10, .string { data := #[] }, .int .i64 0, .int .i64 0] 40))
    go_wp2_with (first | (refine wpList_store_row rfl 40 (.tmp 2) (.tmp 34) rfl (w.heap.size + 1) (rcs ⟨x1, 0, x3, x4, x5, xl, x6, x7, x8, x9, x10, ByteArray.empty, 0, 0⟩ a c) rfl rfl 40 (rcs Rc.zero none 0) HZ2.out ref_info rfl (rcs_one _ _ _) ?_))
    refine bodyPost_ret (res_ref rfl _ _ (w.heap.size + 1) ⟨x1, 0, x3, x4, x5, xl, x6, x7, x8, x9, x10, ByteArray.empty, 0, 0⟩ a c rfl (RBx.row HZ2.out _ _ _)) rfl ⟨rfl, below_setRow HB2.out (by omega) _⟩
  rcases hk with rfl | hk
  · have HE : Hid (Rc.alone ⟨x1, 1, x3, x4, x5, xl, x6, x7, x8, x9, x10, x11, x12, x13⟩ = ⟨x1, 1, 0, 0, 0, [], ByteArray.empty, 0, 0, 0, ByteArray.empty, x11, 0, 0⟩) := rfl
    rw [HE.out]
    clear HE
    have HA : Hid (RBx (w.heap.size) 40 ⟨x1, 1, x3, x4, x5, xl, x6, x7, x8, x9, x10, x11, x12, x13⟩ a c ((w.alloc (.cells #[.int .i64 x1, .int .i64 1, .int .i64 x3, .int .i64 x4, .int .i64 x5, .slice a xl.length c, .string x6, .int .i64 x7, .int .i64 x8, .int .i64 x9, .string x10, .string x11, .int .i64 x12, .int .i64 x13] 40)).alloc (.cells #[.int .i64 0, .int .i64 0, .int .i64 0, .int .i64 0, .int .i64 0, .slice none 0 0, .string { data := #[] }, .int .i64 0, .int .i64 0, .int .i64 0, .string { data := #[] }, .string { data := #[] }, .int .i64 0, .int .i64 0] 40))) := by
      unfold Hid
      have q := (rbx_new 40 ⟨x1, 1, x3, x4, x5, xl, x6, x7, x8, x9, x10, x11, x12, x13⟩ a c w).below ((Below.refl _ _).alloc (Nat.le_refl _) (.cells #[.int .i64 0, .int .i64 0, .int .i64 0, .int .i64 0, .int .i64 0, .slice none 0 0, .string { data := #[] }, .int .i64 0, .int .i64 0, .int .i64 0, .string { data := #[] }, .string { data := #[] }, .int .i64 0, .int .i64 0] 40)) (by simp only [World.size_alloc]; omega)
      skip
      exact q
    have HZ : Hid (RBx (w.heap.size + 1) 40 Rc.zero none 0 ((w.alloc (.cells #[.int .i64 x1, .int .i64 1, .int .i64 x3, .int .i64 x4, .int .i64 x5, .slice a xl.length c, .string x6, .int .i64 x7, .int .i64 x8, .int .i64 x9, .string x10, .string x11, .int .i64 x12, .int .i64 x13] 40)).alloc (.cells #[.int .i64 0, .int .i64 0, .int .i64 0, .int .i64 0, .int .i64 0, .slice none 0 0, .string { data := #[] }, .int .i64 0, .int .i64 0, .int .i64 0, .string { data := #[] }, .string { data := #[] }, .int .i64 0, .int .i64 0] 40))) := by
      unfold Hid
      have q := rbx_new 40 Rc.zero none 0 (w.alloc (.cells #[.int .i64 x1, .int .i64 1, .int .i64 x3, .int .i64 x4, .int .i64 x5, .slice a xl.length c, .string x6, .int .i64 x7, .int .i64 x8, .int .i64 x9, .string x10, .string x11, .int .i64 x12, .int .i64 x13] 40))
      rw [World.size_alloc] at q
      exact q
    have HB : Hid (Below w.heap.size w ((w.alloc (.cells #[.int .i64 x1, .int .i64 1, .int .i64 x3, .int .i64 x4, .int .i64 x5, .slice a xl.length c, .string x6, .int .i64 x7, .int .i64 x8, .int .i64 x9, .string x10, .string x11, .int .i64 x12, .int .i64 x13] 40)).alloc (.cells #[.int .i64 0, .int .i64 0, .int .i64 0, .int .i64 0, .int .i64 0, .slice none 0 0, .string { data := #[] }, .int .i64 0, .int .i64 0, .int .i64 0, .string { data := #[] }, .string { data := #[] }, .int .i64 0, .int .i64 0] 40))) := by
      unfold Hid
      refine Below.alloc (Below.alloc (Below.refl _ _) ?_ _) ?_ _ <;> (try simp only [World.size_alloc]) <;> omega
    have HS : Hid (((w.alloc (.cells #[.int .i64 x1, .int .i64 1, .int .i64 x3, .int .i64 x4, .int .i64 x5, .slice a xl.length c, .string x6, .int .i64 x7, .int .i64 x8, .int .i64 x9, .string x10, .string x11, .int .i64 x12, .int .i64 x13] 40)).alloc (.cells #[.int .i64 0, .int .i64 0, .int .i64 0, .int .i64 0, .int .i64 0, .slice none 0 0, .string { data := #[] }, .int .i64 0, .int .i64 0, .int .i64 0, .string { data := #[] }, .string { data := #[] }, .int .i64 0, .int .i64 0] 40)).heap.size = w.heap.size + 1 + 1) := by unfold Hid; simp only [World.size_alloc]
    obtain ⟨c0, c1, c2, c3, c4, c5, c6, c7, c8, c9, c10, c11, c12, c13⟩ := HA.out.cells
    simp only at c0 c1 c2 c3 c4 c5 c6 c7 c8 c9 c10 c11 c12 c13
    have hal : alA ⟨x1, 1, x3, x4, x5, xl, x6, x7, x8, x9, x10, x11, x12, x13⟩ a = none := rfl
    have hcl : alC ⟨x1, 1, x3, x4, x5, xl, x6, x7, x8, x9, x10, x11, x12, x13⟩ c = 0 := rfl
    rw [hal, hcl]
    clear hal hcl
    skip
    skip
    skip
    simp only [rcs]
    go_enter Tryz.func68, Tryz.ntmps68
    go_upto_region 1 with fail
    generalize ((w.alloc (.cells #[.int .i64 x1, .int .i64 1, .int .i64 x3, .int .i64 x4, .int .i64 x5, .slice a xl.length c, .string x6, .int .i64 x7, .int .i64 x8, .int .i64 x9, .string x10, .string x11, .int .i64 x12, .int .i64 x13] 40)).alloc (.cells #[.int .i64 0, .int .i64 0, .int .i64 0, .int .i64 0, .int .i64 0, .slice none 0 0, .string { data := #[] }, .int .i64 0, .int .i64 0, .int .i64 0, .string { data := #[] }, .string { data := #[] }, .int .i64 0, .int .i64 0] 40)) = W at *
    have hs := HS.out
    have HZ2 := hide (RBx.below HZ.out ((Below.refl _ _).alloc (Nat.le_refl _) (.cells #[.int .i64 x1, .int .i64 1, .int .i64 0, .int .i64 0, .int .i64 0, .slice none 0 0, .string { data := #[] }, .int .i64 0, .int .i64 0, .int .i64 0, .string { data := #[] }, .string x11, .int .i64 0, .int .i64 0] 40)) (RBx.lt HZ.out))
    have HB2 := hide (HB.out.alloc HB.out.size (.cells #[.int .i64 x1, .int .i64 1, .int .i64 0, .int .i64 0, .int .i64 0, .slice none 0 0, .string { data := #[] }, .int .i64 0, .int .i64 0, .int .i64 0, .string { data := #[] }, .string x11, .int .i64 0, .int .i64 0] 40))
    go_wp2_with (first | (refine wpList_store_row rfl 40 (.tmp 2) (.tmp 15) rfl (w.heap.size + 1) (rcs ⟨x1, 1, 0, 0, 0, [], ByteArray.empty, 0, 0, 0, ByteArray.empty, x11, 0, 0⟩ none 0) rfl rfl 40 (rcs Rc.zero none 0) HZ2.out ref_info rfl (rcs_one _ _ _) ?_))
    refine bodyPost_ret (res_ref rfl _ _ (w.heap.size + 1) ⟨x1, 1, 0, 0, 0, [], ByteArray.empty, 0, 0, 0, ByteArray.empty, x11, 0, 0⟩ none 0 rfl (RBx.row HZ2.out _ _ _)) rfl ⟨rfl, below_setRow HB2.out (by omega) _⟩
  rcases hk with rfl | hk
  · have HE : Hid (Rc.alone ⟨x1, 2, x3, x4, x5, xl, x6, x7, x8, x9, x10, x11, x12, x13⟩ = ⟨x1, 2, x3, x4, x5, xl, ByteArray.empty, 0, 0, 0, ByteArray.empty, ByteArray.empty, 0, 0⟩) := rfl
    rw [HE.out]
    clear HE
    have HA : Hid (RBx (w.heap.size) 40 ⟨x1, 2, x3, x4, x5, xl, x6, x7, x8, x9, x10, x11, x12, x13⟩ a c ((w.alloc (.cells #[.int .i64 x1, .int .i64 2, .int .i64 x3, .int .i64 x4, .int .i64 x5, .slice a xl.length c, .string x6, .int .i64 x7, .int .i64 x8, .int .i64 x9, .string x10, .string x11, .int .i64 x12, .int .i64 x13] 40)).alloc (.cells #[.int .i64 0, .int .i64 0, .int .i64 0, .int .i64 0, .int .i64 0, .slice none 0 0, .string { data := #[] }, .int .i64 0, .int .i64 0, .int .i64 0, .string { data := #[] }, .string { data := #[] }, .int .i64 0, .int .i64 0] 40))) := by
      unfold Hid
      have q := (rbx_new 40 ⟨x1, 2, x3, x4, x5, xl, x6, x7, x8, x9, x10, x11, x12, x13⟩ a c w).below ((Below.refl _ _).alloc (Nat.le_refl _) (.cells #[.int .i64 0, .int .i64 0, .int .i64 0, .int .i64 0, .int .i64 0, .slice none 0 0, .string { data := #[] }, .int .i64 0, .int .i64 0, .int .i64 0, .string { data := #[] }, .string { data := #[] }, .int .i64 0, .int .i64 0] 40)) (by simp only [World.size_alloc]; omega)
      skip
      exact q
    have HZ : Hid (RBx (w.heap.size + 1) 40 Rc.zero none 0 ((w.alloc (.cells #[.int .i64 x1, .int .i64 2, .int .i64 x3, .int .i64 x4, .int .i64 x5, .slice a xl.length c, .string x6, .int .i64 x7, .int .i64 x8, .int .i64 x9, .string x10, .string x11, .int .i64 x12, .int .i64 x13] 40)).alloc (.cells #[.int .i64 0, .int .i64 0, .int .i64 0, .int .i64 0, .int .i64 0, .slice none 0 0, .string { data := #[] }, .int .i64 0, .int .i64 0, .int .i64 0, .string { data := #[] }, .string { data := #[] }, .int .i64 0, .int .i64 0] 40))) := by
      unfold Hid
      have q := rbx_new 40 Rc.zero none 0 (w.alloc (.cells #[.int .i64 x1, .int .i64 2, .int .i64 x3, .int .i64 x4, .int .i64 x5, .slice a xl.length c, .string x6, .int .i64 x7, .int .i64 x8, .int .i64 x9, .string x10, .string x11, .int .i64 x12, .int .i64 x13] 40))
      rw [World.size_alloc] at q
      exact q
    have HB : Hid (Below w.heap.size w ((w.alloc (.cells #[.int .i64 x1, .int .i64 2, .int .i64 x3, .int .i64 x4, .int .i64 x5, .slice a xl.length c, .string x6, .int .i64 x7, .int .i64 x8, .int .i64 x9, .string x10, .string x11, .int .i64 x12, .int .i64 x13] 40)).alloc (.cells #[.int .i64 0, .int .i64 0, .int .i64 0, .int .i64 0, .int .i64 0, .slice none 0 0, .string { data := #[] }, .int .i64 0, .int .i64 0, .int .i64 0, .string { data := #[] }, .string { data := #[] }, .int .i64 0, .int .i64 0] 40))) := by
      unfold Hid
      refine Below.alloc (Below.alloc (Below.refl _ _) ?_ _) ?_ _ <;> (try simp only [World.size_alloc]) <;> omega
    have HS : Hid (((w.alloc (.cells #[.int .i64 x1, .int .i64 2, .int .i64 x3, .int .i64 x4, .int .i64 x5, .slice a xl.length c, .string x6, .int .i64 x7, .int .i64 x8, .int .i64 x9, .string x10, .string x11, .int .i64 x12, .int .i64 x13] 40)).alloc (.cells #[.int .i64 0, .int .i64 0, .int .i64 0, .int .i64 0, .int .i64 0, .slice none 0 0, .string { data := #[] }, .int .i64 0, .int .i64 0, .int .i64 0, .string { data := #[] }, .string { data := #[] }, .int .i64 0, .int .i64 0] 40)).heap.size = w.heap.size + 1 + 1) := by unfold Hid; simp only [World.size_alloc]
    obtain ⟨c0, c1, c2, c3, c4, c5, c6, c7, c8, c9, c10, c11, c12, c13⟩ := HA.out.cells
    simp only at c0 c1 c2 c3 c4 c5 c6 c7 c8 c9 c10 c11 c12 c13
    have hal : alA ⟨x1, 2, x3, x4, x5, xl, x6, x7, x8, x9, x10, x11, x12, x13⟩ a = a := rfl
    have hcl : alC ⟨x1, 2, x3, x4, x5, xl, x6, x7, x8, x9, x10, x11, x12, x13⟩ c = c := rfl
    rw [hal, hcl]
    clear hal hcl
    skip
    skip
    skip
    simp only [rcs]
    go_enter Tryz.func68, Tryz.ntmps68
    go_upto_region 1 with fail
    generalize ((w.alloc (.cells #[.int .i64 x1, .int .i64 2, .int .i64 x3, .int .i64 x4, .int .i64 x5, .slice a xl.length c, .string x6, .int .i64 x7, .int .i64 x8, .int .i64 x9, .string x10, .string x11, .int .i64 x12, .int .i64 x13] 40)).alloc (.cells #[.int .i64 0, .int .i64 0, .int .i64 0, .int .i64 0, .int .i64 0, .slice none 0 0, .string { data := #[] }, .int .i64 0, .int .i64 0, .int .i64 0, .string { data := #[] }, .string { data := #[] }, .int .i64 0, .int .i64 0] 40)) = W at *
    have hs := HS.out
    have HZ2 := hide (RBx.below HZ.out ((Below.refl _ _).alloc (Nat.le_refl _) (.cells #[.int .i64 x1, .int .i64 2, .int .i64 x3, .int .i64 x4, .int .i64 x5, .slice a xl.length c, .string { data := #[] }, .int .i64 0, .int .i64 0, .int .i64 0, .string { data := #[] }, .string { data := #[] }, .int .i64 0, .int .i64 0] 40)) (RBx.lt HZ.out))
    have HB2 := hide (HB.out.alloc HB.out.size (.cells #[.int .i64 x1, .int .i64 2, .int .i64 x3, .int .i64 x4, .int .i64 x5, .slice a xl.length c, .string { data := #[] }, .int .i64 0, .int .i64 0, .int .i64 0, .string { data := #[] }, .string { data := #[] }, .int .i64 0, .int .i64 0] 40))
    go_wp2_with (first | (refine wpList_store_row rfl 40 (.tmp 2) (.tmp 34) rfl (w.heap.size + 1) (rcs ⟨x1, 2, x3, x4, x5, xl, ByteArray.empty, 0, 0, 0, ByteArray.empty, ByteArray.empty, 0, 0⟩ a c) rfl rfl 40 (rcs Rc.zero none 0) HZ2.out ref_info rfl (rcs_one _ _ _) ?_))
    refine bodyPost_ret (res_ref rfl _ _ (w.heap.size + 1) ⟨x1, 2, x3, x4, x5, xl, ByteArray.empty, 0, 0, 0, ByteArray.empty, ByteArray.empty, 0, 0⟩ a c rfl (RBx.row HZ2.out _ _ _)) rfl ⟨rfl, below_setRow HB2.out (by omega) _⟩
  subst hk
  · have HE : Hid (Rc.alone ⟨x1, 3, x3, x4, x5, xl, x6, x7, x8, x9, x10, x11, x12, x13⟩ = ⟨x1, 3, x3, x4, x5, xl, ByteArray.empty, 0, 0, 0, ByteArray.empty, ByteArray.empty, x12, x13⟩) := rfl
    rw [HE.out]
    clear HE
    have HA : Hid (RBx (w.heap.size) 40 ⟨x1, 3, x3, x4, x5, xl, x6, x7, x8, x9, x10, x11, x12, x13⟩ a c ((w.alloc (.cells #[.int .i64 x1, .int .i64 3, .int .i64 x3, .int .i64 x4, .int .i64 x5, .slice a xl.length c, .string x6, .int .i64 x7, .int .i64 x8, .int .i64 x9, .string x10, .string x11, .int .i64 x12, .int .i64 x13] 40)).alloc (.cells #[.int .i64 0, .int .i64 0, .int .i64 0, .int .i64 0, .int .i64 0, .slice none 0 0, .string { data := #[] }, .int .i64 0, .int .i64 0, .int .i64 0, .string { data := #[] }, .string { data := #[] }, .int .i64 0, .int .i64 0] 40))) := by
      unfold Hid
      have q := (rbx_new 40 ⟨x1, 3, x3, x4, x5, xl, x6, x7, x8, x9, x10, x11, x12, x13⟩ a c w).below ((Below.refl _ _).alloc (Nat.le_refl _) (.cells #[.int .i64 0, .int .i64 0, .int .i64 0, .int .i64 0, .int .i64 0, .slice none 0 0, .string { data := #[] }, .int .i64 0, .int .i64 0, .int .i64 0, .string { data := #[] }, .string { data := #[] }, .int .i64 0, .int .i64 0] 40)) (by simp only [World.size_alloc]; omega)
      skip
      exact q
    have HZ : Hid (RBx (w.heap.size + 1) 40 Rc.zero none 0 ((w.alloc (.cells #[.int .i64 x1, .int .i64 3, .int .i64 x3, .int .i64 x4, .int .i64 x5, .slice a xl.length c, .string x6, .int .i64 x7, .int .i64 x8, .int .i64 x9, .string x10, .string x11, .int .i64 x12, .int .i64 x13] 40)).alloc (.cells #[.int .i64 0, .int .i64 0, .int .i64 0, .int .i64 0, .int .i64 0, .slice none 0 0, .string { data := #[] }, .int .i64 0, .int .i64 0, .int .i64 0, .string { data := #[] }, .string { data := #[] }, .int .i64 0, .int .i64 0] 40))) := by
      unfold Hid
      have q := rbx_new 40 Rc.zero none 0 (w.alloc (.cells #[.int .i64 x1, .int .i64 3, .int .i64 x3, .int .i64 x4, .int .i64 x5, .slice a xl.length c, .string x6, .int .i64 x7, .int .i64 x8, .int .i64 x9, .string x10, .string x11, .int .i64 x12, .int .i64 x13] 40))
      rw [World.size_alloc] at q
      exact q
    have HB : Hid (Below w.heap.size w ((w.alloc (.cells #[.int .i64 x1, .int .i64 3, .int .i64 x3, .int .i64 x4, .int .i64 x5, .slice a xl.length c, .string x6, .int .i64 x7, .int .i64 x8, .int .i64 x9, .string x10, .string x11, .int .i64 x12, .int .i64 x13] 40)).alloc (.cells #[.int .i64 0, .int .i64 0, .int .i64 0, .int .i64 0, .int .i64 0, .slice none 0 0, .string { data := #[] }, .int .i64 0, .int .i64 0, .int .i64 0, .string { data := #[] }, .string { data := #[] }, .int .i64 0, .int .i64 0] 40))) := by
      unfold Hid
      refine Below.alloc (Below.alloc (Below.refl _ _) ?_ _) ?_ _ <;> (try simp only [World.size_alloc]) <;> omega
    have HS : Hid (((w.alloc (.cells #[.int .i64 x1, .int .i64 3, .int .i64 x3, .int .i64 x4, .int .i64 x5, .slice a xl.length c, .string x6, .int .i64 x7, .int .i64 x8, .int .i64 x9, .string x10, .string x11, .int .i64 x12, .int .i64 x13] 40)).alloc (.cells #[.int .i64 0, .int .i64 0, .int .i64 0, .int .i64 0, .int .i64 0, .slice none 0 0, .string { data := #[] }, .int .i64 0, .int .i64 0, .int .i64 0, .string { data := #[] }, .string { data := #[] }, .int .i64 0, .int .i64 0] 40)).heap.size = w.heap.size + 1 + 1) := by unfold Hid; simp only [World.size_alloc]
    obtain ⟨c0, c1, c2, c3, c4, c5, c6, c7, c8, c9, c10, c11, c12, c13⟩ := HA.out.cells
    simp only at c0 c1 c2 c3 c4 c5 c6 c7 c8 c9 c10 c11 c12 c13
    have hal : alA ⟨x1, 3, x3, x4, x5, xl, x6, x7, x8, x9, x10, x11, x12, x13⟩ a = a := rfl
    have hcl : alC ⟨x1, 3, x3, x4, x5, xl, x6, x7, x8, x9, x10, x11, x12, x13⟩ c = c := rfl
    rw [hal, hcl]
    clear hal hcl
    skip
    skip
    skip
    simp only [rcs]
    go_enter Tryz.func68, Tryz.ntmps68
    go_upto_region 1 with fail
    generalize ((w.alloc (.cells #[.int .i64 x1, .int .i64 3, .int .i64 x3, .int .i64 x4, .int .i64 x5, .slice a xl.length c, .string x6, .int .i64 x7, .int .i64 x8, .int .i64 x9, .string x10, .string x11, .int .i64 x12, .int .i64 x13] 40)).alloc (.cells #[.int .i64 0, .int .i64 0, .int .i64 0, .int .i64 0, .int .i64 0, .slice none 0 0, .string { data := #[] }, .int .i64 0, .int .i64 0, .int .i64 0, .string { data := #[] }, .string { data := #[] }, .int .i64 0, .int .i64 0] 40)) = W at *
    have hs := HS.out
    have HZ2 := hide (RBx.below HZ.out ((Below.refl _ _).alloc (Nat.le_refl _) (.cells #[.int .i64 x1, .int .i64 3, .int .i64 x3, .int .i64 x4, .int .i64 x5, .slice a xl.length c, .string { data := #[] }, .int .i64 0, .int .i64 0, .int .i64 0, .string { data := #[] }, .string { data := #[] }, .int .i64 x12, .int .i64 x13] 40)) (RBx.lt HZ.out))
    have HB2 := hide (HB.out.alloc HB.out.size (.cells #[.int .i64 x1, .int .i64 3, .int .i64 x3, .int .i64 x4, .int .i64 x5, .slice a xl.length c, .string { data := #[] }, .int .i64 0, .int .i64 0, .int .i64 0, .string { data := #[] }, .string { data := #[] }, .int .i64 x12, .int .i64 x13] 40))
    go_wp2_with (first | (refine wpList_store_row rfl 40 (.tmp 2) (.tmp 34) rfl (w.heap.size + 1) (rcs ⟨x1, 3, x3, x4, x5, xl, ByteArray.empty, 0, 0, 0, ByteArray.empty, ByteArray.empty, x12, x13⟩ a c) rfl rfl 40 (rcs Rc.zero none 0) HZ2.out ref_info rfl (rcs_one _ _ _) ?_))
    refine bodyPost_ret (res_ref rfl _ _ (w.heap.size + 1) ⟨x1, 3, x3, x4, x5, xl, ByteArray.empty, 0, 0, 0, ByteArray.empty, ByteArray.empty, x12, x13⟩ a c rfl (RBx.row HZ2.out _ _ _)) rfl ⟨rfl, below_setRow HB2.out (by omega) _⟩
end Go.Proofs.YtonhmihmnkicdaaGreat
