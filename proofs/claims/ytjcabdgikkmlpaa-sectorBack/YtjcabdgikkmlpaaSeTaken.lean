/- What sector.taken answers. -/
import Derived.Test.YtjcabdgikkmlpaaSeOwn
import Derived.Laws.ResultCell
namespace Go.Proofs.Ytjcabdgikkmlpaa
open Go.RowKit
set_option linter.unusedVariables false
theorem RdX.but {w w' : World} {b : Nat} {t : TypeId} {s : ByteArray} (h : RdX w b t s) (hb : Below w.heap.size w w') : RdX w' b t s := by
  obtain ⟨e, h, he⟩ := h
  exact ⟨e, h.below hb h.lt, he⟩
theorem HBx.free {bx : Nat} {t : TypeId} {h : Hd} {w : World} (k : HBx bx t h w) (p : Nat) : w.frozen? ⟨bx, p, none⟩ = false := free_of_block k
theorem HBx.but {bx b : Nat} {t : TypeId} {h : Hd} {w w' : World} (k : HBx bx t h w) (hb : But b w w') (hne : bx ≠ b) : HBx bx t h w' := (hb.block bx hne).trans k
theorem HBx.put {bx : Nat} {t : TypeId} {h : Hd} {w : World} (k : HBx bx t h w) (h' : Hd) : HBx bx t h' (w.setRow bx (hcs h')) := setRow_heap w bx _ _ _ _ k
/-- all six cells written anew -/
def six (w : World) (bx : Nat) (h : Hd) : World := (((((w.setCell ⟨bx, 0, none⟩ (.int .i64 h.v)).setCell ⟨bx, 1, none⟩ (.int .i64 h.g)).setCell ⟨bx, 2, none⟩ (.int .i64 h.i)).setCell ⟨bx, 3, none⟩ (.int .i64 h.d)).setCell ⟨bx, 4, none⟩ (.int .i64 h.s)).setCell ⟨bx, 5, none⟩ (.string h.x)
theorem HBx.six {bx : Nat} {t : TypeId} {h : Hd} {w : World} (k : HBx bx t h w) (h' : Hd) : HBx bx t h' (six w bx h') :=
  block_setCell _ (block_setCell _ (block_setCell _ (block_setCell _ (block_setCell _ (block_setCell _ k)))))
theorem below_six {B bx : Nat} {a w : World} (h : Below B a w) (hB : B ≤ bx) (x : Hd) : Below B a (six w bx x) :=
  (((((h.setCell hB _).setCell hB _).setCell hB _).setCell hB _).setCell hB _).setCell hB _
theorem six_other {bx c : Nat} {w : World} (x : Hd) (hne : c ≠ bx) : (six w bx x).heap[c]? = w.heap[c]? := by
  unfold six
  repeat rw [Below.heap_setCell _ _ _ _ (show c ≠ bx from hne)]
theorem hcs_size (h : Hd) : (hcs h).size = 6 := rfl
theorem hd_info : (Try.prog.info? 30).map (·.size) = some 6 := by kernel_rfl
theorem rh_info : (Try.prog.info? 25).map (·.size) = some 6 := by kernel_rfl
theorem res_hd {fn : Func} {p : Tmp} (h : fn.results = #[.cell p 30]) (tmps : Array Value) (w : World) (g : Nat) (x : Hd)
    (hp : tmps.getD p undef = .pointer (some ⟨g, 0, none⟩)) (hr : HBx g 30 x w) : (results fn tmps).run Try.prog w = .ok (.agg (hcs x)) w :=
  results_cell_row h tmps w g 30 (hcs x) (0, 0) _ hp hr Try.underlying30 rfl hd_info
theorem res_hd_tmp {fn : Func} {p u : Tmp} (h : fn.results = #[.cell p 30, .tmp u]) (tmps : Array Value) (w : World) (g : Nat) (x : Hd)
    (hp : tmps.getD p undef = .pointer (some ⟨g, 0, none⟩)) (hr : HBx g 30 x w) : (results fn tmps).run Try.prog w = .ok (.tuple #[.agg (hcs x), tmps.getD u undef]) w := by
  rw [results_cell_tmp h, hp]
  simp [asAddr, run_loadVar_row w g 30 30 (hcs x) (0, 0) _ hr Try.underlying30 rfl hd_info]
theorem res_rh_tmp {fn : Func} {p u : Tmp} (h : fn.results = #[.cell p 25, .tmp u]) (tmps : Array Value) (w : World) (g : Nat) (x : Hd)
    (hp : tmps.getD p undef = .pointer (some ⟨g, 0, none⟩)) (hr : HBx g 25 x w) : (results fn tmps).run Try.prog w = .ok (.tuple #[.agg (hcs x), tmps.getD u undef]) w := by
  rw [results_cell_tmp h, hp]
  simp [asAddr, run_loadVar_row w g 25 25 (hcs x) (0, 0) _ hr Try.underlying25 rfl rh_info]
set_option maxRecDepth 100000 in
set_option maxHeartbeats 8000000 in
theorem taken_any (s : ByteArray) (w : World) (hs : s.size ≤ 1000000) : Calls Try.prog 28 #[.string s] w fun r w' => r = .returned (.agg (hcs (tk s))) ∧ Below w.heap.size w w' := by
  have HZ := hide (hbx_new 30 Hd.zero w)
  have HA : Hid (Below w.heap.size w (w.alloc (.cells (hcs Hd.zero) 30))) := (Below.refl _ _).alloc (Nat.le_refl _) _
  have l1 := rR_size s
  have l2 := rR_size (rR s)
  have l3 := rR_size (rR (rR s))
  have l4 := rR_size (rR (rR (rR s)))
  have l5 := rR_size (rR (rR (rR (rR s))))
  have HTK : Hid (tk s = ⟨(rN s : Nat), (rN (rR s) : Nat), (rN (rR (rR s)) : Nat), (rN (rR (rR (rR s))) : Nat), (rN (rR (rR (rR (rR s)))) : Nat), tT (rR (rR (rR (rR (rR s)))))⟩) := rfl
  have x1 := hide (rnum_x (s := s))
  have x2 := hide (rnum_x (s := rR s))
  have x3 := hide (rnum_x (s := rR (rR s)))
  have x4 := hide (rnum_x (s := rR (rR (rR s))))
  have x5 := hide (rnum_x (s := rR (rR (rR (rR s)))))
  have x6 := hide (rtext_x (s := rR (rR (rR (rR (rR s))))))
  generalize rN s = n1 at *
  generalize rN (rR s) = n2 at *
  generalize rN (rR (rR s)) = n3 at *
  generalize rN (rR (rR (rR s))) = n4 at *
  generalize rN (rR (rR (rR (rR s)))) = n5 at *
  generalize tT (rR (rR (rR (rR (rR s))))) = x at *
  rw [HTK.out]
  simp only [hcs, Hd.zero] at HA ⊢
  go_enter Try.func28, Try.ntmps28
  go_wp2_with fail
  refine (read_any s _).mono ?_
  rintro e w1 ⟨b, rfl, hb, hsz, hrd, hbl⟩
  have HB1 := hide (HA.out.trans (hbl.mono HA.out.size))
  have HZ1 := hide (HZ.out.below hbl HZ.out.lt)
  have HNE : Hid (w.heap.size ≠ b) := by show _ ≠ _; rw [hb, World.size_alloc]; omega
  have HLB : Hid (w.heap.size ≤ b) := by show _ ≤ _; rw [hb, World.size_alloc]; omega
  have R1 : Hid (RdX w1 b 77 s) := ⟨0, hrd, fun h => absurd rfl h⟩
  clear hb hsz hrd hbl HA HZ
  go_wp2_with fail
  refine (x1.out b w1 R1.out hs).mono ?_
  rintro e w2 ⟨rfl, hr2, hb2⟩
  have R2 := hide hr2
  have HB2 := hide (HB1.out.trans (hb2.below HLB.out))
  have HZ2 := hide (HZ1.out.but hb2 HNE.out)
  clear hr2 hb2 HB1 HZ1 R1
  go_wp2_with fail
  refine (x2.out b w2 R2.out (by omega)).mono ?_
  rintro e w3 ⟨rfl, hr2, hb2⟩
  have R3 := hide hr2
  have HB3 := hide (HB2.out.trans (hb2.below HLB.out))
  have HZ3 := hide (HZ2.out.but hb2 HNE.out)
  clear hr2 hb2 HB2 HZ2 R2
  go_wp2_with fail
  refine (x3.out b w3 R3.out (by omega)).mono ?_
  rintro e w4 ⟨rfl, hr2, hb2⟩
  have R4 := hide hr2
  have HB4 := hide (HB3.out.trans (hb2.below HLB.out))
  have HZ4 := hide (HZ3.out.but hb2 HNE.out)
  clear hr2 hb2 HB3 HZ3 R3
  go_wp2_with fail
  refine (x4.out b w4 R4.out (by omega)).mono ?_
  rintro e w5 ⟨rfl, hr2, hb2⟩
  have R5 := hide hr2
  have HB5 := hide (HB4.out.trans (hb2.below HLB.out))
  have HZ5 := hide (HZ4.out.but hb2 HNE.out)
  clear hr2 hb2 HB4 HZ4 R4
  go_wp2_with fail
  refine (x5.out b w5 R5.out (by omega)).mono ?_
  rintro e w6 ⟨rfl, hr2, hb2⟩
  have R6 := hide hr2
  have HB6 := hide (HB5.out.trans (hb2.below HLB.out))
  have HZ6 := hide (HZ5.out.but hb2 HNE.out)
  clear hr2 hb2 HB5 HZ5 R5
  go_wp2_with fail
  refine (x6.out b w6 R6.out (by omega)).mono ?_
  rintro e w7 ⟨rfl, hr2, hb2⟩
  have HB7 := hide (HB6.out.trans (hb2.below HLB.out))
  have HZ7 := hide (HZ6.out.but hb2 HNE.out)
  clear hr2 hb2 HB6 HZ6 R6
  have c0 := HZ7.out.c0
  have c1 := HZ7.out.c1
  have c2 := HZ7.out.c2
  have c3 := HZ7.out.c3
  have c4 := HZ7.out.c4
  have c5 := HZ7.out.c5
  have f0 := HZ7.out.free 0
  have f1 := HZ7.out.free 1
  have f2 := HZ7.out.free 2
  have f3 := HZ7.out.free 3
  have f4 := HZ7.out.free 4
  have f5' := HZ7.out.free 5
  go_wp2_with fail
  have HB8 := hide (below_six HB7.out (Nat.le_refl _) ⟨(n1 : Int), (n2 : Int), (n3 : Int), (n4 : Int), (n5 : Int), x⟩)
  have HZ8 := hide (HZ7.out.six ⟨(n1 : Int), (n2 : Int), (n3 : Int), (n4 : Int), (n5 : Int), x⟩)
  clear c0 c1 c2 c3 c4 c5 f0 f1 f2 f3 f4 f5'
  change bodyPost _ _ _ _ _ (six w7 w.heap.size ⟨(n1 : Int), (n2 : Int), (n3 : Int), (n4 : Int), (n5 : Int), x⟩)
  generalize six w7 w.heap.size ⟨(n1 : Int), (n2 : Int), (n3 : Int), (n4 : Int), (n5 : Int), x⟩ = W8 at *
  refine bodyPost_ret (res_hd rfl _ _ w.heap.size _ rfl HZ8.out) rfl ⟨rfl, HB8.out⟩
end Go.Proofs.Ytjcabdgikkmlpaa
