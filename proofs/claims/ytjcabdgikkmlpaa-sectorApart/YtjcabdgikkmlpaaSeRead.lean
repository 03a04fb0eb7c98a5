/- What sector.Read answers at every text. -/
import Derived.Test.YtjcabdgikkmlpaaSeTaken
namespace Go.Proofs.Ytjcabdgikkmlpaa
open Go.RowKit
set_option linter.unusedVariables false
theorem HBx.cells {bx : Nat} {t : TypeId} {h : Hd} {w : World} (k : HBx bx t h w) : (w.cell? ⟨bx, 0, none⟩ = some (.int .i64 h.v) ∧ w.cell? ⟨bx, 1, none⟩ = some (.int .i64 h.g) ∧ w.cell? ⟨bx, 2, none⟩ = some (.int .i64 h.i) ∧ w.cell? ⟨bx, 3, none⟩ = some (.int .i64 h.d) ∧ w.cell? ⟨bx, 4, none⟩ = some (.int .i64 h.s) ∧ w.cell? ⟨bx, 5, none⟩ = some (.string h.x)) ∧ (w.frozen? ⟨bx, 0, none⟩ = false ∧ w.frozen? ⟨bx, 1, none⟩ = false ∧ w.frozen? ⟨bx, 2, none⟩ = false ∧ w.frozen? ⟨bx, 3, none⟩ = false ∧ w.frozen? ⟨bx, 4, none⟩ = false ∧ w.frozen? ⟨bx, 5, none⟩ = false) :=
  ⟨⟨k.c0, k.c1, k.c2, k.c3, k.c4, k.c5⟩, k.free 0, k.free 1, k.free 2, k.free 3, k.free 4, k.free 5⟩
set_option maxRecDepth 100000 in
set_option maxHeartbeats 8000000 in
theorem sread_err (s : ByteArray) (w : World) (hs : s.size ≤ 100000) (h : opE s ≠ 0) : Calls Try.prog 14 #[.string s] w fun r w' => r = .returned (.tuple #[.agg (hcs Hd.zero), .int .i64 (opE s)]) ∧ Below w.heap.size w w' := by
  have HZ := hide (hbx_new 30 Hd.zero w)
  have HA : Hid (Below w.heap.size w (w.alloc (.cells (hcs Hd.zero) 30))) := (Below.refl _ _).alloc (Nat.le_refl _) _
  have HO := hide (open_any s (w.alloc (.cells (hcs Hd.zero) 30)) hs)
  have hne : (opE s == 0) = false := by simpa using h
  have hne2 : (opE s != 0) = true := by simpa using h
  generalize opE s = E at *
  generalize opT s = T at *
  simp only [hcs, Hd.zero] at HA HO ⊢
  go_enter Try.func14, Try.ntmps14
  go_wp2_with fail
  refine HO.out.mono ?_
  rintro e w1 ⟨rfl, hb1⟩
  have HB1 := hide (HA.out.trans (hb1.mono HA.out.size))
  have HZ1 := hide (HZ.out.below hb1 HZ.out.lt)
  obtain ⟨⟨c0, c1, c2, c3, c4, c5⟩, f0, f1, f2, f3, f4, f5'⟩ := HZ1.out.cells
  clear hb1 HA HZ HO
  go_wp2_with fail
  refine bodyPost_ret (res_hd_tmp rfl _ _ w.heap.size Hd.zero rfl (HZ1.out.six Hd.zero)) rfl ⟨rfl, below_six HB1.out (Nat.le_refl _) Hd.zero⟩
set_option maxRecDepth 100000 in
set_option maxHeartbeats 8000000 in
theorem sread_no (s : ByteArray) (w : World) (hs : s.size ≤ 100000) (h : opE s = 0) (hn : wS (tk (trimS (opT s))) ≠ s) : Calls Try.prog 14 #[.string s] w fun r w' => r = .returned (.tuple #[.agg (hcs Hd.zero), .int .i64 4]) ∧ Below w.heap.size w w' := by
  have HZ := hide (hbx_new 30 Hd.zero w)
  have HA : Hid (Below w.heap.size w (w.alloc (.cells (hcs Hd.zero) 30))) := (Below.refl _ _).alloc (Nat.le_refl _) _
  have HO := hide (open_any s (w.alloc (.cells (hcs Hd.zero) 30)) hs)
  have hq := str_ne hn
  have hz : (opT s).size ≤ 1000000 := by rw [(opE_zero h).2.2, headS_size]; omega
  have hz2 : (trimS (opT s)).size ≤ 1000000 := by
    unfold trimS rest2
    split
    · rw [ByteArray.size_extract]; omega
    · exact hz
  rw [h] at HO
  clear h hn
  generalize opT s = T at *
  have HT := hide (trim_any T)
  have HK := hide (taken_any (trimS T))
  have HW := hide (write_any (tk (trimS T)))
  generalize wS (tk (trimS T)) = S at *
  generalize wE (tk (trimS T)) = E at *
  generalize tk (trimS T) = X at *
  generalize trimS T = U at *
  simp only [hcs, Hd.zero] at HA HO ⊢
  go_enter Try.func14, Try.ntmps14
  go_wp2_with fail
  refine HO.out.mono ?_
  rintro e w1 ⟨rfl, hb1⟩
  have HB1 := hide (HA.out.trans (hb1.mono HA.out.size))
  have HZ1 := hide (HZ.out.below hb1 HZ.out.lt)
  clear hb1 HA HZ HO
  go_wp2_with fail
  refine (HT.out _ hz).mono ?_
  rintro e _ ⟨rfl, rfl⟩
  go_wp2_with fail
  refine (HK.out _ hz2).mono ?_
  rintro e w2 ⟨rfl, hb1⟩
  have HB2 := hide (HB1.out.trans (hb1.mono HB1.out.size))
  have HZ2 := hide (HZ1.out.below hb1 HZ1.out.lt)
  clear hb1 HB1 HZ1
  have HX2 := hide (hbx_new 30 X w2)
  have hal : Below w2.heap.size w2 (w2.alloc (.cells (hcs X) 30)) := (Below.refl _ _).alloc (Nat.le_refl _) _
  have HB3 := hide (HB2.out.trans (hal.mono HB2.out.size))
  have HZ3 := hide (HZ2.out.below hal HZ2.out.lt)
  have HW3 := hide (HW.out (w2.alloc (.cells (hcs X) 30)))
  clear hal HB2 HZ2 HW HT HK
  obtain ⟨v, g, i, d, l, x⟩ := X
  simp only [hcs] at HB3 HZ3 HW3 HX2 ⊢
  go_wp2_with fail
  refine HW3.out.mono ?_
  rintro e w4 ⟨rfl, hb1⟩
  have HB4 := hide (HB3.out.trans (hb1.mono HB3.out.size))
  have HZ4 := hide (HZ3.out.below hb1 HZ3.out.lt)
  obtain ⟨⟨c0, c1, c2, c3, c4, c5⟩, f0, f1, f2, f3, f4, f5'⟩ := HZ4.out.cells
  clear hb1 HB3 HZ3 HW3 HX2
  go_wp2_with fail
  refine bodyPost_ret (res_hd_tmp rfl _ _ w.heap.size Hd.zero rfl (HZ4.out.six Hd.zero)) rfl ⟨rfl, below_six HB4.out (Nat.le_refl _) Hd.zero⟩
set_option maxRecDepth 100000 in
set_option maxHeartbeats 8000000 in
theorem sread_yes (s : ByteArray) (w : World) (hs : s.size ≤ 100000) (h : opE s = 0) (hn : wS (tk (trimS (opT s))) = s) : Calls Try.prog 14 #[.string s] w fun r w' => r = .returned (.tuple #[.agg (hcs (tk (trimS (opT s)))), .int .i64 0]) ∧ Below w.heap.size w w' := by
  have HZ := hide (hbx_new 30 Hd.zero w)
  have HA : Hid (Below w.heap.size w (w.alloc (.cells (hcs Hd.zero) 30))) := (Below.refl _ _).alloc (Nat.le_refl _) _
  have HO := hide (open_any s (w.alloc (.cells (hcs Hd.zero) 30)) hs)
  have hq := str_eq hn
  have hz : (opT s).size ≤ 1000000 := by rw [(opE_zero h).2.2, headS_size]; omega
  have hz2 : (trimS (opT s)).size ≤ 1000000 := by
    unfold trimS rest2
    split
    · rw [ByteArray.size_extract]; omega
    · exact hz
  rw [h] at HO
  clear h hn
  generalize opT s = T at *
  have HT := hide (trim_any T)
  have HK := hide (taken_any (trimS T))
  have HW := hide (write_any (tk (trimS T)))
  generalize wS (tk (trimS T)) = S at *
  generalize wE (tk (trimS T)) = E at *
  generalize tk (trimS T) = X at *
  generalize trimS T = U at *
  simp only [hcs, Hd.zero] at HA HO ⊢
  go_enter Try.func14, Try.ntmps14
  go_wp2_with fail
  refine HO.out.mono ?_
  rintro e w1 ⟨rfl, hb1⟩
  have HB1 := hide (HA.out.trans (hb1.mono HA.out.size))
  have HZ1 := hide (HZ.out.below hb1 HZ.out.lt)
  clear hb1 HA HZ HO
  go_wp2_with fail
  refine (HT.out _ hz).mono ?_
  rintro e _ ⟨rfl, rfl⟩
  go_wp2_with fail
  refine (HK.out _ hz2).mono ?_
  rintro e w2 ⟨rfl, hb1⟩
  have HB2 := hide (HB1.out.trans (hb1.mono HB1.out.size))
  have HZ2 := hide (HZ1.out.below hb1 HZ1.out.lt)
  clear hb1 HB1 HZ1
  have HX2 := hide (hbx_new 30 X w2)
  have hal : Below w2.heap.size w2 (w2.alloc (.cells (hcs X) 30)) := (Below.refl _ _).alloc (Nat.le_refl _) _
  have HB3 := hide (HB2.out.trans (hal.mono HB2.out.size))
  have HZ3 := hide (HZ2.out.below hal HZ2.out.lt)
  have HW3 := hide (HW.out (w2.alloc (.cells (hcs X) 30)))
  clear hal HB2 HZ2 HW HT HK
  obtain ⟨v, g, i, d, l, x⟩ := X
  simp only [hcs] at HB3 HZ3 HW3 ⊢
  go_wp2_with fail
  refine HW3.out.mono ?_
  rintro e w4 ⟨rfl, hb1⟩
  have HB4 := hide (HB3.out.trans (hb1.mono HB3.out.size))
  have HZ4 := hide (HZ3.out.below hb1 HZ3.out.lt)
  have HX4 := hide (HX2.out.below hb1 HX2.out.lt)
  obtain ⟨⟨c0, c1, c2, c3, c4, c5⟩, f0, f1, f2, f3, f4, f5'⟩ := HZ4.out.cells
  obtain ⟨⟨d0, d1, d2, d3, d4, d5⟩, -⟩ := HX4.out.cells
  clear hb1 HB3 HZ3 HW3 HX2
  go_wp2_with fail
  refine bodyPost_ret (res_hd_tmp rfl _ _ w.heap.size ⟨v, g, i, d, l, x⟩ rfl (HZ4.out.six ⟨v, g, i, d, l, x⟩)) rfl ⟨rfl, below_six HB4.out (Nat.le_refl _) ⟨v, g, i, d, l, x⟩⟩
theorem sread_any (s : ByteArray) (w : World) (hs : s.size ≤ 100000) : Calls Try.prog 14 #[.string s] w fun r w' => r = .returned (.tuple #[.agg (hcs (rdH s)), .int .i64 (rdE s)]) ∧ Below w.heap.size w w' := by
  by_cases h : opE s = 0
  · have hts := trim_same h
    by_cases hn : wS (tk (trimS (opT s))) = s
    · have e1 : rdE s = 0 := by unfold rdE; rw [if_pos h, if_pos (hts.1.1 hn)]
      have e2 : rdH s = tk (trimS (opT s)) := by unfold rdH; rw [if_pos e1, hts.2 (hts.1.1 hn)]
      rw [e1, e2]
      exact sread_yes s w hs h hn
    · have e1 : rdE s = 4 := by unfold rdE; rw [if_pos h, if_neg fun q => hn (hts.1.2 q)]
      have e2 : rdH s = Hd.zero := by unfold rdH; rw [if_neg (by rw [e1]; decide)]
      rw [e1, e2]
      exact sread_no s w hs h hn
  · have e1 : rdE s = opE s := by unfold rdE; rw [if_neg h]
    have e2 : rdH s = Hd.zero := by unfold rdH; rw [if_neg (by rw [e1]; exact h)]
    rw [e1, e2]
    exact sread_err s w hs h
end Go.Proofs.Ytjcabdgikkmlpaa
