/- What the function Read of package sluicegateref07 answers at every text. -/
import Derived.Test.YtjcabdgikkmlpaaSeRead
import Derived.Test.YtjcabdgikkmlpaaSeRef
namespace Go.Proofs.Ytjcabdgikkmlpaa
open Go.RowKit
set_option linter.unusedVariables false
theorem qnum_x (b : Nat) (s : ByteArray) (w : World) (h : RdX w b 62 s) (hs : s.size ≤ 1000000) : Calls Try.prog 31 #[.pointer (some ⟨b, 0, none⟩)] w fun r w' => r = .returned (.int .i64 (rN s : Nat)) ∧ RdX w' b 62 (rR s) ∧ But b w w' := by
  obtain ⟨e, h, he⟩ := h
  by_cases h0 : e = 0
  · subst h0
    exact (qnum_ok b s w h hs).mono fun r w' k => ⟨k.1, ⟨_, k.2.1, rR_err⟩, k.2.2⟩
  · obtain rfl := he h0
    refine (qnum_err b _ e w h h0).mono fun r w' k => ⟨by rw [rN_nil]; exact k.1, ?_, k.2 ▸ But.refl _ _⟩
    rw [rR_nil, ← k.2]
    exact ⟨e, h, fun _ => rfl⟩
theorem qtext_x (b : Nat) (s : ByteArray) (w : World) (h : RdX w b 62 s) (hs : s.size ≤ 1000000) : Calls Try.prog 32 #[.pointer (some ⟨b, 0, none⟩)] w fun r w' => r = .returned (.string (tT s)) ∧ RdX w' b 62 (tR s) ∧ But b w w' := by
  obtain ⟨e, h, he⟩ := h
  by_cases h0 : e = 0
  · subst h0
    exact (qtext_ok b s w h hs).mono fun r w' k => ⟨k.1, ⟨_, k.2.1, tR_err⟩, k.2.2⟩
  · obtain rfl := he h0
    refine (qtext_err b _ e w h h0).mono fun r w' k => ⟨by rw [tT_nil]; exact k.1, ?_, k.2.2⟩
    rw [tR_nil]
    exact ⟨e, k.2.1, fun _ => rfl⟩
theorem qend_x (b : Nat) (s : ByteArray) (w : World) (h : RdX w b 62 s) : Calls Try.prog 33 #[.pointer (some ⟨b, 0, none⟩)] w fun r w' => ∃ e : Int, r = .returned (.int .i64 e) ∧ But b w w' := by
  obtain ⟨e, h, he⟩ := h
  by_cases h0 : e = 0
  · subst h0
    by_cases hs : s.size = 0
    · obtain rfl := size_zero hs
      exact (qend_done b w h).mono fun r w' k => ⟨0, k.1, k.2 ▸ But.refl _ _⟩
    · exact (qend_left b s w h hs).mono fun r w' k => ⟨4, k.1, k.2.2⟩
  · exact (qend_err b s e w h h0).mono fun r w' k => ⟨e, k.1, k.2 ▸ But.refl _ _⟩
theorem HBx.sv {bx : Nat} {t : TypeId} {h : Hd} {w : World} (k : HBx bx t h w) (n : Int) : HBx bx t { h with v := n } (w.setCell ⟨bx, 0, none⟩ (.int .i64 n)) := block_setCell _ k
theorem HBx.sg {bx : Nat} {t : TypeId} {h : Hd} {w : World} (k : HBx bx t h w) (n : Int) : HBx bx t { h with g := n } (w.setCell ⟨bx, 1, none⟩ (.int .i64 n)) := block_setCell _ k
theorem HBx.si {bx : Nat} {t : TypeId} {h : Hd} {w : World} (k : HBx bx t h w) (n : Int) : HBx bx t { h with i := n } (w.setCell ⟨bx, 2, none⟩ (.int .i64 n)) := block_setCell _ k
theorem HBx.sd {bx : Nat} {t : TypeId} {h : Hd} {w : World} (k : HBx bx t h w) (n : Int) : HBx bx t { h with d := n } (w.setCell ⟨bx, 3, none⟩ (.int .i64 n)) := block_setCell _ k
theorem HBx.ss {bx : Nat} {t : TypeId} {h : Hd} {w : World} (k : HBx bx t h w) (n : Int) : HBx bx t { h with s := n } (w.setCell ⟨bx, 4, none⟩ (.int .i64 n)) := block_setCell _ k
theorem HBx.sx {bx : Nat} {t : TypeId} {h : Hd} {w : World} (k : HBx bx t h w) (n : ByteArray) : HBx bx t { h with x := n } (w.setCell ⟨bx, 5, none⟩ (.string n)) := block_setCell _ k
theorem HBx.away {bx c o : Nat} {t : TypeId} {h : Hd} {w : World} (k : HBx bx t h w) (hne : bx ≠ c) (u : Value) : HBx bx t h (w.setCell ⟨c, o, none⟩ u) := (Below.heap_setCell _ _ _ _ hne).trans k
theorem RdAt.away {w : World} {b c o : Nat} {t : TypeId} {s : ByteArray} {e : Nat} (h : RdAt w b t s e) (hne : b ≠ c) (u : Value) : RdAt (w.setCell ⟨c, o, none⟩ u) b t s e := (Below.heap_setCell _ _ _ _ hne).trans h
theorem RdX.away {w : World} {b c o : Nat} {t : TypeId} {s : ByteArray} (h : RdX w b t s) (hne : b ≠ c) (u : Value) : RdX (w.setCell ⟨c, o, none⟩ u) b t s := by
  obtain ⟨e, h, he⟩ := h
  exact ⟨e, h.away hne u, he⟩
set_option maxRecDepth 100000 in
set_option maxHeartbeats 8000000 in
theorem rread_err (s : ByteArray) (w : World) (hs : s.size ≤ 100000) (h : opE s ≠ 0) : Calls Try.prog 15 #[.string s] w fun r w' => r = .returned (.tuple #[.agg (hcs Hd.zero), .int .i64 (opE s)]) ∧ Below w.heap.size w w' := by
  have HZ := hide (hbx_new 25 Hd.zero w)
  have HA : Hid (Below w.heap.size w (w.alloc (.cells (hcs Hd.zero) 25))) := (Below.refl _ _).alloc (Nat.le_refl _) _
  have HO := hide (refOpen_any s (w.alloc (.cells (hcs Hd.zero) 25)) hs)
  have hne : (opE s == 0) = false := by simpa using h
  have hne2 : (opE s != 0) = true := by simpa using h
  generalize opE s = E at *
  generalize opT s = T at *
  simp only [hcs, Hd.zero] at HA HO ⊢
  go_enter Try.func15, Try.ntmps15
  go_wp2_with fail
  refine HO.out.mono ?_
  rintro e w1 ⟨rfl, hb1⟩
  have HB1 := hide (HA.out.trans (hb1.mono HA.out.size))
  have HZ1 := hide (HZ.out.below hb1 HZ.out.lt)
  obtain ⟨⟨c0, c1, c2, c3, c4, c5⟩, f0, f1, f2, f3, f4, f5'⟩ := HZ1.out.cells
  clear hb1 HA HZ HO
  go_wp2_with fail
  refine bodyPost_ret (res_rh_tmp rfl _ _ w.heap.size Hd.zero rfl (HZ1.out.six Hd.zero)) rfl ⟨rfl, below_six HB1.out (Nat.le_refl _) Hd.zero⟩
set_option maxRecDepth 100000 in
set_option maxHeartbeats 8000000 in
theorem rread_short (s : ByteArray) (w : World) (hs : s.size ≤ 100000) (h : opE s = 0) (hl : (opT s).size < 2) : Calls Try.prog 15 #[.string s] w fun r w' => r = .returned (.tuple #[.agg (hcs Hd.zero), .int .i64 4]) ∧ Below w.heap.size w w' := by
  have HZ := hide (hbx_new 25 Hd.zero w)
  have HA : Hid (Below w.heap.size w (w.alloc (.cells (hcs Hd.zero) 25))) := (Below.refl _ _).alloc (Nat.le_refl _) _
  have HO := hide (refOpen_any s (w.alloc (.cells (hcs Hd.zero) 25)) hs)
  rw [h] at HO
  clear h
  generalize opT s = T at *
  have hl' : decide ((T.size : Int) < 2) = true := by simp; omega
  simp only [hcs, Hd.zero] at HA HO ⊢
  go_enter Try.func15, Try.ntmps15
  go_wp2_with fail
  refine HO.out.mono ?_
  rintro e w1 ⟨rfl, hb1⟩
  have HB1 := hide (HA.out.trans (hb1.mono HA.out.size))
  have HZ1 := hide (HZ.out.below hb1 HZ.out.lt)
  obtain ⟨⟨c0, c1, c2, c3, c4, c5⟩, f0, f1, f2, f3, f4, f5'⟩ := HZ1.out.cells
  clear hb1 HA HZ HO
  go_wp2_with fail
  refine bodyPost_ret (res_rh_tmp rfl _ _ w.heap.size Hd.zero rfl (HZ1.out.six Hd.zero)) rfl ⟨rfl, below_six HB1.out (Nat.le_refl _) Hd.zero⟩
set_option maxRecDepth 100000 in
set_option maxHeartbeats 8000000 in
theorem rread_no (s r : ByteArray) (w : World) (hs : s.size ≤ 100000) (h : opE s = 0) (hl : 2 ≤ (opT s).size) (hr : rest2 (opT s) = r) (hn : wS (tk r) ≠ s) : Calls Try.prog 15 #[.string s] w fun r w' => r = .returned (.tuple #[.agg (hcs Hd.zero), .int .i64 4]) ∧ Below w.heap.size w w' := by
  have HZ := hide (hbx_new 25 Hd.zero w)
  have HA : Hid (Below w.heap.size w (w.alloc (.cells (hcs Hd.zero) 25))) := (Below.refl _ _).alloc (Nat.le_refl _) _
  have HO := hide (refOpen_any s (w.alloc (.cells (hcs Hd.zero) 25)) hs)
  have hq := str_ne hn
  have hz : r.size ≤ 1000000 := by rw [← hr]; unfold rest2; rw [ByteArray.size_extract, (opE_zero h).2.2, headS_size]; omega
  rw [h] at HO
  clear h hn
  generalize opT s = T at *
  have hl' : decide ((T.size : Int) < 2) = false := by simp; omega
  have HRT : Hid (T.extract 2 T.size = r) := hr
  clear hr
  have l1 := rR_size r
  have l2 := rR_size (rR r)
  have l3 := rR_size (rR (rR r))
  have l4 := rR_size (rR (rR (rR r)))
  have l5 := rR_size (rR (rR (rR (rR r))))
  have HW := hide (refWrite_any (tk r))
  have HTK : Hid (tk r = ⟨(rN r : Nat), (rN (rR r) : Nat), (rN (rR (rR r)) : Nat), (rN (rR (rR (rR r))) : Nat), (rN (rR (rR (rR (rR r)))) : Nat), tT (rR (rR (rR (rR (rR r)))))⟩) := rfl
  have x1 := hide (qnum_x (s := r))
  have x2 := hide (qnum_x (s := (rR r)))
  have x3 := hide (qnum_x (s := (rR (rR r))))
  have x4 := hide (qnum_x (s := (rR (rR (rR r)))))
  have x5 := hide (qnum_x (s := (rR (rR (rR (rR r))))))
  have x6 := hide (qtext_x (s := (rR (rR (rR (rR (rR r)))))))
  generalize wS (tk r) = S at *
  generalize wE (tk r) = E at *
  generalize rN r = n1 at *
  generalize rN (rR r) = n2 at *
  generalize rN (rR (rR r)) = n3 at *
  generalize rN (rR (rR (rR r))) = n4 at *
  generalize rN (rR (rR (rR (rR r)))) = n5 at *
  generalize tT (rR (rR (rR (rR (rR r))))) = x at *
  rw [HTK.out] at HW
  clear HTK
  simp only [hcs, Hd.zero] at HA HO HW ⊢
  go_enter Try.func15, Try.ntmps15
  go_wp2_with fail
  refine HO.out.mono ?_
  rintro e w1 ⟨rfl, hb1⟩
  have HB1 := hide (HA.out.trans (hb1.mono HA.out.size))
  have HZ1 := hide (HZ.out.below hb1 HZ.out.lt)
  clear hb1 HA HZ HO
  go_wp2_with fail
  rw [HRT.out]
  have hal : Below w1.heap.size w1 ((w1.alloc (.cells #[.string r, .int .i64 0] 62)).alloc (.cells #[.int .i64 0, .int .i64 0, .int .i64 0, .int .i64 0, .int .i64 0, .string { data := #[] }] 25)) := ((Below.refl _ _).alloc (Nat.le_refl _) _).alloc (by rw [World.size_alloc]; omega) _
  have R0 : RdAt ((w1.alloc (.cells #[.string r, .int .i64 0] 62)).alloc (.cells #[.int .i64 0, .int .i64 0, .int .i64 0, .int .i64 0, .int .i64 0, .string { data := #[] }] 25)) w1.heap.size 62 r 0 := (Below.heap_alloc _ _ _ (by rw [World.size_alloc]; omega)).trans (heap_alloc_new w1 _)
  have Q1 : Hid (RdX ((w1.alloc (.cells #[.string r, .int .i64 0] 62)).alloc (.cells #[.int .i64 0, .int .i64 0, .int .i64 0, .int .i64 0, .int .i64 0, .string { data := #[] }] 25)) w1.heap.size 62 r) := ⟨0, R0, fun h => absurd rfl h⟩
  have HX1 : Hid (HBx (w1.heap.size + 1) 25 Hd.zero ((w1.alloc (.cells #[.string r, .int .i64 0] 62)).alloc (.cells #[.int .i64 0, .int .i64 0, .int .i64 0, .int .i64 0, .int .i64 0, .string { data := #[] }] 25))) := by
    have q := hbx_new 25 Hd.zero (w1.alloc (.cells #[.string r, .int .i64 0] 62))
    rw [World.size_alloc] at q
    exact q
  have HB2 := hide (HB1.out.trans (hal.mono HB1.out.size))
  have HZ2 := hide (HZ1.out.below hal HZ1.out.lt)
  have HLZ : Hid (w.heap.size < w1.heap.size) := HZ1.out.lt
  have HLE : Hid (w.heap.size ≤ w1.heap.size) := HB1.out.size
  clear hal R0 HB1 HZ1 HRT
  generalize ((w1.alloc (.cells #[.string r, .int .i64 0] 62)).alloc (.cells #[.int .i64 0, .int .i64 0, .int .i64 0, .int .i64 0, .int .i64 0, .string { data := #[] }] 25)) = W2 at *
  generalize w1.heap.size = b at *
  have N1 : Hid (b ≠ b + 1) := by show _ ≠ _; omega
  have N2 : Hid (w.heap.size ≠ b) := by show _ ≠ _; have := HLZ.out; omega
  have N3 : Hid (w.heap.size ≠ b + 1) := by show _ ≠ _; have := HLZ.out; omega
  have N4 : Hid (b + 1 ≠ b) := by show _ ≠ _; omega
  have M1 : Hid (w.heap.size ≤ b + 1) := by show _ ≤ _; have := HLE.out; omega
  refine (x1.out b W2 Q1.out (by omega)).mono ?_
  rintro e u3 ⟨rfl, hr2, hb2⟩
  have hx2 := HX1.out.but hb2 N4.out
  obtain ⟨⟨c0, c1, c2, c3, c4, c5⟩, f0, f1, f2, f3, f4, f5'⟩ := hx2.cells
  have hb3 := HB2.out.trans (hb2.below HLE.out)
  have hz3 := HZ2.out.but hb2 N2.out
  clear hb2
  go_wp2_with fail
  have HX2 := hide (hx2.sv (n1 : Int))
  have HZ3 : Hid (HBx w.heap.size 25 Hd.zero (u3.setCell ⟨b + 1, 0, none⟩ (.int .i64 (n1 : Int)))) := hz3.away N3.out _
  have HB3 : Hid (Below w.heap.size w (u3.setCell ⟨b + 1, 0, none⟩ (.int .i64 (n1 : Int)))) := hb3.setCell M1.out _
  have Q2 := hide (hr2.away (o := 0) N1.out (.int .i64 (n1 : Int)))
  clear hr2 hx2 hb3 hz3 c0 c1 c2 c3 c4 c5 f0 f1 f2 f3 f4 f5' HX1 HZ2 HB2 Q1 x1
  generalize (u3.setCell ⟨b + 1, 0, none⟩ (.int .i64 (n1 : Int))) = W3 at *
  refine (x2.out b W3 Q2.out (by omega)).mono ?_
  rintro e u4 ⟨rfl, hr2, hb2⟩
  have hx2 := HX2.out.but hb2 N4.out
  obtain ⟨⟨c0, c1, c2, c3, c4, c5⟩, f0, f1, f2, f3, f4, f5'⟩ := hx2.cells
  have hb3 := HB3.out.trans (hb2.below HLE.out)
  have hz3 := HZ3.out.but hb2 N2.out
  clear hb2
  go_wp2_with fail
  have HX3 := hide (hx2.sg (n2 : Int))
  have HZ4 : Hid (HBx w.heap.size 25 Hd.zero (u4.setCell ⟨b + 1, 1, none⟩ (.int .i64 (n2 : Int)))) := hz3.away N3.out _
  have HB4 : Hid (Below w.heap.size w (u4.setCell ⟨b + 1, 1, none⟩ (.int .i64 (n2 : Int)))) := hb3.setCell M1.out _
  have Q3 := hide (hr2.away (o := 1) N1.out (.int .i64 (n2 : Int)))
  clear hr2 hx2 hb3 hz3 c0 c1 c2 c3 c4 c5 f0 f1 f2 f3 f4 f5' HX2 HZ3 HB3 Q2 x2
  generalize (u4.setCell ⟨b + 1, 1, none⟩ (.int .i64 (n2 : Int))) = W4 at *
  refine (x3.out b W4 Q3.out (by omega)).mono ?_
  rintro e u5 ⟨rfl, hr2, hb2⟩
  have hx2 := HX3.out.but hb2 N4.out
  obtain ⟨⟨c0, c1, c2, c3, c4, c5⟩, f0, f1, f2, f3, f4, f5'⟩ := hx2.cells
  have hb3 := HB4.out.trans (hb2.below HLE.out)
  have hz3 := HZ4.out.but hb2 N2.out
  clear hb2
  go_wp2_with fail
  have HX4 := hide (hx2.si (n3 : Int))
  have HZ5 : Hid (HBx w.heap.size 25 Hd.zero (u5.setCell ⟨b + 1, 2, none⟩ (.int .i64 (n3 : Int)))) := hz3.away N3.out _
  have HB5 : Hid (Below w.heap.size w (u5.setCell ⟨b + 1, 2, none⟩ (.int .i64 (n3 : Int)))) := hb3.setCell M1.out _
  have Q4 := hide (hr2.away (o := 2) N1.out (.int .i64 (n3 : Int)))
  clear hr2 hx2 hb3 hz3 c0 c1 c2 c3 c4 c5 f0 f1 f2 f3 f4 f5' HX3 HZ4 HB4 Q3 x3
  generalize (u5.setCell ⟨b + 1, 2, none⟩ (.int .i64 (n3 : Int))) = W5 at *
  refine (x4.out b W5 Q4.out (by omega)).mono ?_
  rintro e u6 ⟨rfl, hr2, hb2⟩
  have hx2 := HX4.out.but hb2 N4.out
  obtain ⟨⟨c0, c1, c2, c3, c4, c5⟩, f0, f1, f2, f3, f4, f5'⟩ := hx2.cells
  have hb3 := HB5.out.trans (hb2.below HLE.out)
  have hz3 := HZ5.out.but hb2 N2.out
  clear hb2
  go_wp2_with fail
  have HX5 := hide (hx2.sd (n4 : Int))
  have HZ6 : Hid (HBx w.heap.size 25 Hd.zero (u6.setCell ⟨b + 1, 3, none⟩ (.int .i64 (n4 : Int)))) := hz3.away N3.out _
  have HB6 : Hid (Below w.heap.size w (u6.setCell ⟨b + 1, 3, none⟩ (.int .i64 (n4 : Int)))) := hb3.setCell M1.out _
  have Q5 := hide (hr2.away (o := 3) N1.out (.int .i64 (n4 : Int)))
  clear hr2 hx2 hb3 hz3 c0 c1 c2 c3 c4 c5 f0 f1 f2 f3 f4 f5' HX4 HZ5 HB5 Q4 x4
  generalize (u6.setCell ⟨b + 1, 3, none⟩ (.int .i64 (n4 : Int))) = W6 at *
  refine (x5.out b W6 Q5.out (by omega)).mono ?_
  rintro e u7 ⟨rfl, hr2, hb2⟩
  have hx2 := HX5.out.but hb2 N4.out
  obtain ⟨⟨c0, c1, c2, c3, c4, c5⟩, f0, f1, f2, f3, f4, f5'⟩ := hx2.cells
  have hb3 := HB6.out.trans (hb2.below HLE.out)
  have hz3 := HZ6.out.but hb2 N2.out
  clear hb2
  go_wp2_with fail
  have HX6 := hide (hx2.ss (n5 : Int))
  have HZ7 : Hid (HBx w.heap.size 25 Hd.zero (u7.setCell ⟨b + 1, 4, none⟩ (.int .i64 (n5 : Int)))) := hz3.away N3.out _
  have HB7 : Hid (Below w.heap.size w (u7.setCell ⟨b + 1, 4, none⟩ (.int .i64 (n5 : Int)))) := hb3.setCell M1.out _
  have Q6 := hide (hr2.away (o := 4) N1.out (.int .i64 (n5 : Int)))
  clear hr2 hx2 hb3 hz3 c0 c1 c2 c3 c4 c5 f0 f1 f2 f3 f4 f5' HX5 HZ6 HB6 Q5 x5
  generalize (u7.setCell ⟨b + 1, 4, none⟩ (.int .i64 (n5 : Int))) = W7 at *
  refine (x6.out b W7 Q6.out (by omega)).mono ?_
  rintro e u8 ⟨rfl, hr2, hb2⟩
  have hx2 := HX6.out.but hb2 N4.out
  obtain ⟨⟨c0, c1, c2, c3, c4, c5⟩, f0, f1, f2, f3, f4, f5'⟩ := hx2.cells
  have hb3 := HB7.out.trans (hb2.below HLE.out)
  have hz3 := HZ7.out.but hb2 N2.out
  clear hb2
  go_wp2_with fail
  have HX7 := hide (hx2.sx x)
  have HZ8 : Hid (HBx w.heap.size 25 Hd.zero (u8.setCell ⟨b + 1, 5, none⟩ (.string x))) := hz3.away N3.out _
  have HB8 : Hid (Below w.heap.size w (u8.setCell ⟨b + 1, 5, none⟩ (.string x))) := hb3.setCell M1.out _
  have Q7 := hide (hr2.away (o := 5) N1.out (.string x))
  clear hr2 hx2 hb3 hz3 c0 c1 c2 c3 c4 c5 f0 f1 f2 f3 f4 f5' HX6 HZ7 HB7 Q6 x6
  generalize (u8.setCell ⟨b + 1, 5, none⟩ (.string x)) = W8 at *
  obtain ⟨⟨d0, d1, d2, d3, d4, d5⟩, -⟩ := HX7.out.cells
  simp only at d0 d1 d2 d3 d4 d5
  go_wp2_with fail
  refine (HW.out W8).mono ?_
  rintro e w9 ⟨rfl, hb1⟩
  have HB9 := hide (HB8.out.trans (hb1.mono HB8.out.size))
  have HZ9 := hide (HZ8.out.below hb1 HZ8.out.lt)
  have HX9 := hide (HX7.out.below hb1 HX7.out.lt)
  have Q9 := hide (Q7.out.but hb1)
  clear hb1 HB8 HZ8 HX7 Q7 HW d0 d1 d2 d3 d4 d5
  go_wp2_with fail
  refine (qend_x b _ w9 Q9.out).mono ?_
  rintro e w10 ⟨e', rfl, hb1⟩
  have HB10 := hide (HB9.out.trans (hb1.below HLE.out))
  have HZ10 := hide (HZ9.out.but hb1 N2.out)
  obtain ⟨⟨c0, c1, c2, c3, c4, c5⟩, f0, f1, f2, f3, f4, f5'⟩ := HZ10.out.cells
  clear hb1 HB9 HZ9 HX9 Q9
  by_cases he : e' = 0
  · subst he
    by_cases hE : E = 0
    · subst hE
      go_wp2_with fail
      refine bodyPost_ret (res_rh_tmp rfl _ _ w.heap.size Hd.zero rfl (HZ10.out.six Hd.zero)) rfl ⟨rfl, below_six HB10.out (Nat.le_refl _) Hd.zero⟩
    · have hE2 : (E != 0) = true := by simpa using hE
      have hE3 : (E == 0) = false := by simpa using hE
      clear hE
      go_wp2_with fail
      refine bodyPost_ret (res_rh_tmp rfl _ _ w.heap.size Hd.zero rfl (HZ10.out.six Hd.zero)) rfl ⟨rfl, below_six HB10.out (Nat.le_refl _) Hd.zero⟩
  · have hE2 : (e' != 0) = true := by simpa using he
    have hE3 : (e' == 0) = false := by simpa using he
    clear he
    go_wp2_with fail
    refine bodyPost_ret (res_rh_tmp rfl _ _ w.heap.size Hd.zero rfl (HZ10.out.six Hd.zero)) rfl ⟨rfl, below_six HB10.out (Nat.le_refl _) Hd.zero⟩
set_option maxRecDepth 100000 in
set_option maxHeartbeats 8000000 in
theorem rread_yes (s r : ByteArray) (w : World) (hs : s.size ≤ 100000) (h : opE s = 0) (hl : 2 ≤ (opT s).size) (hr : rest2 (opT s) = r) (hn : wS (tk r) = s) : Calls Try.prog 15 #[.string s] w fun q w' => q = .returned (.tuple #[.agg (hcs (tk r)), .int .i64 0]) ∧ Below w.heap.size w w' := by
  have HZ := hide (hbx_new 25 Hd.zero w)
  have HA : Hid (Below w.heap.size w (w.alloc (.cells (hcs Hd.zero) 25))) := (Below.refl _ _).alloc (Nat.le_refl _) _
  have HO := hide (refOpen_any s (w.alloc (.cells (hcs Hd.zero) 25)) hs)
  have hq := str_eq hn
  have hz : r.size ≤ 1000000 := by rw [← hr]; unfold rest2; rw [ByteArray.size_extract, (opE_zero h).2.2, headS_size]; omega
  obtain ⟨k1, k2, k3, k4, k5, k6, k7⟩ := read_clean h hr hn
  have hE0 := (wS_some (opE_zero h).1 hn).1
  rw [h] at HO
  clear h hn
  generalize opT s = T at *
  have hl' : decide ((T.size : Int) < 2) = false := by simp; omega
  have HRT : Hid (T.extract 2 T.size = r) := hr
  clear hr
  have l1 := rR_size r
  have l2 := rR_size (rR r)
  have l3 := rR_size (rR (rR r))
  have l4 := rR_size (rR (rR (rR r)))
  have l5 := rR_size (rR (rR (rR (rR r))))
  have HW := hide (refWrite_any (tk r))
  have HTK : Hid (tk r = ⟨(rN r : Nat), (rN (rR r) : Nat), (rN (rR (rR r)) : Nat), (rN (rR (rR (rR r))) : Nat), (rN (rR (rR (rR (rR r)))) : Nat), tT (rR (rR (rR (rR (rR r)))))⟩) := rfl
  have x1 := hide (qnum_ok (s := r))
  have x2 := hide (qnum_ok (s := (rR r)))
  have x3 := hide (qnum_ok (s := (rR (rR r))))
  have x4 := hide (qnum_ok (s := (rR (rR (rR r)))))
  have x5 := hide (qnum_ok (s := (rR (rR (rR (rR r))))))
  have x6 := hide (qtext_ok (s := (rR (rR (rR (rR (rR r)))))))
  rw [k1] at x1
  rw [k2] at x2
  rw [k3] at x3
  rw [k4] at x4
  rw [k5] at x5
  rw [k6, k7] at x6
  clear k1 k2 k3 k4 k5 k6 k7
  generalize wS (tk r) = S at *
  generalize wE (tk r) = E at *
  generalize rN r = n1 at *
  generalize rN (rR r) = n2 at *
  generalize rN (rR (rR r)) = n3 at *
  generalize rN (rR (rR (rR r))) = n4 at *
  generalize rN (rR (rR (rR (rR r)))) = n5 at *
  generalize tT (rR (rR (rR (rR (rR r))))) = x at *
  rw [HTK.out] at HW ⊢
  clear HTK
  subst hE0
  simp only [hcs, Hd.zero] at HA HO HW ⊢
  go_enter Try.func15, Try.ntmps15
  go_wp2_with fail
  refine HO.out.mono ?_
  rintro e w1 ⟨rfl, hb1⟩
  have HB1 := hide (HA.out.trans (hb1.mono HA.out.size))
  have HZ1 := hide (HZ.out.below hb1 HZ.out.lt)
  clear hb1 HA HZ HO
  go_wp2_with fail
  rw [HRT.out]
  have hal : Below w1.heap.size w1 ((w1.alloc (.cells #[.string r, .int .i64 0] 62)).alloc (.cells #[.int .i64 0, .int .i64 0, .int .i64 0, .int .i64 0, .int .i64 0, .string { data := #[] }] 25)) := ((Below.refl _ _).alloc (Nat.le_refl _) _).alloc (by rw [World.size_alloc]; omega) _
  have R0 : RdAt ((w1.alloc (.cells #[.string r, .int .i64 0] 62)).alloc (.cells #[.int .i64 0, .int .i64 0, .int .i64 0, .int .i64 0, .int .i64 0, .string { data := #[] }] 25)) w1.heap.size 62 r 0 := (Below.heap_alloc _ _ _ (by rw [World.size_alloc]; omega)).trans (heap_alloc_new w1 _)
  have Q1 : Hid (RdAt ((w1.alloc (.cells #[.string r, .int .i64 0] 62)).alloc (.cells #[.int .i64 0, .int .i64 0, .int .i64 0, .int .i64 0, .int .i64 0, .string { data := #[] }] 25)) w1.heap.size 62 r 0) := R0
  have HX1 : Hid (HBx (w1.heap.size + 1) 25 Hd.zero ((w1.alloc (.cells #[.string r, .int .i64 0] 62)).alloc (.cells #[.int .i64 0, .int .i64 0, .int .i64 0, .int .i64 0, .int .i64 0, .string { data := #[] }] 25))) := by
    have q := hbx_new 25 Hd.zero (w1.alloc (.cells #[.string r, .int .i64 0] 62))
    rw [World.size_alloc] at q
    exact q
  have HB2 := hide (HB1.out.trans (hal.mono HB1.out.size))
  have HZ2 := hide (HZ1.out.below hal HZ1.out.lt)
  have HLZ : Hid (w.heap.size < w1.heap.size) := HZ1.out.lt
  have HLE : Hid (w.heap.size ≤ w1.heap.size) := HB1.out.size
  clear hal R0 HB1 HZ1 HRT
  generalize ((w1.alloc (.cells #[.string r, .int .i64 0] 62)).alloc (.cells #[.int .i64 0, .int .i64 0, .int .i64 0, .int .i64 0, .int .i64 0, .string { data := #[] }] 25)) = W2 at *
  generalize w1.heap.size = b at *
  have N1 : Hid (b ≠ b + 1) := by show _ ≠ _; omega
  have N2 : Hid (w.heap.size ≠ b) := by show _ ≠ _; have := HLZ.out; omega
  have N3 : Hid (w.heap.size ≠ b + 1) := by show _ ≠ _; have := HLZ.out; omega
  have N4 : Hid (b + 1 ≠ b) := by show _ ≠ _; omega
  have M1 : Hid (w.heap.size ≤ b + 1) := by show _ ≤ _; have := HLE.out; omega
  refine (x1.out b W2 Q1.out (by omega)).mono ?_
  rintro e u3 ⟨rfl, hr2, hb2⟩
  have hx2 := HX1.out.but hb2 N4.out
  obtain ⟨⟨c0, c1, c2, c3, c4, c5⟩, f0, f1, f2, f3, f4, f5'⟩ := hx2.cells
  have hb3 := HB2.out.trans (hb2.below HLE.out)
  have hz3 := HZ2.out.but hb2 N2.out
  clear hb2
  go_wp2_with fail
  have HX2 := hide (hx2.sv (n1 : Int))
  have HZ3 : Hid (HBx w.heap.size 25 Hd.zero (u3.setCell ⟨b + 1, 0, none⟩ (.int .i64 (n1 : Int)))) := hz3.away N3.out _
  have HB3 : Hid (Below w.heap.size w (u3.setCell ⟨b + 1, 0, none⟩ (.int .i64 (n1 : Int)))) := hb3.setCell M1.out _
  have Q2 := hide (hr2.away (o := 0) N1.out (.int .i64 (n1 : Int)))
  clear hr2 hx2 hb3 hz3 c0 c1 c2 c3 c4 c5 f0 f1 f2 f3 f4 f5' HX1 HZ2 HB2 Q1 x1
  generalize (u3.setCell ⟨b + 1, 0, none⟩ (.int .i64 (n1 : Int))) = W3 at *
  refine (x2.out b W3 Q2.out (by omega)).mono ?_
  rintro e u4 ⟨rfl, hr2, hb2⟩
  have hx2 := HX2.out.but hb2 N4.out
  obtain ⟨⟨c0, c1, c2, c3, c4, c5⟩, f0, f1, f2, f3, f4, f5'⟩ := hx2.cells
  have hb3 := HB3.out.trans (hb2.below HLE.out)
  have hz3 := HZ3.out.but hb2 N2.out
  clear hb2
  go_wp2_with fail
  have HX3 := hide (hx2.sg (n2 : Int))
  have HZ4 : Hid (HBx w.heap.size 25 Hd.zero (u4.setCell ⟨b + 1, 1, none⟩ (.int .i64 (n2 : Int)))) := hz3.away N3.out _
  have HB4 : Hid (Below w.heap.size w (u4.setCell ⟨b + 1, 1, none⟩ (.int .i64 (n2 : Int)))) := hb3.setCell M1.out _
  have Q3 := hide (hr2.away (o := 1) N1.out (.int .i64 (n2 : Int)))
  clear hr2 hx2 hb3 hz3 c0 c1 c2 c3 c4 c5 f0 f1 f2 f3 f4 f5' HX2 HZ3 HB3 Q2 x2
  generalize (u4.setCell ⟨b + 1, 1, none⟩ (.int .i64 (n2 : Int))) = W4 at *
  refine (x3.out b W4 Q3.out (by omega)).mono ?_
  rintro e u5 ⟨rfl, hr2, hb2⟩
  have hx2 := HX3.out.but hb2 N4.out
  obtain ⟨⟨c0, c1, c2, c3, c4, c5⟩, f0, f1, f2, f3, f4, f5'⟩ := hx2.cells
  have hb3 := HB4.out.trans (hb2.below HLE.out)
  have hz3 := HZ4.out.but hb2 N2.out
  clear hb2
  go_wp2_with fail
  have HX4 := hide (hx2.si (n3 : Int))
  have HZ5 : Hid (HBx w.heap.size 25 Hd.zero (u5.setCell ⟨b + 1, 2, none⟩ (.int .i64 (n3 : Int)))) := hz3.away N3.out _
  have HB5 : Hid (Below w.heap.size w (u5.setCell ⟨b + 1, 2, none⟩ (.int .i64 (n3 : Int)))) := hb3.setCell M1.out _
  have Q4 := hide (hr2.away (o := 2) N1.out (.int .i64 (n3 : Int)))
  clear hr2 hx2 hb3 hz3 c0 c1 c2 c3 c4 c5 f0 f1 f2 f3 f4 f5' HX3 HZ4 HB4 Q3 x3
  generalize (u5.setCell ⟨b + 1, 2, none⟩ (.int .i64 (n3 : Int))) = W5 at *
  refine (x4.out b W5 Q4.out (by omega)).mono ?_
  rintro e u6 ⟨rfl, hr2, hb2⟩
  have hx2 := HX4.out.but hb2 N4.out
  obtain ⟨⟨c0, c1, c2, c3, c4, c5⟩, f0, f1, f2, f3, f4, f5'⟩ := hx2.cells
  have hb3 := HB5.out.trans (hb2.below HLE.out)
  have hz3 := HZ5.out.but hb2 N2.out
  clear hb2
  go_wp2_with fail
  have HX5 := hide (hx2.sd (n4 : Int))
  have HZ6 : Hid (HBx w.heap.size 25 Hd.zero (u6.setCell ⟨b + 1, 3, none⟩ (.int .i64 (n4 : Int)))) := hz3.away N3.out _
  have HB6 : Hid (Below w.heap.size w (u6.setCell ⟨b + 1, 3, none⟩ (.int .i64 (n4 : Int)))) := hb3.setCell M1.out _
  have Q5 := hide (hr2.away (o := 3) N1.out (.int .i64 (n4 : Int)))
  clear hr2 hx2 hb3 hz3 c0 c1 c2 c3 c4 c5 f0 f1 f2 f3 f4 f5' HX4 HZ5 HB5 Q4 x4
  generalize (u6.setCell ⟨b + 1, 3, none⟩ (.int .i64 (n4 : Int))) = W6 at *
  refine (x5.out b W6 Q5.out (by omega)).mono ?_
  rintro e u7 ⟨rfl, hr2, hb2⟩
  have hx2 := HX5.out.but hb2 N4.out
  obtain ⟨⟨c0, c1, c2, c3, c4, c5⟩, f0, f1, f2, f3, f4, f5'⟩ := hx2.cells
  have hb3 := HB6.out.trans (hb2.below HLE.out)
  have hz3 := HZ6.out.but hb2 N2.out
  clear hb2
  go_wp2_with fail
  have HX6 := hide (hx2.ss (n5 : Int))
  have HZ7 : Hid (HBx w.heap.size 25 Hd.zero (u7.setCell ⟨b + 1, 4, none⟩ (.int .i64 (n5 : Int)))) := hz3.away N3.out _
  have HB7 : Hid (Below w.heap.size w (u7.setCell ⟨b + 1, 4, none⟩ (.int .i64 (n5 : Int)))) := hb3.setCell M1.out _
  have Q6 := hide (hr2.away (o := 4) N1.out (.int .i64 (n5 : Int)))
  clear hr2 hx2 hb3 hz3 c0 c1 c2 c3 c4 c5 f0 f1 f2 f3 f4 f5' HX5 HZ6 HB6 Q5 x5
  generalize (u7.setCell ⟨b + 1, 4, none⟩ (.int .i64 (n5 : Int))) = W7 at *
  refine (x6.out b W7 Q6.out (by omega)).mono ?_
  rintro e u8 ⟨rfl, hr2, hb2⟩
  have hx2 := HX6.out.but hb2 N4.out
  obtain ⟨⟨c0, c1, c2, c3, c4, c5⟩, f0, f1, f2, f3, f4, f5'⟩ := hx2.cells
  have hb3 := HB7.out.trans (hb2.below HLE.out)
  have hz3 := HZ7.out.but hb2 N2.out
  clear hb2
  go_wp2_with fail
  have HX7 := hide (hx2.sx x)
  have HZ8 : Hid (HBx w.heap.size 25 Hd.zero (u8.setCell ⟨b + 1, 5, none⟩ (.string x))) := hz3.away N3.out _
  have HB8 : Hid (Below w.heap.size w (u8.setCell ⟨b + 1, 5, none⟩ (.string x))) := hb3.setCell M1.out _
  have Q7 := hide (hr2.away (o := 5) N1.out (.string x))
  clear hr2 hx2 hb3 hz3 c0 c1 c2 c3 c4 c5 f0 f1 f2 f3 f4 f5' HX6 HZ7 HB7 Q6 x6
  generalize (u8.setCell ⟨b + 1, 5, none⟩ (.string x)) = W8 at *
  obtain ⟨⟨d0, d1, d2, d3, d4, d5⟩, -⟩ := HX7.out.cells
  simp only at d0 d1 d2 d3 d4 d5
  go_wp2_with fail
  refine (HW.out W8).mono ?_
  rintro e w9 ⟨rfl, hb1⟩
  have HB9 := hide (HB8.out.trans (hb1.mono HB8.out.size))
  have HZ9 := hide (HZ8.out.below hb1 HZ8.out.lt)
  have HX9 := hide (HX7.out.below hb1 HX7.out.lt)
  have Q9 := hide (Q7.out.below hb1 Q7.out.lt)
  clear hb1 HB8 HZ8 HX7 Q7 HW d0 d1 d2 d3 d4 d5
  go_wp2_with fail
  refine (qend_done b w9 Q9.out).mono ?_
  rintro e _ ⟨rfl, rfl⟩
  obtain ⟨⟨c0, c1, c2, c3, c4, c5⟩, f0, f1, f2, f3, f4, f5'⟩ := HZ9.out.cells
  obtain ⟨⟨d0, d1, d2, d3, d4, d5⟩, -⟩ := HX9.out.cells
  simp only at d0 d1 d2 d3 d4 d5
  go_wp2_with fail
  refine bodyPost_ret (res_rh_tmp rfl _ _ w.heap.size ⟨(n1 : Int), (n2 : Int), (n3 : Int), (n4 : Int), (n5 : Int), x⟩ rfl (HZ9.out.six ⟨(n1 : Int), (n2 : Int), (n3 : Int), (n4 : Int), (n5 : Int), x⟩)) rfl ⟨rfl, below_six HB9.out (Nat.le_refl _) ⟨(n1 : Int), (n2 : Int), (n3 : Int), (n4 : Int), (n5 : Int), x⟩⟩
theorem rread_any (s : ByteArray) (w : World) (hs : s.size ≤ 100000) : Calls Try.prog 15 #[.string s] w fun r w' => r = .returned (.tuple #[.agg (hcs (rdH s)), .int .i64 (rdE s)]) ∧ Below w.heap.size w w' := by
  by_cases h : opE s = 0
  · by_cases hl : (opT s).size < 2
    · have e1 : rdE s = 4 := by unfold rdE; rw [if_pos h, if_neg (short_not h hl _)]
      have e2 : rdH s = Hd.zero := by unfold rdH; rw [if_neg (by rw [e1]; decide)]
      rw [e1, e2]
      exact rread_short s w hs h hl
    · by_cases hn : wS (tk (rest2 (opT s))) = s
      · have e1 : rdE s = 0 := by unfold rdE; rw [if_pos h, if_pos hn]
        have e2 : rdH s = tk (rest2 (opT s)) := by unfold rdH; rw [if_pos e1]
        rw [e1, e2]
        exact rread_yes s _ w hs h (by omega) rfl hn
      · have e1 : rdE s = 4 := by unfold rdE; rw [if_pos h, if_neg hn]
        have e2 : rdH s = Hd.zero := by unfold rdH; rw [if_neg (by rw [e1]; decide)]
        rw [e1, e2]
        exact rread_no s _ w hs h (by omega) rfl hn
  · have e1 : rdE s = opE s := by unfold rdE; rw [if_neg h]
    have e2 : rdH s = Hd.zero := by unfold rdH; rw [if_neg (by rw [e1]; exact h)]
    rw [e1, e2]
    exact rread_err s w hs h
end Go.Proofs.Ytjcabdgikkmlpaa
