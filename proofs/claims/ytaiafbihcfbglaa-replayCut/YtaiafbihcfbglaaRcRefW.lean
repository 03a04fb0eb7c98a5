/- What the document's Write answers. -/
import Derived.Test.YtaiafbihcfbglaaRcRefCheck
import Derived.Test.YtaiafbihcfbglaaRcW
import Derived.Test.YtaiafbihcfbglaaPkRefs
namespace Go.Proofs.Ytaiafbihcfbglaa
open Go.RowKit
set_option linter.unusedVariables false
theorem refnum_q (n : Int) (wr : World) : ∀ q os, Calls Try.prog 46 #[.int .i64 n] (Go.Sort.grow (redrawn wr q) os) fun e w'' => e = .returned (.string (numI n)) ∧ ∃ p : Regrown, w'' = Go.Sort.grow (redrawn wr p.d) p.os := fun q os => Calls.regrown_of (refNum_any n _)
theorem reftext_q (s : ByteArray) (wr : World) (hs : s.size ≤ 1000000) : ∀ q os, Calls Try.prog 48 #[.string s] (Go.Sort.grow (redrawn wr q) os) fun e w'' => e = .returned (.string (textS s)) ∧ ∃ p : Regrown, w'' = Go.Sort.grow (redrawn wr p.d) p.os := fun q os => Calls.regrown_of (refText_any s _ hs)
theorem no_over {a b : Nat} (h : a + b ≤ 1000000) : ¬ 9223372036854775807 < a + b := by omega
set_option maxRecDepth 100000 in
set_option maxHeartbeats 8000000 in
theorem qwrite_bad (r : Rc) (a : Option Addr) (c : Nat) (w : World) (hS : LocsAt w a r.ls) (hf : r.fit) (h : ckR r ≠ 0) : Calls Try.prog 30 #[.agg (rcs r a c)] w fun e w' => e = .returned (.tuple #[.string ByteArray.empty, .int .i64 (ckR r)]) ∧ Below w.heap.size w w' := by
  have HB1 : Hid (Below w.heap.size w (w.alloc (.cells (rcs r a c) 33))) := (Below.refl _ _).alloc (Nat.le_refl _) _
  have HR1 := hide (rbx_new 33 r a c w)
  have HC := hide (rk_any r a c (w.alloc (.cells (rcs r a c) 33)) (hS.below HB1.out) hf)
  have hq : (ckR r == 0) = false := by simpa using h
  have hq2 : (ckR r != 0) = true := by simpa using h
  clear hS hf h
  generalize ckR r = E at *
  go_enter Try.func30, Try.ntmps30
  go_upto_region 1 with fail
  generalize w.alloc (.cells (rcs r a c) 33) = W1 at *
  go_wp2_with (first | (refine wpList_load_row rfl 33 (.tmp 1) rfl w.heap.size rfl 33 (rcs r a c) (0, 0) _ HR1.out Try.underlying33 rfl ref_info ?_))
  refine HC.out.mono ?_
  rintro e w2 ⟨rfl, hb⟩
  have HB2 := hide (HB1.out.trans (hb.mono HB1.out.size))
  clear hb
  go_wp2_with fail
  try go_ret2
  exact ⟨rfl, HB2.out⟩
set_option maxRecDepth 100000 in
set_option maxHeartbeats 8000000 in
theorem qwrite0 (r : Rc) (a : Option Addr) (c : Nat) (w : World) (hS : LocsAt w a r.ls) (hf : r.fit) (h : ckR r = 0) (hk : r.kind = 0) (hl : r.ls.length = 9) (h6 : r.ek.size ≤ 1000) (h10 : r.ed.size ≤ 1000) : Calls Try.prog 30 #[.agg (rcs r a c)] w fun e w' => e = .returned (.tuple #[.string (sealS (bodyR r)), .int .i64 0]) ∧ Below w.heap.size w w' := by
  have HB1 : Hid (Below w.heap.size w (w.alloc (.cells (rcs r a c) 33))) := (Below.refl _ _).alloc (Nat.le_refl _) _
  have HR1 := hide (rbx_new 33 r a c w)
  have HC := hide (rk_any r a c (w.alloc (.cells (rcs r a c) 33)) (hS.below HB1.out) hf)
  have HS := hide hS
  have k0 : (r.kind == 0) = true := by rw [hk]; rfl
  have k1 : (r.kind == 1) = false := by rw [hk]; rfl
  have k3 : (r.kind == 3) = false := by rw [hk]; rfl
  have HQ : Hid (({ data := #[83, 74] } : ByteArray) ++ numI r.seq ++ numI r.kind ++ numI r.vid ++ numI r.vgen ++ numI r.vlen ++ locB r.ls ++ textS r.ek ++ numI r.eo ++ numI r.el ++ r.ed = bodyR r) := by
    show _ = _
    change sSJ ++ _ ++ _ ++ _ ++ _ ++ _ ++ _ ++ _ ++ _ ++ _ ++ _ = _
    have hp : partB r = volB r.vid r.vgen r.vlen r.ls ++ (textS r.ek ++ (numI r.eo ++ (numI r.el ++ r.ed))) := by unfold partB; rw [if_pos hk]
    unfold bodyR innR
    rw [hp]
    unfold volB
    simp only [bapp]
  have hz := bodyR_size h
  rw [h] at HC
  have z1 := numI_8 r.seq
  have z2 := numI_8 r.kind
  have HL := hide hl
  clear hS hf h hk hl
  go_enter Try.func30, Try.ntmps30
  go_upto_region 1 with fail
  generalize w.alloc (.cells (rcs r a c) 33) = W1 at *
  generalize hbx : w.heap.size = bx at HR1 ⊢
  go_wp2_with (first | (refine wpList_load_row rfl 33 (.tmp 1) rfl bx rfl 33 (rcs r a c) (0, 0) _ HR1.out Try.underlying33 rfl ref_info ?_))
  refine HC.out.mono ?_
  rintro e w2 ⟨rfl, hb⟩
  have HB2 := hide (HB1.out.trans (hb.mono HB1.out.size))
  have HR2 := hide (HR1.out.below hb HR1.out.lt)
  clear hb HC HR1 HB1 hbx
  have e0 := cell_regrown HR2.out.c0
  have e1 := cell_regrown HR2.out.c1
  have r0 := refnum_q r.seq w2
  have r1 := refnum_q r.kind w2
  have y1 : ¬ 9223372036854775807 < 2 + (numI r.seq).size := no_over (by omega)
  have y2 : ¬ 9223372036854775807 < 2 + (numI r.seq).size + (numI r.kind).size := no_over (by omega)
  go_upto_region 4 with fail
  refine wp_region_quiet_below (by kernel_rfl) (by kernel_rfl) ?_
  repeat (quiet_step (first | (with_reducible exact r0 _ _) | (with_reducible exact r1 _ _)))
  refine wpQuiet_nil ?_
  intro _ hw'
  obtain ⟨pq, hw''⟩ := hw'
  subst hw''
  have hbq := below_regrown w2 pq.d pq.os
  generalize Go.Sort.grow (redrawn w2 pq.d) pq.os = w3 at *
  have HB3 := hide (HB2.out.trans (hbq.mono HB2.out.size))
  have HR3 := hide (HR2.out.below hbq HR2.out.lt)
  clear hbq e0 e1 r0 r1 y1 y2 HB2 HR2
  have hP1 : (({ data := #[83, 74] } : ByteArray) ++ numI r.seq ++ numI r.kind).size ≤ 18 := by rw [ByteArray.size_append, ByteArray.size_append, show ({ data := #[83, 74] } : ByteArray).size = 2 from rfl]; omega
  generalize ({ data := #[83, 74] } : ByteArray) ++ numI r.seq ++ numI r.kind = P1 at *
  have c1 := HR3.out.c1
  have c2 := HR3.out.c2
  have c3 := HR3.out.c3
  have c4 := HR3.out.c4
  have c5 := HR3.out.c5
  have hal : Below w3.heap.size w3 (w3.alloc (.cells #[.int .i64 r.vid, .int .i64 r.vgen, .int .i64 r.vlen, .slice a r.ls.length c] 29)) := (Below.refl _ _).alloc (Nat.le_refl _) _
  have HB4 := hide (HB3.out.trans (hal.mono HB3.out.size))
  have HR4 := hide (HR3.out.below hal HR3.out.lt)
  have HV4 : Hid ((w3.alloc (.cells #[.int .i64 r.vid, .int .i64 r.vgen, .int .i64 r.vlen, .slice a r.ls.length c] 29)).heap[w3.heap.size]? = some (.cells #[.int .i64 r.vid, .int .i64 r.vgen, .int .i64 r.vlen, .slice a r.ls.length c] 29 (0, 0))) := heap_alloc_new _ _
  clear hal
  go_upto_region 8 with fail
  generalize w3.alloc (.cells #[.int .i64 r.vid, .int .i64 r.vgen, .int .i64 r.vlen, .slice a r.ls.length c] 29) = W4 at *
  generalize w3.heap.size = bv at *
  clear c1 c2 c3 c4 c5 HR3 HB3
  have v0 : W4.cell? ⟨bv, 0, none⟩ = some (.int .i64 r.vid) := cell_of_block HV4.out
  have v1 : W4.cell? ⟨bv, 1, none⟩ = some (.int .i64 r.vgen) := cell_of_block HV4.out
  have v2 : W4.cell? ⟨bv, 2, none⟩ = some (.int .i64 r.vlen) := cell_of_block HV4.out
  have e0 := cell_regrown v0
  have e1 := cell_regrown v1
  have e2 := cell_regrown v2
  have r0 := refnum_q r.vid W4
  have r1 := refnum_q r.vgen W4
  have r2 := refnum_q r.vlen W4
  have z3 := numI_8 r.vid
  have z4 := numI_8 r.vgen
  have z5 := numI_8 r.vlen
  have y1 : ¬ 9223372036854775807 < P1.size + (numI r.vid).size := no_over (by omega)
  have y2 : ¬ 9223372036854775807 < P1.size + (numI r.vid).size + (numI r.vgen).size := no_over (by omega)
  have y3 : ¬ 9223372036854775807 < P1.size + (numI r.vid).size + (numI r.vgen).size + (numI r.vlen).size := no_over (by omega)
  refine wp_region_quiet_below (by kernel_rfl) (by kernel_rfl) ?_
  repeat (quiet_step (first | (with_reducible exact r0 _ _) | (with_reducible exact r1 _ _) | (with_reducible exact r2 _ _)))
  refine wpQuiet_nil ?_
  intro _ hw'
  obtain ⟨pq, hw''⟩ := hw'
  subst hw''
  have hbq := below_regrown W4 pq.d pq.os
  generalize Go.Sort.grow (redrawn W4 pq.d) pq.os = w5 at *
  have HB5 := hide (HB4.out.trans (hbq.mono HB4.out.size))
  have HR5 := hide (HR4.out.below hbq HR4.out.lt)
  have HV5 := hide ((hbq.block bv (lt_of_block HV4.out)).trans HV4.out)
  clear hbq e0 e1 e2 r0 r1 r2 y1 y2 y3 v0 v1 v2 HB4 HR4 HV4
  have hP2 : (P1 ++ numI r.vid ++ numI r.vgen ++ numI r.vlen).size ≤ 42 := by rw [ByteArray.size_append, ByteArray.size_append, ByteArray.size_append]; omega
  generalize P1 ++ numI r.vid ++ numI r.vgen ++ numI r.vlen = P2 at *
  go_wp2_with fail
  go_loopw [5, 7] (fun x y wr => ∃ j : Nat, j ≤ 9 ∧ y = .int .i64 j ∧ x = .string (P2 ++ locB (r.ls.take j)) ∧ RBx bx 33 r a c wr ∧ wr.heap[bv]? = some (.cells #[.int .i64 r.vid, .int .i64 r.vgen, .int .i64 r.vlen, .slice a r.ls.length c] 29 (0, 0)) ∧ Below w.heap.size w wr) (fun _ y _ => 9 - (intOf y).toNat)
  case atStart => exact ⟨0, by omega, rfl, by show Value.string P2 = .string (P2 ++ ByteArray.empty); rw [app_nil], HR5.out, HV5.out, HB5.out⟩
  case round =>
    obtain ⟨j, hj, rfl, rfl, hrb, hvb, hbl⟩ := hrel
    have HB := hide hbl
    have HR := hide hrb
    have HV := hide hvb
    clear hbl hrb hvb HB5 HR5 HV5
    by_cases hlt : j < 9
    · have hd : decide ((j : Int) < 9) = true := by simp; omega
      have hdi : (j : Int) < 9 := by omega
      have hd0 : (0 : Int) ≤ (j : Int) := by omega
      have hdl : (j : Int) < (r.ls.length : Int) := by have := HL.out; omega
      obtain ⟨x, hx⟩ : ∃ x, r.ls[j]? = some x := ⟨_, List.getElem?_eq_getElem (by have := HL.out; omega)⟩
      obtain ⟨b1, o1, rfl, hb1, p1, p2⟩ := HS.out.nth hx
      have v3 : wr.cell? ⟨bv, 3, none⟩ = some (.slice (some ⟨b1, o1, none⟩) r.ls.length c) := cell_of_block HV.out
      have e0 := cell_regrown v3
      have e1 := cell_regrown ((HB.out.cell (p := ⟨b1, o1 + j * 2, none⟩) hb1).trans p1)
      have e2 := cell_regrown ((HB.out.cell (p := ⟨b1, o1 + j * 2 + 1, none⟩) hb1).trans p2)
      have HX := hide (locB_step hx)
      have hz8 := locB_8 (r.ls.take j)
      have hz9 : (r.ls.take j).length ≤ 9 := by rw [List.length_take]; omega
      have HPX : Hid (P2 ++ locB (r.ls.take (j + 1)) = P2 ++ locB (r.ls.take j) ++ numI x.1 ++ numI x.2) := by show _ = _; rw [HX.out]; simp only [bapp]
      have hP3 : (P2 ++ locB (r.ls.take j)).size ≤ 200 := by rw [ByteArray.size_append]; omega
      clear hx p1 p2 HX hz8 hz9 v3
      generalize P2 ++ locB (r.ls.take j) = P3 at *
      have r0 := refnum_q x.1 wr
      have r1 := refnum_q x.2 wr
      have z6 := numI_8 x.1
      have z7 := numI_8 x.2
      have y1 : ¬ 9223372036854775807 < P3.size + (numI x.1).size := no_over (by omega)
      have y2 : ¬ 9223372036854775807 < P3.size + (numI x.1).size + (numI x.2).size := no_over (by omega)
      go_upto_region 12 with fail
      refine wp_region_quiet_below (by kernel_rfl) (by kernel_rfl) ?_
      repeat (quiet_step (first | (with_reducible exact r0 _ _) | (with_reducible exact r1 _ _)))
      refine wpQuiet_nil ?_
      intro _ hw'
      obtain ⟨pq, hw''⟩ := hw'
      subst hw''
      have hbq := below_regrown wr pq.d pq.os
      generalize Go.Sort.grow (redrawn wr pq.d) pq.os = w6 at *
      have HB6 := hide (HB.out.trans (hbq.mono HB.out.size))
      have HR6 := hide (HR.out.below hbq HR.out.lt)
      have HV6 := hide ((hbq.block bv (lt_of_block HV.out)).trans HV.out)
      clear hbq e0 e1 e2 r0 r1 y1 y2
      go_wp2_with fail
      exact ⟨⟨j + 1, by omega, by go_num, by rw [HPX.out], HR6.out, HV6.out, HB6.out⟩, by simp [intOf]; omega⟩
    · have hd : decide ((j : Int) < 9) = false := by simp; omega
      have hdi : ¬ (j : Int) < 9 := by omega
      have HT : Hid (r.ls.take j = r.ls) := List.take_of_length_le (by have := HL.out; omega)
      rw [HT.out]
      clear HT
      have hz8 := locB_8 r.ls
      have hP3 : (P2 ++ locB r.ls).size ≤ 200 := by rw [ByteArray.size_append]; have := HL.out; omega
      generalize P2 ++ locB r.ls = P3 at *
      have c1 := HR.out.c1
      have e0 := cell_regrown HR.out.c6
      have e1 := cell_regrown HR.out.c8
      have e2 := cell_regrown HR.out.c9
      have e3 := cell_regrown HR.out.c10
      have r0 := reftext_q r.ek wr (by omega)
      have r1 := refnum_q r.eo wr
      have r2 := refnum_q r.el wr
      have hT : (textS r.ek).size ≤ 1008 := textS_le h6 (by omega)
      have z6 := numI_8 r.eo
      have z7 := numI_8 r.el
      have y1 : ¬ 9223372036854775807 < P3.size + (textS r.ek).size := no_over (by omega)
      have y2 : ¬ 9223372036854775807 < P3.size + (textS r.ek).size + (numI r.eo).size := no_over (by omega)
      have y3 : ¬ 9223372036854775807 < P3.size + (textS r.ek).size + (numI r.eo).size + (numI r.el).size := no_over (by omega)
      have y4 : ¬ 9223372036854775807 < P3.size + (textS r.ek).size + (numI r.eo).size + (numI r.el).size + r.ed.size := no_over (by omega)
      go_upto_region 14 with fail
      refine wp_region_quiet_below (by kernel_rfl) (by kernel_rfl) ?_
      repeat (quiet_step (first | (with_reducible exact r0 _ _) | (with_reducible exact r1 _ _) | (with_reducible exact r2 _ _)))
      refine wpQuiet_nil ?_
      intro _ hw'
      obtain ⟨pq, hw''⟩ := hw'
      subst hw''
      have hbq := below_regrown wr pq.d pq.os
      generalize Go.Sort.grow (redrawn wr pq.d) pq.os = w6 at *
      have HB6 := hide (HB.out.trans (hbq.mono HB.out.size))
      have HR6 := hide (HR.out.below hbq HR.out.lt)
      clear hbq e0 e1 e2 e3 r0 r1 r2 y1 y2 y3 y4 c1
      have c1 := HR6.out.c1
      rw [HQ.out]
      go_wp2_with fail
      refine (refSeal_any (bodyR r) w6 (by omega)).mono ?_
      rintro e w9 ⟨rfl, hb⟩
      have HB9 := hide (HB6.out.trans (hb.mono HB6.out.size))
      clear hb
      go_wp2_with fail
      try go_ret2
      exact ⟨rfl, HB9.out⟩
set_option maxRecDepth 100000 in
set_option maxHeartbeats 8000000 in
theorem qwrite1 (r : Rc) (a : Option Addr) (c : Nat) (w : World) (hS : LocsAt w a r.ls) (hf : r.fit) (h : ckR r = 0) (hk : r.kind = 1) (h11 : r.k.size ≤ 1000) : Calls Try.prog 30 #[.agg (rcs r a c)] w fun e w' => e = .returned (.tuple #[.string (sealS (bodyR r)), .int .i64 0]) ∧ Below w.heap.size w w' := by
  have HB1 : Hid (Below w.heap.size w (w.alloc (.cells (rcs r a c) 33))) := (Below.refl _ _).alloc (Nat.le_refl _) _
  have HR1 := hide (rbx_new 33 r a c w)
  have HC := hide (rk_any r a c (w.alloc (.cells (rcs r a c) 33)) (hS.below HB1.out) hf)
  have HS := hide hS
  have k1 : (r.kind == 1) = true := by rw [hk]; rfl
  have HQ : Hid (({ data := #[83, 74] } : ByteArray) ++ numI r.seq ++ numI r.kind ++ textS r.k = bodyR r) := by
    show _ = _
    change sSJ ++ _ ++ _ ++ _ = _
    have hp : partB r = textS r.k := by unfold partB; rw [if_neg (by omega), if_pos hk]
    unfold bodyR innR
    rw [hp]
    skip
    simp only [bapp]
  have hz := bodyR_size h
  rw [h] at HC
  have z1 := numI_8 r.seq
  have z2 := numI_8 r.kind
  skip
  clear hS hf h hk
  go_enter Try.func30, Try.ntmps30
  go_upto_region 1 with fail
  generalize w.alloc (.cells (rcs r a c) 33) = W1 at *
  generalize hbx : w.heap.size = bx at HR1 ⊢
  go_wp2_with (first | (refine wpList_load_row rfl 33 (.tmp 1) rfl bx rfl 33 (rcs r a c) (0, 0) _ HR1.out Try.underlying33 rfl ref_info ?_))
  refine HC.out.mono ?_
  rintro e w2 ⟨rfl, hb⟩
  have HB2 := hide (HB1.out.trans (hb.mono HB1.out.size))
  have HR2 := hide (HR1.out.below hb HR1.out.lt)
  clear hb HC HR1 HB1 hbx
  have e0 := cell_regrown HR2.out.c0
  have e1 := cell_regrown HR2.out.c1
  have r0 := refnum_q r.seq w2
  have r1 := refnum_q r.kind w2
  have y1 : ¬ 9223372036854775807 < 2 + (numI r.seq).size := no_over (by omega)
  have y2 : ¬ 9223372036854775807 < 2 + (numI r.seq).size + (numI r.kind).size := no_over (by omega)
  go_upto_region 4 with fail
  refine wp_region_quiet_below (by kernel_rfl) (by kernel_rfl) ?_
  repeat (quiet_step (first | (with_reducible exact r0 _ _) | (with_reducible exact r1 _ _)))
  refine wpQuiet_nil ?_
  intro _ hw'
  obtain ⟨pq, hw''⟩ := hw'
  subst hw''
  have hbq := below_regrown w2 pq.d pq.os
  generalize Go.Sort.grow (redrawn w2 pq.d) pq.os = w3 at *
  have HB3 := hide (HB2.out.trans (hbq.mono HB2.out.size))
  have HR3 := hide (HR2.out.below hbq HR2.out.lt)
  clear hbq e0 e1 r0 r1 y1 y2 HB2 HR2
  have hP1 : (({ data := #[83, 74] } : ByteArray) ++ numI r.seq ++ numI r.kind).size ≤ 18 := by rw [ByteArray.size_append, ByteArray.size_append, show ({ data := #[83, 74] } : ByteArray).size = 2 from rfl]; omega
  generalize ({ data := #[83, 74] } : ByteArray) ++ numI r.seq ++ numI r.kind = P1 at *
  have hT := textS_le h11 (by omega)
  have hT2 : (textS r.k).size ≤ 1008 := hT
  have c1 := HR3.out.c1
  have c11 := HR3.out.c11
  have KT := hide (fun w => refText_any r.k w (by omega))
  generalize textS r.k = tx at *
  go_wp2_with fail
  refine (KT.out w3).mono ?_
  rintro e w4 ⟨rfl, hb⟩
  have HB4 := hide (HB3.out.trans (hb.mono HB3.out.size))
  clear hb
  have y : ¬ 9223372036854775807 < P1.size + tx.size := no_over (by omega)
  go_wp2_with fail
  rw [HQ.out]
  refine (refSeal_any (bodyR r) w4 (by omega)).mono ?_
  rintro e w5 ⟨rfl, hb⟩
  have HB5 := hide (HB4.out.trans (hb.mono HB4.out.size))
  clear hb
  go_wp2_with fail
  try go_ret2
  exact ⟨rfl, HB5.out⟩
set_option maxRecDepth 100000 in
set_option maxHeartbeats 8000000 in
theorem qwrite2 (r : Rc) (a : Option Addr) (c : Nat) (w : World) (hS : LocsAt w a r.ls) (hf : r.fit) (h : ckR r = 0) (hk : r.kind = 2) (hl : r.ls.length = 9) : Calls Try.prog 30 #[.agg (rcs r a c)] w fun e w' => e = .returned (.tuple #[.string (sealS (bodyR r)), .int .i64 0]) ∧ Below w.heap.size w w' := by
  have HB1 : Hid (Below w.heap.size w (w.alloc (.cells (rcs r a c) 33))) := (Below.refl _ _).alloc (Nat.le_refl _) _
  have HR1 := hide (rbx_new 33 r a c w)
  have HC := hide (rk_any r a c (w.alloc (.cells (rcs r a c) 33)) (hS.below HB1.out) hf)
  have HS := hide hS
  have k0 : (r.kind == 0) = false := by rw [hk]; rfl
  have k1 : (r.kind == 1) = false := by rw [hk]; rfl
  have k3 : (r.kind == 3) = false := by rw [hk]; rfl
  have HQ : Hid (({ data := #[83, 74] } : ByteArray) ++ numI r.seq ++ numI r.kind ++ numI r.vid ++ numI r.vgen ++ numI r.vlen ++ locB r.ls = bodyR r) := by
    show _ = _
    change sSJ ++ _ ++ _ ++ _ ++ _ ++ _ ++ _ = _
    have hp : partB r = volB r.vid r.vgen r.vlen r.ls := by unfold partB; rw [if_neg (by omega), if_neg (by omega), if_pos hk]
    unfold bodyR innR
    rw [hp]
    unfold volB
    simp only [bapp]
  have hz := bodyR_size h
  rw [h] at HC
  have z1 := numI_8 r.seq
  have z2 := numI_8 r.kind
  have HL := hide hl
  clear hS hf h hk hl
  go_enter Try.func30, Try.ntmps30
  go_upto_region 1 with fail
  generalize w.alloc (.cells (rcs r a c) 33) = W1 at *
  generalize hbx : w.heap.size = bx at HR1 ⊢
  go_wp2_with (first | (refine wpList_load_row rfl 33 (.tmp 1) rfl bx rfl 33 (rcs r a c) (0, 0) _ HR1.out Try.underlying33 rfl ref_info ?_))
  refine HC.out.mono ?_
  rintro e w2 ⟨rfl, hb⟩
  have HB2 := hide (HB1.out.trans (hb.mono HB1.out.size))
  have HR2 := hide (HR1.out.below hb HR1.out.lt)
  clear hb HC HR1 HB1 hbx
  have e0 := cell_regrown HR2.out.c0
  have e1 := cell_regrown HR2.out.c1
  have r0 := refnum_q r.seq w2
  have r1 := refnum_q r.kind w2
  have y1 : ¬ 9223372036854775807 < 2 + (numI r.seq).size := no_over (by omega)
  have y2 : ¬ 9223372036854775807 < 2 + (numI r.seq).size + (numI r.kind).size := no_over (by omega)
  go_upto_region 4 with fail
  refine wp_region_quiet_below (by kernel_rfl) (by kernel_rfl) ?_
  repeat (quiet_step (first | (with_reducible exact r0 _ _) | (with_reducible exact r1 _ _)))
  refine wpQuiet_nil ?_
  intro _ hw'
  obtain ⟨pq, hw''⟩ := hw'
  subst hw''
  have hbq := below_regrown w2 pq.d pq.os
  generalize Go.Sort.grow (redrawn w2 pq.d) pq.os = w3 at *
  have HB3 := hide (HB2.out.trans (hbq.mono HB2.out.size))
  have HR3 := hide (HR2.out.below hbq HR2.out.lt)
  clear hbq e0 e1 r0 r1 y1 y2 HB2 HR2
  have hP1 : (({ data := #[83, 74] } : ByteArray) ++ numI r.seq ++ numI r.kind).size ≤ 18 := by rw [ByteArray.size_append, ByteArray.size_append, show ({ data := #[83, 74] } : ByteArray).size = 2 from rfl]; omega
  generalize ({ data := #[83, 74] } : ByteArray) ++ numI r.seq ++ numI r.kind = P1 at *
  have c1 := HR3.out.c1
  have c2 := HR3.out.c2
  have c3 := HR3.out.c3
  have c4 := HR3.out.c4
  have c5 := HR3.out.c5
  have hal : Below w3.heap.size w3 (w3.alloc (.cells #[.int .i64 r.vid, .int .i64 r.vgen, .int .i64 r.vlen, .slice a r.ls.length c] 29)) := (Below.refl _ _).alloc (Nat.le_refl _) _
  have HB4 := hide (HB3.out.trans (hal.mono HB3.out.size))
  have HR4 := hide (HR3.out.below hal HR3.out.lt)
  have HV4 : Hid ((w3.alloc (.cells #[.int .i64 r.vid, .int .i64 r.vgen, .int .i64 r.vlen, .slice a r.ls.length c] 29)).heap[w3.heap.size]? = some (.cells #[.int .i64 r.vid, .int .i64 r.vgen, .int .i64 r.vlen, .slice a r.ls.length c] 29 (0, 0))) := heap_alloc_new _ _
  clear hal
  go_upto_region 8 with fail
  generalize w3.alloc (.cells #[.int .i64 r.vid, .int .i64 r.vgen, .int .i64 r.vlen, .slice a r.ls.length c] 29) = W4 at *
  generalize w3.heap.size = bv at *
  clear c1 c2 c3 c4 c5 HR3 HB3
  have v0 : W4.cell? ⟨bv, 0, none⟩ = some (.int .i64 r.vid) := cell_of_block HV4.out
  have v1 : W4.cell? ⟨bv, 1, none⟩ = some (.int .i64 r.vgen) := cell_of_block HV4.out
  have v2 : W4.cell? ⟨bv, 2, none⟩ = some (.int .i64 r.vlen) := cell_of_block HV4.out
  have e0 := cell_regrown v0
  have e1 := cell_regrown v1
  have e2 := cell_regrown v2
  have r0 := refnum_q r.vid W4
  have r1 := refnum_q r.vgen W4
  have r2 := refnum_q r.vlen W4
  have z3 := numI_8 r.vid
  have z4 := numI_8 r.vgen
  have z5 := numI_8 r.vlen
  have y1 : ¬ 9223372036854775807 < P1.size + (numI r.vid).size := no_over (by omega)
  have y2 : ¬ 9223372036854775807 < P1.size + (numI r.vid).size + (numI r.vgen).size := no_over (by omega)
  have y3 : ¬ 9223372036854775807 < P1.size + (numI r.vid).size + (numI r.vgen).size + (numI r.vlen).size := no_over (by omega)
  refine wp_region_quiet_below (by kernel_rfl) (by kernel_rfl) ?_
  repeat (quiet_step (first | (with_reducible exact r0 _ _) | (with_reducible exact r1 _ _) | (with_reducible exact r2 _ _)))
  refine wpQuiet_nil ?_
  intro _ hw'
  obtain ⟨pq, hw''⟩ := hw'
  subst hw''
  have hbq := below_regrown W4 pq.d pq.os
  generalize Go.Sort.grow (redrawn W4 pq.d) pq.os = w5 at *
  have HB5 := hide (HB4.out.trans (hbq.mono HB4.out.size))
  have HR5 := hide (HR4.out.below hbq HR4.out.lt)
  have HV5 := hide ((hbq.block bv (lt_of_block HV4.out)).trans HV4.out)
  clear hbq e0 e1 e2 r0 r1 r2 y1 y2 y3 v0 v1 v2 HB4 HR4 HV4
  have hP2 : (P1 ++ numI r.vid ++ numI r.vgen ++ numI r.vlen).size ≤ 42 := by rw [ByteArray.size_append, ByteArray.size_append, ByteArray.size_append]; omega
  generalize P1 ++ numI r.vid ++ numI r.vgen ++ numI r.vlen = P2 at *
  go_wp2_with fail
  go_loopw [5, 7] (fun x y wr => ∃ j : Nat, j ≤ 9 ∧ y = .int .i64 j ∧ x = .string (P2 ++ locB (r.ls.take j)) ∧ RBx bx 33 r a c wr ∧ wr.heap[bv]? = some (.cells #[.int .i64 r.vid, .int .i64 r.vgen, .int .i64 r.vlen, .slice a r.ls.length c] 29 (0, 0)) ∧ Below w.heap.size w wr) (fun _ y _ => 9 - (intOf y).toNat)
  case atStart => exact ⟨0, by omega, rfl, by show Value.string P2 = .string (P2 ++ ByteArray.empty); rw [app_nil], HR5.out, HV5.out, HB5.out⟩
  case round =>
    obtain ⟨j, hj, rfl, rfl, hrb, hvb, hbl⟩ := hrel
    have HB := hide hbl
    have HR := hide hrb
    have HV := hide hvb
    clear hbl hrb hvb HB5 HR5 HV5
    by_cases hlt : j < 9
    · have hd : decide ((j : Int) < 9) = true := by simp; omega
      have hdi : (j : Int) < 9 := by omega
      have hd0 : (0 : Int) ≤ (j : Int) := by omega
      have hdl : (j : Int) < (r.ls.length : Int) := by have := HL.out; omega
      obtain ⟨x, hx⟩ : ∃ x, r.ls[j]? = some x := ⟨_, List.getElem?_eq_getElem (by have := HL.out; omega)⟩
      obtain ⟨b1, o1, rfl, hb1, p1, p2⟩ := HS.out.nth hx
      have v3 : wr.cell? ⟨bv, 3, none⟩ = some (.slice (some ⟨b1, o1, none⟩) r.ls.length c) := cell_of_block HV.out
      have e0 := cell_regrown v3
      have e1 := cell_regrown ((HB.out.cell (p := ⟨b1, o1 + j * 2, none⟩) hb1).trans p1)
      have e2 := cell_regrown ((HB.out.cell (p := ⟨b1, o1 + j * 2 + 1, none⟩) hb1).trans p2)
      have HX := hide (locB_step hx)
      have hz8 := locB_8 (r.ls.take j)
      have hz9 : (r.ls.take j).length ≤ 9 := by rw [List.length_take]; omega
      have HPX : Hid (P2 ++ locB (r.ls.take (j + 1)) = P2 ++ locB (r.ls.take j) ++ numI x.1 ++ numI x.2) := by show _ = _; rw [HX.out]; simp only [bapp]
      have hP3 : (P2 ++ locB (r.ls.take j)).size ≤ 200 := by rw [ByteArray.size_append]; omega
      clear hx p1 p2 HX hz8 hz9 v3
      generalize P2 ++ locB (r.ls.take j) = P3 at *
      have r0 := refnum_q x.1 wr
      have r1 := refnum_q x.2 wr
      have z6 := numI_8 x.1
      have z7 := numI_8 x.2
      have y1 : ¬ 9223372036854775807 < P3.size + (numI x.1).size := no_over (by omega)
      have y2 : ¬ 9223372036854775807 < P3.size + (numI x.1).size + (numI x.2).size := no_over (by omega)
      go_upto_region 12 with fail
      refine wp_region_quiet_below (by kernel_rfl) (by kernel_rfl) ?_
      repeat (quiet_step (first | (with_reducible exact r0 _ _) | (with_reducible exact r1 _ _)))
      refine wpQuiet_nil ?_
      intro _ hw'
      obtain ⟨pq, hw''⟩ := hw'
      subst hw''
      have hbq := below_regrown wr pq.d pq.os
      generalize Go.Sort.grow (redrawn wr pq.d) pq.os = w6 at *
      have HB6 := hide (HB.out.trans (hbq.mono HB.out.size))
      have HR6 := hide (HR.out.below hbq HR.out.lt)
      have HV6 := hide ((hbq.block bv (lt_of_block HV.out)).trans HV.out)
      clear hbq e0 e1 e2 r0 r1 y1 y2
      go_wp2_with fail
      exact ⟨⟨j + 1, by omega, by go_num, by rw [HPX.out], HR6.out, HV6.out, HB6.out⟩, by simp [intOf]; omega⟩
    · have hd : decide ((j : Int) < 9) = false := by simp; omega
      have hdi : ¬ (j : Int) < 9 := by omega
      have HT : Hid (r.ls.take j = r.ls) := List.take_of_length_le (by have := HL.out; omega)
      rw [HT.out]
      clear HT
      have hz8 := locB_8 r.ls
      have hP3 : (P2 ++ locB r.ls).size ≤ 200 := by rw [ByteArray.size_append]; have := HL.out; omega
      generalize P2 ++ locB r.ls = P3 at *
      have c1 := HR.out.c1
      go_wp2_with fail
      rw [HQ.out]
      refine (refSeal_any (bodyR r) wr (by omega)).mono ?_
      rintro e w9 ⟨rfl, hb⟩
      have HB9 := hide (HB.out.trans (hb.mono HB.out.size))
      clear hb
      go_wp2_with fail
      try go_ret2
      exact ⟨rfl, HB9.out⟩
set_option maxRecDepth 100000 in
set_option maxHeartbeats 8000000 in
theorem qwrite3 (r : Rc) (a : Option Addr) (c : Nat) (w : World) (hS : LocsAt w a r.ls) (hf : r.fit) (h : ckR r = 0) (hk : r.kind = 3) (hl : r.ls.length = 9) : Calls Try.prog 30 #[.agg (rcs r a c)] w fun e w' => e = .returned (.tuple #[.string (sealS (bodyR r)), .int .i64 0]) ∧ Below w.heap.size w w' := by
  have HB1 : Hid (Below w.heap.size w (w.alloc (.cells (rcs r a c) 33))) := (Below.refl _ _).alloc (Nat.le_refl _) _
  have HR1 := hide (rbx_new 33 r a c w)
  have HC := hide (rk_any r a c (w.alloc (.cells (rcs r a c) 33)) (hS.below HB1.out) hf)
  have HS := hide hS
  have k0 : (r.kind == 0) = false := by rw [hk]; rfl
  have k1 : (r.kind == 1) = false := by rw [hk]; rfl
  have k3 : (r.kind == 3) = true := by rw [hk]; rfl
  have HQ : Hid (({ data := #[83, 74] } : ByteArray) ++ numI r.seq ++ numI r.kind ++ numI r.vid ++ numI r.vgen ++ numI r.vlen ++ locB r.ls ++ numI r.f ++ numI r.t = bodyR r) := by
    show _ = _
    change sSJ ++ _ ++ _ ++ _ ++ _ ++ _ ++ _ ++ _ ++ _ = _
    have hp : partB r = volB r.vid r.vgen r.vlen r.ls ++ (numI r.f ++ numI r.t) := by unfold partB; rw [if_neg (by omega), if_neg (by omega), if_neg (by omega)]
    unfold bodyR innR
    rw [hp]
    unfold volB
    simp only [bapp]
  have hz := bodyR_size h
  rw [h] at HC
  have z1 := numI_8 r.seq
  have z2 := numI_8 r.kind
  have HL := hide hl
  clear hS hf h hk hl
  go_enter Try.func30, Try.ntmps30
  go_upto_region 1 with fail
  generalize w.alloc (.cells (rcs r a c) 33) = W1 at *
  generalize hbx : w.heap.size = bx at HR1 ⊢
  go_wp2_with (first | (refine wpList_load_row rfl 33 (.tmp 1) rfl bx rfl 33 (rcs r a c) (0, 0) _ HR1.out Try.underlying33 rfl ref_info ?_))
  refine HC.out.mono ?_
  rintro e w2 ⟨rfl, hb⟩
  have HB2 := hide (HB1.out.trans (hb.mono HB1.out.size))
  have HR2 := hide (HR1.out.below hb HR1.out.lt)
  clear hb HC HR1 HB1 hbx
  have e0 := cell_regrown HR2.out.c0
  have e1 := cell_regrown HR2.out.c1
  have r0 := refnum_q r.seq w2
  have r1 := refnum_q r.kind w2
  have y1 : ¬ 9223372036854775807 < 2 + (numI r.seq).size := no_over (by omega)
  have y2 : ¬ 9223372036854775807 < 2 + (numI r.seq).size + (numI r.kind).size := no_over (by omega)
  go_upto_region 4 with fail
  refine wp_region_quiet_below (by kernel_rfl) (by kernel_rfl) ?_
  repeat (quiet_step (first | (with_reducible exact r0 _ _) | (with_reducible exact r1 _ _)))
  refine wpQuiet_nil ?_
  intro _ hw'
  obtain ⟨pq, hw''⟩ := hw'
  subst hw''
  have hbq := below_regrown w2 pq.d pq.os
  generalize Go.Sort.grow (redrawn w2 pq.d) pq.os = w3 at *
  have HB3 := hide (HB2.out.trans (hbq.mono HB2.out.size))
  have HR3 := hide (HR2.out.below hbq HR2.out.lt)
  clear hbq e0 e1 r0 r1 y1 y2 HB2 HR2
  have hP1 : (({ data := #[83, 74] } : ByteArray) ++ numI r.seq ++ numI r.kind).size ≤ 18 := by rw [ByteArray.size_append, ByteArray.size_append, show ({ data := #[83, 74] } : ByteArray).size = 2 from rfl]; omega
  generalize ({ data := #[83, 74] } : ByteArray) ++ numI r.seq ++ numI r.kind = P1 at *
  have c1 := HR3.out.c1
  have c2 := HR3.out.c2
  have c3 := HR3.out.c3
  have c4 := HR3.out.c4
  have c5 := HR3.out.c5
  have hal : Below w3.heap.size w3 (w3.alloc (.cells #[.int .i64 r.vid, .int .i64 r.vgen, .int .i64 r.vlen, .slice a r.ls.length c] 29)) := (Below.refl _ _).alloc (Nat.le_refl _) _
  have HB4 := hide (HB3.out.trans (hal.mono HB3.out.size))
  have HR4 := hide (HR3.out.below hal HR3.out.lt)
  have HV4 : Hid ((w3.alloc (.cells #[.int .i64 r.vid, .int .i64 r.vgen, .int .i64 r.vlen, .slice a r.ls.length c] 29)).heap[w3.heap.size]? = some (.cells #[.int .i64 r.vid, .int .i64 r.vgen, .int .i64 r.vlen, .slice a r.ls.length c] 29 (0, 0))) := heap_alloc_new _ _
  clear hal
  go_upto_region 8 with fail
  generalize w3.alloc (.cells #[.int .i64 r.vid, .int .i64 r.vgen, .int .i64 r.vlen, .slice a r.ls.length c] 29) = W4 at *
  generalize w3.heap.size = bv at *
  clear c1 c2 c3 c4 c5 HR3 HB3
  have v0 : W4.cell? ⟨bv, 0, none⟩ = some (.int .i64 r.vid) := cell_of_block HV4.out
  have v1 : W4.cell? ⟨bv, 1, none⟩ = some (.int .i64 r.vgen) := cell_of_block HV4.out
  have v2 : W4.cell? ⟨bv, 2, none⟩ = some (.int .i64 r.vlen) := cell_of_block HV4.out
  have e0 := cell_regrown v0
  have e1 := cell_regrown v1
  have e2 := cell_regrown v2
  have r0 := refnum_q r.vid W4
  have r1 := refnum_q r.vgen W4
  have r2 := refnum_q r.vlen W4
  have z3 := numI_8 r.vid
  have z4 := numI_8 r.vgen
  have z5 := numI_8 r.vlen
  have y1 : ¬ 9223372036854775807 < P1.size + (numI r.vid).size := no_over (by omega)
  have y2 : ¬ 9223372036854775807 < P1.size + (numI r.vid).size + (numI r.vgen).size := no_over (by omega)
  have y3 : ¬ 9223372036854775807 < P1.size + (numI r.vid).size + (numI r.vgen).size + (numI r.vlen).size := no_over (by omega)
  refine wp_region_quiet_below (by kernel_rfl) (by kernel_rfl) ?_
  repeat (quiet_step (first | (with_reducible exact r0 _ _) | (with_reducible exact r1 _ _) | (with_reducible exact r2 _ _)))
  refine wpQuiet_nil ?_
  intro _ hw'
  obtain ⟨pq, hw''⟩ := hw'
  subst hw''
  have hbq := below_regrown W4 pq.d pq.os
  generalize Go.Sort.grow (redrawn W4 pq.d) pq.os = w5 at *
  have HB5 := hide (HB4.out.trans (hbq.mono HB4.out.size))
  have HR5 := hide (HR4.out.below hbq HR4.out.lt)
  have HV5 := hide ((hbq.block bv (lt_of_block HV4.out)).trans HV4.out)
  clear hbq e0 e1 e2 r0 r1 r2 y1 y2 y3 v0 v1 v2 HB4 HR4 HV4
  have hP2 : (P1 ++ numI r.vid ++ numI r.vgen ++ numI r.vlen).size ≤ 42 := by rw [ByteArray.size_append, ByteArray.size_append, ByteArray.size_append]; omega
  generalize P1 ++ numI r.vid ++ numI r.vgen ++ numI r.vlen = P2 at *
  go_wp2_with fail
  go_loopw [5, 7] (fun x y wr => ∃ j : Nat, j ≤ 9 ∧ y = .int .i64 j ∧ x = .string (P2 ++ locB (r.ls.take j)) ∧ RBx bx 33 r a c wr ∧ wr.heap[bv]? = some (.cells #[.int .i64 r.vid, .int .i64 r.vgen, .int .i64 r.vlen, .slice a r.ls.length c] 29 (0, 0)) ∧ Below w.heap.size w wr) (fun _ y _ => 9 - (intOf y).toNat)
  case atStart => exact ⟨0, by omega, rfl, by show Value.string P2 = .string (P2 ++ ByteArray.empty); rw [app_nil], HR5.out, HV5.out, HB5.out⟩
  case round =>
    obtain ⟨j, hj, rfl, rfl, hrb, hvb, hbl⟩ := hrel
    have HB := hide hbl
    have HR := hide hrb
    have HV := hide hvb
    clear hbl hrb hvb HB5 HR5 HV5
    by_cases hlt : j < 9
    · have hd : decide ((j : Int) < 9) = true := by simp; omega
      have hdi : (j : Int) < 9 := by omega
      have hd0 : (0 : Int) ≤ (j : Int) := by omega
      have hdl : (j : Int) < (r.ls.length : Int) := by have := HL.out; omega
      obtain ⟨x, hx⟩ : ∃ x, r.ls[j]? = some x := ⟨_, List.getElem?_eq_getElem (by have := HL.out; omega)⟩
      obtain ⟨b1, o1, rfl, hb1, p1, p2⟩ := HS.out.nth hx
      have v3 : wr.cell? ⟨bv, 3, none⟩ = some (.slice (some ⟨b1, o1, none⟩) r.ls.length c) := cell_of_block HV.out
      have e0 := cell_regrown v3
      have e1 := cell_regrown ((HB.out.cell (p := ⟨b1, o1 + j * 2, none⟩) hb1).trans p1)
      have e2 := cell_regrown ((HB.out.cell (p := ⟨b1, o1 + j * 2 + 1, none⟩) hb1).trans p2)
      have HX := hide (locB_step hx)
      have hz8 := locB_8 (r.ls.take j)
      have hz9 : (r.ls.take j).length ≤ 9 := by rw [List.length_take]; omega
      have HPX : Hid (P2 ++ locB (r.ls.take (j + 1)) = P2 ++ locB (r.ls.take j) ++ numI x.1 ++ numI x.2) := by show _ = _; rw [HX.out]; simp only [bapp]
      have hP3 : (P2 ++ locB (r.ls.take j)).size ≤ 200 := by rw [ByteArray.size_append]; omega
      clear hx p1 p2 HX hz8 hz9 v3
      generalize P2 ++ locB (r.ls.take j) = P3 at *
      have r0 := refnum_q x.1 wr
      have r1 := refnum_q x.2 wr
      have z6 := numI_8 x.1
      have z7 := numI_8 x.2
      have y1 : ¬ 9223372036854775807 < P3.size + (numI x.1).size := no_over (by omega)
      have y2 : ¬ 9223372036854775807 < P3.size + (numI x.1).size + (numI x.2).size := no_over (by omega)
      go_upto_region 12 with fail
      refine wp_region_quiet_below (by kernel_rfl) (by kernel_rfl) ?_
      repeat (quiet_step (first | (with_reducible exact r0 _ _) | (with_reducible exact r1 _ _)))
      refine wpQuiet_nil ?_
      intro _ hw'
      obtain ⟨pq, hw''⟩ := hw'
      subst hw''
      have hbq := below_regrown wr pq.d pq.os
      generalize Go.Sort.grow (redrawn wr pq.d) pq.os = w6 at *
      have HB6 := hide (HB.out.trans (hbq.mono HB.out.size))
      have HR6 := hide (HR.out.below hbq HR.out.lt)
      have HV6 := hide ((hbq.block bv (lt_of_block HV.out)).trans HV.out)
      clear hbq e0 e1 e2 r0 r1 y1 y2
      go_wp2_with fail
      exact ⟨⟨j + 1, by omega, by go_num, by rw [HPX.out], HR6.out, HV6.out, HB6.out⟩, by simp [intOf]; omega⟩
    · have hd : decide ((j : Int) < 9) = false := by simp; omega
      have hdi : ¬ (j : Int) < 9 := by omega
      have HT : Hid (r.ls.take j = r.ls) := List.take_of_length_le (by have := HL.out; omega)
      rw [HT.out]
      clear HT
      have hz8 := locB_8 r.ls
      have hP3 : (P2 ++ locB r.ls).size ≤ 200 := by rw [ByteArray.size_append]; have := HL.out; omega
      generalize P2 ++ locB r.ls = P3 at *
      have c1 := HR.out.c1
      have e0 := cell_regrown HR.out.c12
      have e1 := cell_regrown HR.out.c13
      have r0 := refnum_q r.f wr
      have r1 := refnum_q r.t wr
      have z6 := numI_8 r.f
      have z7 := numI_8 r.t
      have y1 : ¬ 9223372036854775807 < P3.size + (numI r.f).size := no_over (by omega)
      have y2 : ¬ 9223372036854775807 < P3.size + (numI r.f).size + (numI r.t).size := no_over (by omega)
      go_upto_region 16 with fail
      refine wp_region_quiet_below (by kernel_rfl) (by kernel_rfl) ?_
      repeat (quiet_step (first | (with_reducible exact r0 _ _) | (with_reducible exact r1 _ _)))
      refine wpQuiet_nil ?_
      intro _ hw'
      obtain ⟨pq, hw''⟩ := hw'
      subst hw''
      have hbq := below_regrown wr pq.d pq.os
      generalize Go.Sort.grow (redrawn wr pq.d) pq.os = w6 at *
      have HB6 := hide (HB.out.trans (hbq.mono HB.out.size))
      clear hbq e0 e1 r0 r1 y1 y2 c1
      rw [HQ.out]
      go_wp2_with fail
      refine (refSeal_any (bodyR r) w6 (by omega)).mono ?_
      rintro e w9 ⟨rfl, hb⟩
      have HB9 := hide (HB6.out.trans (hb.mono HB6.out.size))
      clear hb
      go_wp2_with fail
      try go_ret2
      exact ⟨rfl, HB9.out⟩
theorem qwrite_any (r : Rc) (a : Option Addr) (c : Nat) (w : World) (hS : LocsAt w a r.ls) (hf : r.fit) : Calls Try.prog 30 #[.agg (rcs r a c)] w fun e w' => e = .returned (.tuple #[.string (wR r), .int .i64 (ckR r)]) ∧ Below w.heap.size w w' := by
  by_cases h : ckR r = 0
  · rw [wR_ok h, h]
    obtain ⟨hs, hk, _⟩ := ckR_zero.1 h
    rcases kind_four hs with h0 | h0 | h0 | h0
    · obtain ⟨hv, hkey, i1, i2, i3, i4, i5⟩ := (ckK_0 h0).1 hk
      have := hkey.2.1
      exact qwrite0 r a c w hS hf h h0 hv.2.2.2.1 (by omega) (by omega)
    · have hkey := (ckK_1 h0).1 hk
      have := hkey.2.1
      exact qwrite1 r a c w hS hf h h0 (by omega)
    · exact qwrite2 r a c w hS hf h h0 ((ckK_2 h0).1 hk).2.2.2.1
    · exact qwrite3 r a c w hS hf h h0 ((ckK_3 h0).1 hk).1.2.2.2.1
  · rw [wR_bad h]; exact qwrite_bad r a c w hS hf h
end Go.Proofs.Ytaiafbihcfbglaa
