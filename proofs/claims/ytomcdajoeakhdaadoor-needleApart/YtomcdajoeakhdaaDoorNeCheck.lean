/- What needle.Check and needle.Write answer; the reference's. -/
import Derived.Test.YtomcdajoeakhdaaDoorNeKey
import Derived.Test.YtomcdajoeakhdaaDoorPkRefs
import Derived.Test.YtomcdajoeakhdaaDoorShRefSum
import Derived.Lib.QuietBelow
import Derived.Deep.Cut
namespace Go.Proofs.YtomcdajoeakhdaaDoor
open Go.RowKit
set_option linter.unusedVariables false
/-- a needle in a block of its own -/
def NBx (bx : Nat) (t : TypeId) (n : Nd) (w : World) : Prop := w.heap[bx]? = some (.cells (ncs n) t (0, 0))
theorem NBx.c0 {bx : Nat} {t : TypeId} {n : Nd} {w : World} (k : NBx bx t n w) : w.cell? ⟨bx, 0, none⟩ = some (.string n.k) := cell_of_block k
theorem NBx.c1 {bx : Nat} {t : TypeId} {n : Nd} {w : World} (k : NBx bx t n w) : w.cell? ⟨bx, 1, none⟩ = some (.string n.v) := cell_of_block k
theorem NBx.free {bx : Nat} {t : TypeId} {n : Nd} {w : World} (k : NBx bx t n w) (p : Nat) : w.frozen? ⟨bx, p, none⟩ = false := free_of_block k
theorem NBx.below {bx B : Nat} {t : TypeId} {n : Nd} {w w' : World} (k : NBx bx t n w) (hb : Below B w w') (hB : bx < B) : NBx bx t n w' := (hb.block bx hB).trans k
theorem NBx.lt {bx : Nat} {t : TypeId} {n : Nd} {w : World} (k : NBx bx t n w) : bx < w.heap.size := lt_of_block k
theorem NBx.but {bx b : Nat} {t : TypeId} {n : Nd} {w w' : World} (k : NBx bx t n w) (hb : But b w w') (hne : bx ≠ b) : NBx bx t n w' := (hb.block bx hne).trans k
theorem nbx_new (t : TypeId) (n : Nd) (w : World) : NBx w.heap.size t n (w.alloc (.cells (ncs n) t)) := heap_alloc_new _ _
theorem NBx.sk {bx : Nat} {t : TypeId} {n : Nd} {w : World} (h : NBx bx t n w) (x : ByteArray) : NBx bx t { n with k := x } (w.setCell ⟨bx, 0, none⟩ (.string x)) := block_setCell _ h
theorem NBx.sv {bx : Nat} {t : TypeId} {n : Nd} {w : World} (h : NBx bx t n w) (x : ByteArray) : NBx bx t { n with v := x } (w.setCell ⟨bx, 1, none⟩ (.string x)) := block_setCell _ h
theorem NBx.away {bx c o : Nat} {t : TypeId} {n : Nd} {w : World} (k : NBx bx t n w) (hne : bx ≠ c) (u : Value) : NBx bx t n (w.setCell ⟨c, o, none⟩ u) := (Below.heap_setCell _ _ _ _ hne).trans k
theorem kOk_t {k : ByteArray} (h : keyOk k) : kOk k = true := (kOk_yes h).symm
theorem kOk_f {k : ByteArray} (h : ¬ keyOk k) : kOk k = false := (kOk_no h).symm
theorem tsize_q (s : ByteArray) (wr : World) (hs : s.size ≤ 1000000) : ∀ q os, Calls Tryd.prog 50 #[.string s] (Go.Sort.grow (redrawn wr q) os) fun e w'' => e = .returned (.int .i64 ((textS s).size : Nat)) ∧ ∃ p : Regrown, w'' = Go.Sort.grow (redrawn wr p.d) p.os := fun q os => Calls.regrown_of (textSize_any s _ hs)
theorem text_q (s : ByteArray) (wr : World) (hs : s.size ≤ 1000000) : ∀ q os, Calls Tryd.prog 34 #[.string s] (Go.Sort.grow (redrawn wr q) os) fun e w'' => e = .returned (.string (textS s)) ∧ ∃ p : Regrown, w'' = Go.Sort.grow (redrawn wr p.d) p.os := fun q os => Calls.regrown_of (refText_any s _ hs)
theorem ptext_q (s : ByteArray) (wr : World) (hs : s.size ≤ 1000000) : ∀ q os, Calls Tryd.prog 28 #[.string s] (Go.Sort.grow (redrawn wr q) os) fun e w'' => e = .returned (.string (textS s)) ∧ ∃ p : Regrown, w'' = Go.Sort.grow (redrawn wr p.d) p.os := fun q os => Calls.regrown_of (ptext_any s _ hs)
theorem psum_q (s : ByteArray) (wr : World) (hK : KAt wr) (hs : s.size ≤ 100000) : ∀ q os, Calls Tryd.prog 29 #[.string s] (Go.Sort.grow (redrawn wr q) os) fun e w'' => e = .returned (.string (dg s)) ∧ ∃ p : Regrown, w'' = Go.Sort.grow (redrawn wr p.d) p.os := fun q os => Calls.regrown_of (dsum_any s _ (hK.below (below_regrown wr q os)) (by omega))
theorem sum_q (s : ByteArray) (wr : World) (hs : s.size ≤ 100000) : ∀ q os, Calls Tryd.prog 40 #[.string s] (Go.Sort.grow (redrawn wr q) os) fun e w'' => e = .returned (.string (dg s)) ∧ ∃ p : Regrown, w'' = Go.Sort.grow (redrawn wr p.d) p.os := fun q os => Calls.regrown_of (refSum_any s _ (by omega))
theorem textS_le {s : ByteArray} {m : Nat} (h : s.size ≤ m) (hm : m ≤ 1000000) : (textS s).size ≤ m + 8 := by
  unfold textS; rw [ByteArray.size_append, numS_size]
  have := nlen_top (n := s.size) (by omega)
  omega
set_option maxRecDepth 100000 in
set_option maxHeartbeats 8000000 in
theorem nsize_any (n : Nd) (w : World) (hk : n.k.size ≤ 100000) (hv : n.v.size ≤ 100000) : Calls Tryd.prog 32 #[.agg (ncs n)] w fun r w' => r = .returned (.int .i64 (nsz n : Nat)) ∧ Below w.heap.size w w' := by
  have HB : Hid (Below w.heap.size w (w.alloc (.cells (ncs n) 28))) := (Below.refl _ _).alloc (Nat.le_refl _) _
  have HN := hide (nbx_new 28 n w)
  have z1 := textS_le hk (by omega)
  have z2 := textS_le hv (by omega)
  have HS : Hid (IntKind.i64.wrap (IntKind.i64.wrap (((textS n.k).size : Int) + ((textS n.v).size : Int)) + 32) = ((nsz n : Nat) : Int)) := by show _ = _; unfold nsz; rw [IntKind.wrap_i64, IntKind.wrap_i64]; omega
  have e0 := cell_regrown HN.out.c0
  have e1 := cell_regrown HN.out.c1
  have r0 := tsize_q n.k (w.alloc (.cells (ncs n) 28)) (by omega)
  have r1 := tsize_q n.v (w.alloc (.cells (ncs n) 28)) (by omega)
  obtain ⟨k, v⟩ := n
  simp only [ncs] at HB hk hv z1 z2 e0 e1 r0 r1 HS ⊢
  go_enter Tryd.func32, Tryd.ntmps32
  go_upto_region 1 with fail
  generalize w.alloc (.cells #[.string k, .string v] 28) = W1 at *
  generalize (textS k).size = a at *
  generalize (textS v).size = b at *
  refine wp_region_quiet_below (by kernel_rfl) (by kernel_rfl) ?_
  repeat (quiet_step (first | (with_reducible exact r0 _ _) | (with_reducible exact r1 _ _)))
  refine wpQuiet_nil ?_
  intro _ hw'
  obtain ⟨pq, hw''⟩ := hw'
  subst hw''
  have HQ := hide (HB.out.trans ((below_regrown W1 pq.d pq.os).mono HB.out.size))
  generalize Go.Sort.grow (redrawn W1 pq.d) pq.os = WQ at *
  go_wp2_with fail
  try go_ret
  exact ⟨ret_int HS.out, HQ.out⟩
set_option maxRecDepth 100000 in
set_option maxHeartbeats 8000000 in
theorem ncheck_any (n : Nd) (w : World) (hk : n.k.size ≤ 100000) (hv : n.v.size ≤ 100000) : Calls Tryd.prog 13 #[.agg (ncs n)] w fun r w' => r = .returned (.int .i64 (ckE n)) ∧ Below w.heap.size w w' := by
  have HB : Hid (Below w.heap.size w (w.alloc (.cells (ncs n) 28))) := (Below.refl _ _).alloc (Nat.le_refl _) _
  have H1 := hide (isKey_any n.k (w.alloc (.cells (ncs n) 28)) (by omega))
  have H2 := hide (nsize_any n (w.alloc (.cells (ncs n) 28)) hk hv)
  by_cases hkey : keyOk n.k
  case neg =>
    rw [ckE_key hkey]
    rw [kOk_f hkey] at H1
    clear hkey
    obtain ⟨k, v⟩ := n
    simp only [ncs] at HB H1 H2 ⊢
    go_enter Tryd.func13, Tryd.ntmps13
    go_wp2_with fail
    refine H1.out.mono ?_
    rintro e w1 ⟨rfl, rfl⟩
    go_wp2_with fail
    try go_ret
    exact ⟨rfl, HB.out⟩
  rw [kOk_t hkey] at H1
  by_cases hbig : 384 < nsz n
  · rw [ckE_big hkey hbig]
    have hd : decide ((384 : Int) < ((nsz n : Nat) : Int)) = true := by simp; omega
    clear hkey
    generalize nsz n = N at *
    obtain ⟨k, v⟩ := n
    simp only [ncs] at HB H1 H2 ⊢
    go_enter Tryd.func13, Tryd.ntmps13
    go_wp2_with fail
    refine H1.out.mono ?_
    rintro e w1 ⟨rfl, rfl⟩
    go_wp2_with fail
    refine H2.out.mono ?_
    rintro e w1 ⟨rfl, hb⟩
    have HB1 := hide (HB.out.trans (hb.mono HB.out.size))
    clear hb
    go_wp2_with fail
    try go_ret
    exact ⟨rfl, HB1.out⟩
  rw [ckE_zero.2 ⟨hkey, by omega⟩]
  have hd : decide ((384 : Int) < ((nsz n : Nat) : Int)) = false := by simp; omega
  clear hkey
  generalize nsz n = N at *
  obtain ⟨k, v⟩ := n
  simp only [ncs] at HB H1 H2 ⊢
  go_enter Tryd.func13, Tryd.ntmps13
  go_wp2_with fail
  refine H1.out.mono ?_
  rintro e w1 ⟨rfl, rfl⟩
  go_wp2_with fail
  refine H2.out.mono ?_
  rintro e w1 ⟨rfl, hb⟩
  have HB1 := hide (HB.out.trans (hb.mono HB.out.size))
  clear hb
  go_wp2_with fail
  try go_ret
  exact ⟨rfl, HB1.out⟩
set_option maxRecDepth 100000 in
set_option maxHeartbeats 8000000 in
theorem rcheck_any (n : Nd) (w : World) (hk : n.k.size ≤ 100000) (hv : n.v.size ≤ 100000) : Calls Tryd.prog 14 #[.agg (ncs n)] w fun r w' => r = .returned (.int .i64 (ckE n)) ∧ Below w.heap.size w w' := by
  have HB : Hid (Below w.heap.size w (w.alloc (.cells (ncs n) 23))) := (Below.refl _ _).alloc (Nat.le_refl _) _
  have H1 := hide (refKey_any n.k (w.alloc (.cells (ncs n) 23)) (by omega))
  have HN := hide (nbx_new 23 n w)
  have z1 := textS_le hk (by omega)
  have z2 := textS_le hv (by omega)
  have HS : Hid (IntKind.i64.wrap (IntKind.i64.wrap (((textS n.k).size : Int) + ((textS n.v).size : Int)) + 32) = ((nsz n : Nat) : Int)) := by show _ = _; unfold nsz; rw [IntKind.wrap_i64, IntKind.wrap_i64]; omega
  have e0 := cell_regrown HN.out.c0
  have e1 := cell_regrown HN.out.c1
  have r0 := text_q n.k (w.alloc (.cells (ncs n) 23)) (by omega)
  have r1 := text_q n.v (w.alloc (.cells (ncs n) 23)) (by omega)
  by_cases hkey : keyOk n.k
  case neg =>
    rw [ckE_key hkey]
    rw [kOk_f hkey] at H1
    clear hkey e0 e1 r0 r1 HS HN z1 z2
    obtain ⟨k, v⟩ := n
    simp only [ncs] at HB H1 ⊢
    go_enter Tryd.func14, Tryd.ntmps14
    go_wp2_with fail
    refine H1.out.mono ?_
    rintro e w1 ⟨rfl, rfl⟩
    go_wp2_with fail
    try go_ret
    exact ⟨rfl, HB.out⟩
  rw [kOk_t hkey] at H1
  by_cases hbig : 384 < nsz n
  · rw [ckE_big hkey hbig]
    have hd : decide ((384 : Int) < ((nsz n : Nat) : Int)) = true := by simp; omega
    clear hkey
    generalize nsz n = N at *
    obtain ⟨k, v⟩ := n
    simp only [ncs] at HB H1 HN HS e0 e1 r0 r1 z1 z2 ⊢
    go_enter Tryd.func14, Tryd.ntmps14
    go_wp2_with fail
    refine H1.out.mono ?_
    rintro e w1 ⟨rfl, rfl⟩
    go_upto_region 3 with fail
    generalize w.alloc (.cells #[.string k, .string v] 23) = W1 at *
    generalize textS k = A at *
    generalize textS v = B at *
    refine wp_region_quiet_below (by kernel_rfl) (by kernel_rfl) ?_
    repeat (quiet_step (first | (with_reducible exact r0 _ _) | (with_reducible exact r1 _ _)))
    refine wpQuiet_nil ?_
    intro _ hw'
    obtain ⟨pq, hw''⟩ := hw'
    subst hw''
    have HQ := hide (HB.out.trans ((below_regrown W1 pq.d pq.os).mono HB.out.size))
    generalize Go.Sort.grow (redrawn W1 pq.d) pq.os = WQ at *
    rw [HS.out]
    clear e0 e1 r0 r1 z1 z2 HB HN HS H1
    go_wp2_with fail
    try go_ret
    exact ⟨rfl, HQ.out⟩
  rw [ckE_zero.2 ⟨hkey, by omega⟩]
  have hd : decide ((384 : Int) < ((nsz n : Nat) : Int)) = false := by simp; omega
  clear hkey
  generalize nsz n = N at *
  obtain ⟨k, v⟩ := n
  simp only [ncs] at HB H1 HN HS e0 e1 r0 r1 z1 z2 ⊢
  go_enter Tryd.func14, Tryd.ntmps14
  go_wp2_with fail
  refine H1.out.mono ?_
  rintro e w1 ⟨rfl, rfl⟩
  go_upto_region 3 with fail
  generalize w.alloc (.cells #[.string k, .string v] 23) = W1 at *
  generalize textS k = A at *
  generalize textS v = B at *
  refine wp_region_quiet_below (by kernel_rfl) (by kernel_rfl) ?_
  repeat (quiet_step (first | (with_reducible exact r0 _ _) | (with_reducible exact r1 _ _)))
  refine wpQuiet_nil ?_
  intro _ hw'
  obtain ⟨pq, hw''⟩ := hw'
  subst hw''
  have HQ := hide (HB.out.trans ((below_regrown W1 pq.d pq.os).mono HB.out.size))
  generalize Go.Sort.grow (redrawn W1 pq.d) pq.os = WQ at *
  rw [HS.out]
  clear e0 e1 r0 r1 z1 z2 HB HN HS H1
  go_wp2_with fail
  try go_ret
  exact ⟨rfl, HQ.out⟩
end Go.Proofs.YtomcdajoeakhdaaDoor
