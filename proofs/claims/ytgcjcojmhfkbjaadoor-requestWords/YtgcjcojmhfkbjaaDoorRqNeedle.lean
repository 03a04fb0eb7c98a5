/- What the document's needle.Check answers. (For seats without the document's digests: in the place of NeCheck, behind RcKey.) -/
import Derived.Test.YtgcjcojmhfkbjaaDoorRcKey
import Derived.Test.YtgcjcojmhfkbjaaDoorPkRefReader
import Derived.Lib.QuietBelow
import Derived.Deep.Cut
namespace Go.Proofs.YtgcjcojmhfkbjaaDoor
open Go.RowKit
set_option linter.unusedVariables false
theorem text_q (s : ByteArray) (wr : World) (hs : s.size ≤ 1000000) : ∀ q os, Calls Tryd.prog 37 #[.string s] (Go.Sort.grow (redrawn wr q) os) fun e w'' => e = .returned (.string (textS s)) ∧ ∃ p : Regrown, w'' = Go.Sort.grow (redrawn wr p.d) p.os := fun q os => Calls.regrown_of (refText_any s _ hs)
set_option maxRecDepth 100000 in
set_option maxHeartbeats 8000000 in
theorem rcheck_any (n : Nd) (w : World) (hk : n.k.size ≤ 100000) (hv : n.v.size ≤ 100000) : Calls Tryd.prog 25 #[.agg (ncs n)] w fun r w' => r = .returned (.int .i64 (ckE n)) ∧ Below w.heap.size w w' := by
  have HB : Hid (Below w.heap.size w (w.alloc (.cells (ncs n) 48))) := (Below.refl _ _).alloc (Nat.le_refl _) _
  have H1 := hide (refKey_any n.k (w.alloc (.cells (ncs n) 48)) (by omega))
  have HN := hide (nbx_new 48 n w)
  have z1 := textS_le hk (by omega)
  have z2 := textS_le hv (by omega)
  have HS : Hid (IntKind.i64.wrap (IntKind.i64.wrap (((textS n.k).size : Int) + ((textS n.v).size : Int)) + 32) = ((nsz n : Nat) : Int)) := by show _ = _; unfold nsz; rw [IntKind.wrap_i64, IntKind.wrap_i64]; omega
  have e0 := cell_regrown HN.out.c0
  have e1 := cell_regrown HN.out.c1
  have r0 := text_q n.k (w.alloc (.cells (ncs n) 48)) (by omega)
  have r1 := text_q n.v (w.alloc (.cells (ncs n) 48)) (by omega)
  by_cases hkey : keyOk n.k
  case neg =>
    rw [ckE_key hkey]
    rw [kOk_f hkey] at H1
    clear hkey e0 e1 r0 r1 HS HN z1 z2
    obtain ⟨k, v⟩ := n
    simp only [ncs] at HB H1 ⊢
    go_enter Tryd.func25, Tryd.ntmps25
    go_wp2_with fail
    refine H1.out.mono ?_
    rintro e w1 ⟨rfl, rfl⟩
    go_wp2_with fail
    try go_ret
    exact ⟨rfl, HB.out⟩
  rw [kOk_t hkey] at H1
  by_cases hbig : 384 < nsz n
  · rw [ckE_big hkey hbig]
    have hd : decide ((384 : Int) < ((nsz n : Nat) : Int)) = true := by simp; omega
    clear hkey
    generalize nsz n = N at *
    obtain ⟨k, v⟩ := n
    simp only [ncs] at HB H1 HN HS e0 e1 r0 r1 z1 z2 ⊢
    go_enter Tryd.func25, Tryd.ntmps25
    go_wp2_with fail
    refine H1.out.mono ?_
    rintro e w1 ⟨rfl, rfl⟩
    go_upto_region 3 with fail
    generalize w.alloc (.cells #[.string k, .string v] 48) = W1 at *
    generalize textS k = A at *
    generalize textS v = B at *
    refine wp_region_quiet_below (by kernel_rfl) (by kernel_rfl) ?_
    repeat (quiet_step (first | (with_reducible exact r0 _ _) | (with_reducible exact r1 _ _)))
    refine wpQuiet_nil ?_
    intro _ hw'
    obtain ⟨pq, hw''⟩ := hw'
    subst hw''
    have HQ := hide (HB.out.trans ((below_regrown W1 pq.d pq.os).mono HB.out.size))
    generalize Go.Sort.grow (redrawn W1 pq.d) pq.os = WQ at *
    rw [HS.out]
    clear e0 e1 r0 r1 z1 z2 HB HN HS H1
    go_wp2_with fail
    try go_ret
    exact ⟨rfl, HQ.out⟩
  rw [ckE_zero.2 ⟨hkey, by omega⟩]
  have hd : decide ((384 : Int) < ((nsz n : Nat) : Int)) = false := by simp; omega
  clear hkey
  generalize nsz n = N at *
  obtain ⟨k, v⟩ := n
  simp only [ncs] at HB H1 HN HS e0 e1 r0 r1 z1 z2 ⊢
  go_enter Tryd.func25, Tryd.ntmps25
  go_wp2_with fail
  refine H1.out.mono ?_
  rintro e w1 ⟨rfl, rfl⟩
  go_upto_region 3 with fail
  generalize w.alloc (.cells #[.string k, .string v] 48) = W1 at *
  generalize textS k = A at *
  generalize textS v = B at *
  refine wp_region_quiet_below (by kernel_rfl) (by kernel_rfl) ?_
  repeat (quiet_step (first | (with_reducible exact r0 _ _) | (with_reducible exact r1 _ _)))
  refine wpQuiet_nil ?_
  intro _ hw'
  obtain ⟨pq, hw''⟩ := hw'
  subst hw''
  have HQ := hide (HB.out.trans ((below_regrown W1 pq.d pq.os).mono HB.out.size))
  generalize Go.Sort.grow (redrawn W1 pq.d) pq.os = WQ at *
  rw [HS.out]
  clear e0 e1 r0 r1 z1 z2 HB HN HS H1
  go_wp2_with fail
  try go_ret
  exact ⟨rfl, HQ.out⟩
end Go.Proofs.YtgcjcojmhfkbjaaDoor
