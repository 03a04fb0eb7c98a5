/- What replay.Prefix answers: the records that sectors begin with. -/
import Derived.Test.YtaiafbihcfbglaaRpRec
namespace Go.Proofs.Ytaiafbihcfbglaa
open Go.RowKit Go.Shelf
set_option linter.unusedVariables false
attribute [local go_sem] Oper.semAt_some
def pW (w : World) (a : Option Addr) (m c : Nat) : World := (w.alloc (.cells #[.slice none 0 0] 34)).alloc (.cells #[.slice a m c] 22)
theorem pW_size (w : World) (a : Option Addr) (m c : Nat) : (pW w a m c).heap.size = w.heap.size + 2 := by unfold pW; simp only [World.size_alloc]
theorem pW_below (w : World) (a : Option Addr) (m c : Nat) : Below w.heap.size w (pW w a m c) := by
  unfold pW
  exact ((Below.refl _ w).alloc (Nat.le_refl _) _).alloc (by simp only [World.size_alloc]; omega) _
theorem pW_0 (w : World) (a : Option Addr) (m c : Nat) : Boxed (pW w a m c) w.heap.size 34 (.slice none 0 0) := by
  unfold pW; exact old_at _ (new_at w _ rfl)
theorem pW_1 (w : World) (a : Option Addr) (m c : Nat) : (pW w a m c).heap[w.heap.size + 1]? = some (.cells #[.slice a m c] 22 (0, 0)) := by
  unfold pW; exact new_at _ _ (by simp only [World.size_alloc])
/-- the invariant of the rounds -/
structure RI (w : World) (pre : List RT) (W : World) : Prop where
  bel : Below w.heap.size w W
  size : w.heap.size + 2 ≤ W.heap.size
  row : ∃ v, Boxed W w.heap.size 34 v ∧ W.ownsRow (w.heap.size + 2) 55 14 v pre.length (rtV pre)
  pl : ∀ x ∈ pre, PlOk (w.heap.size + 2) W x
theorem pl_own {W W' : World} {B : Nat} {x : RT} {row : Option Nat} (h : PlOk B W x) (hg : W.grownBy W' row) (hr : ∀ r, row = some r → ∃ o : Obj, W.heap[r]? = some o ∧ o.isCells = false) : PlOk B W' x :=
  h.keep hg.size fun b ⟨cur, q⟩ => hg.block b (lt_of_block q) fun e => by
    obtain ⟨o, ho, hc⟩ := hr b e.symm
    rw [q] at ho
    cases ho
    cases hc
theorem ri_own (w : World) : OwnFrom (w.heap.size + 2) (RI w) := fun pre W W' row h hg hr => by
  have hk : ∀ k, k < w.heap.size + 2 → W'.heap[k]? = W.heap[k]? := fun k hk => hg.block k (by have := h.size; omega) fun e => by have := (hr k e.symm).1; omega
  obtain ⟨v, h3, h4⟩ := h.row
  exact ⟨below_grown h.bel hg (fun r e => (hr r e).1) (by omega) h.size, Nat.le_trans h.size hg.size, ⟨v, (hk _ (by omega)).trans h3, own_kept h4 hg (fun r e => (hr r e).2)⟩, fun x hx => pl_own (h.pl x hx) hg fun r e => (hr r e).2⟩
theorem ri_start (w : World) (a : Option Addr) (m c : Nat) : RI w [] (pW w a m c) :=
  ⟨pW_below _ _ _ _, by rw [pW_size]; exact Nat.le_refl _, ⟨_, pW_0 _ _ _ _, World.ownsRow_nil _ _ _ _⟩, fun x hx => by simp at hx⟩
def pA (w : World) (a : Option Addr) (m c : Nat) (x : RT) (bx : Nat) : Act := { tmps := #[.slice a m c, undef, .slice none 0 0, .pointer (some ⟨w.heap.size, 0, none⟩), .pointer (some ⟨bx, 0, none⟩), .slice a m c, .func (.func 35) #[] #[.pointer (some ⟨w.heap.size + 1, 0, none⟩)], .agg (rcs x.1 x.2.1 x.2.2), undef, undef, undef, undef, undef], defers := [] }
/-- behind the assignment to the loop's variable -/
def AxT (w : World) (a : Option Addr) (m c : Nat) (pre : List RT) (x : RT) (a' : Act) (W : World) : Prop := RI w pre W ∧ PlOk (w.heap.size + 2) W x ∧ pre.length < 64 ∧ ∃ bx, a' = pA w a m c x bx ∧ w.heap.size + 2 ≤ bx ∧ RBx bx 55 x.1 x.2.1 x.2.2 W
theorem axT_own (w : World) (a : Option Addr) (m c : Nat) (pre : List RT) (x : RT) (a' : Act) : OwnFrom (w.heap.size + 2) (fun (_ : Unit) W => AxT w a m c pre x a' W) := fun _ W W' row hs hg hr => by
  obtain ⟨h0, h1, h2, bx, h3, h4, h5⟩ := hs
  refine ⟨ri_own w pre W W' row h0 hg hr, pl_own h1 hg fun r e => (hr r e).2, h2, bx, h3, h4, (hg.block bx (lt_of_block h5) fun e => ?_).trans h5⟩
  obtain ⟨_, o, ho, hoc⟩ := hr bx e.symm
  rw [show W.heap[bx]? = _ from h5] at ho
  cases ho
  cases hoc
theorem loc_appd {W W' : World} {bi B z n : Nat} {t e : TypeId} {v : Value} {ys : List Value} (h : Appd W W' bi v) (hv : Boxed W bi t v) (ht : t ≠ 92) (hr : W.ownsRow B e z v n ys) (he : e ≠ 92) {b : Nat} (hb : LocB W b) : W'.heap[b]? = W.heap[b]? := by
  obtain ⟨cur, q⟩ := hb
  refine h.block b (lt_of_block q) (fun e' => ?_) (fun e' => ?_)
  · obtain ⟨_, ⟨rfl, _⟩ | ⟨g, cap, cu, rfl, _, hg, _⟩⟩ := hr
    · simp [Value.ownBlock] at e'
    · have : b = g := by simpa [Value.ownBlock] using e'
      subst this
      rw [hg] at q
      simp at q
      exact he q.2
  · subst e'
    have := (show W.heap[b]? = _ from hv).symm.trans q
    simp at this
    exact ht this.2
set_option maxRecDepth 100000 in
set_option maxHeartbeats 4000000 in
theorem prefix_any (a : Option Addr) (m c : Nat) (ss : List ByteArray) (w : World) (hl : ss.length = m) (hm : m ≤ 9223372036854775807) (hS : StrsAt w a ss) (hsz : ∀ s ∈ ss, s.size ≤ 150000000000000) : Calls Try.prog 12 #[.slice a m c] w (PfP ss w) := by
  obtain ⟨i0, hi0, hz0, hz1, hz2⟩ := info_parts rec_full
  have HS := hide hS
  have HL := hide hl
  have HZ := hide hsz
  clear hS hl hsz
  refine (callsIn_wide (n := 5)).1 ?_
  refine callsIn_of_wp_marks Try.func12 rfl trivial ?_ rfl
  simp only [Try.ntmps12, List.size_toArray, List.length_cons, List.length_nil, Nat.reduceAdd, Nat.reduceSub, Array.replicate_succ, Array.replicate_zero, List.push_toArray, List.append_toArray, List.nil_append, List.cons_append]
  gi_wp2_with (refine ⟨trivial, ?_⟩; gi_at_call 25; refine (records_in _ _ _ _ _).mono ?_; rintro e w' ⟨rfl, rfl⟩)
  have hsz := pW_size w a m c
  have hbW := pW_below w a m c
  have HSs : Hid (ss = [] ∨ ∃ b o, a = some ⟨b, o, none⟩ ∧ b < w.heap.size + 2 ∧ b ≠ w.heap.size ∧ ∀ (i : Nat) (s : ByteArray), ss[i]? = some s → (pW w a m c).cell? ⟨b, o + i, none⟩ = some (.string s)) := by
    rcases HS.out with h | ⟨b, o, h1, h2, h3⟩
    · exact .inl h
    · exact .inr ⟨b, o, h1, by omega, by omega, fun i s hs => (hbW.cell (p := ⟨b, o + i, none⟩) h2).trans (h3 i s hs)⟩
  refine wpIn_rangeFunc_pre (n := 5) (F := Fence.wide) rfl (by omega) (gf := 35) (lb := #[.pointer (some ⟨w.heap.size + 1, 0, none⟩)]) rfl trivial (enters_of Try.func35 (by kernel_rfl) rfl)
    (records_stops (5 - 1) (by omega) (w.heap.size + 1) (w.heap.size + 2) w.heap.size (w.heap.size + 2) m c a ss HL.out hm HZ.out (pW w a m c) (by omega) (by omega) (pW_1 _ _ _ _) HSs.out)
    Kl.trans (kl_put (w := pW w a m c) (by omega)) (Below.refl _ _) (fun _ => rfl) (RI w) (fun _ _ _ => False)
    (by have := ri_own w; simpa using this) (fun _ _ _ _ _ h _ _ => h)
    (ri_start w a m c) (AxT w a m c) (fun pre x a' => by have := axT_own w a m c pre x a'; simpa using this) ?assign ?body ?done ?stop
  case assign =>
    rintro l pre ⟨r, ra, rc⟩ W K hI ⟨hP, hlt⟩ hK
    simp only [encT]
    have hWs := hI.size
    have hal : Below W.heap.size W (W.alloc (.cells #[.int .i64 0, .int .i64 0, .int .i64 0, .int .i64 0, .int .i64 0, .slice none 0 0, .string { data := #[] }, .int .i64 0, .int .i64 0, .int .i64 0, .string { data := #[] }, .string { data := #[] }, .int .i64 0, .int .i64 0] 55)) := (Below.refl _ _).alloc (Nat.le_refl _) _
    have hrow := below_setRow hal (Nat.le_refl _) (rcs r ra rc)
    have N1 : Hid (RBx W.heap.size 55 Rc.zero none 0 (W.alloc (.cells #[.int .i64 0, .int .i64 0, .int .i64 0, .int .i64 0, .int .i64 0, .slice none 0 0, .string { data := #[] }, .int .i64 0, .int .i64 0, .int .i64 0, .string { data := #[] }, .string { data := #[] }, .int .i64 0, .int .i64 0] 55))) := rbx_new 55 Rc.zero none 0 W
    have HB := hide hrow
    have HI := hide hI
    have HP := hide hP
    clear hal hrow hI hP
    gi_wp2_with (first | (refine store_rowIn rfl 55 (.tmp 4) (.tmp 7) rfl W.heap.size (rcs r ra rc) rfl rfl 55 (rcs Rc.zero none 0) N1.out rec_info rfl (rcs_one _ _ _) ?_))
    refine hK _ _ ?_ ⟨⟨HB.out.size, fun k hk _ => HB.out.block k (by omega)⟩, fun b hb => HB.out.block b hb.lt⟩ ⟨?_, HP.out.below HB.out, hlt, W.heap.size, rfl, hWs, N1.out.row r ra rc⟩
    · exact ⟨HB.out.size, fun k o _ hk _ => (HB.out.block k (Array.getElem?_eq_some_iff.1 hk).1).trans hk⟩
    · exact ri_own w pre W _ none HI.out (grown_none HB.out) (fun r e => by cases e)
  case body =>
    rintro l pre ⟨r, ra, rc⟩ a' W ⟨hI, hP, hlt, bx, rfl, hbx, hB⟩
    obtain ⟨v, hv, hr⟩ := hI.row
    have hWs := hI.size
    have HI := hide hI
    have HP := hide hP
    have hc := hv.cell
    have HV := hide hv
    have HR := hide hr
    have HB := hide hB
    have hz14 : (rcs r ra rc).size = 14 := rfl
    clear hI hP hv hr hB
    unfold pA
    simp only
    gi_wp2_with (first | (refine load_rowIn rfl 55 (.tmp 4) rfl bx rfl 55 (rcs r ra rc) (0, 0) _ HB.out Try.underlying55 rfl rec_info ?_) | (gi_at_builtin; first | rw [fold_rcs] | rw [fold_14]; refine wpListIn_append_own _ rfl (.tmp 8) (.tmp 10) 34 rfl (w.heap.size + 2) 55 i0 (.agg (rcs Rc.zero none 0)) 14 152 Try.underlying34 hi0 hz0 hz1 hz2 rfl (by decide) _ _ _ rfl (HR.out.alloc _) ⟨W.heap.size, 0, none⟩ 1 1 (rtC (r, ra, rc)).toList rfl rfl (cell_rec_new W (r, ra, rc) 55) (rtC_one _) (by unfold maxLen; omega) (by omega) (by rw [World.size_alloc]; omega) ?_; intro v' w1 hown' hgrow hn'; clear hn'; obtain ⟨g', cap', rfl⟩ := ownsRow_succ hown'; obtain ⟨q1, q2, q3, q4⟩ := appd HV.out (by decide) HR.out hown' hgrow; have hc1 := q1.cell; have hf1 := q1.frozen))
    have low : ∀ j, j < w.heap.size + 2 → j ≠ w.heap.size → (w1.setCell ⟨w.heap.size, 0, none⟩ (.slice (some ⟨g', 0, none⟩) (pre.length + 1) cap')).heap[j]? = W.heap[j]? := fun j hj h3 => q4.low HR.out hWs hj h3
    have locs : ∀ b, LocB W b → (w1.setCell ⟨w.heap.size, 0, none⟩ (.slice (some ⟨g', 0, none⟩) (pre.length + 1) cap')).heap[b]? = W.heap[b]? := fun b hb => loc_appd q4 HV.out (by decide) HR.out (by decide) hb
    refine ⟨q4.others.from _, ⟨⟨q4.size, low⟩, locs⟩, ⟨?_, Nat.le_trans hWs q4.size, ⟨_, q2, ?_⟩, fun x hx => ?_⟩⟩
    · exact ⟨q4.os.trans HI.out.bel.os, q4.tape.trans HI.out.bel.tape, q4.output.trans HI.out.bel.output, Nat.le_trans HI.out.bel.size q4.size, fun j hj => (low j (by omega) (by omega)).trans (HI.out.bel.block j hj)⟩
    · rw [rtV_snoc, List.length_append]
      exact q3
    · rcases List.mem_append.1 hx with q | q
      · exact (HI.out.pl x q).keep q4.size locs
      · rw [List.mem_singleton.1 q]
        exact HP.out.keep q4.size locs
  case done =>
    rintro Dd ys W hD ⟨hG, hstop⟩ hI hK
    replace hD : w.heap.size + 2 ≤ Dd := by simpa using hD
    obtain ⟨v, hv, hr⟩ := hI.row
    have hbF : Below w.heap.size w (W.putObj Dd (.deferred none)) := ⟨hI.bel.os, hI.bel.tape, hI.bel.output, by simpa using hI.bel.size, fun j hj => (World.putObj_heap_other (by omega)).trans (hI.bel.block j hj)⟩
    have hsame : (W.putObj Dd (.deferred none)).ownsRow (w.heap.size + 2) 55 14 v ys.length (rtV ys) := own_same hr fun g cur t fr hg hc => World.putObj_heap_other fun e => by rw [e, hK] at hc; cases hc
    obtain ⟨a', c', e, hc, hrec⟩ := recs_own hsame fun x hx => ((hI.pl x hx).keep (w' := W.putObj Dd (.deferred none)) (by simp) fun b ⟨cur, q⟩ => World.putObj_heap_other fun e => by rw [e, hK] at q; cases q).1
    subst e
    have hcell := hv.cell
    have HF : Hid (PfP ss w (.returned (.slice a' ys.length c')) (W.putObj Dd (.deferred none))) := ⟨ys, a', c', rfl, hc, by rw [hG.2.1]; exact (pref_stop hG.1 hG.2.2 hstop).symm, hrec, hbF⟩
    have HK := hide hK
    clear hI hK hv hr hbF hsame hrec hG hstop
    gi_wp2
    refine ⟨by simp, .inl ⟨_, _, rfl, run_takeDeferred HK.out, ?_⟩⟩
    refine ⟨_, results_tmp rfl _ _ _, ?_⟩
    exact HF.out
  case stop =>
    rintro Dd cc pre W hD _ h hK
    exact h.elim
end Go.Proofs.Ytaiafbihcfbglaa
