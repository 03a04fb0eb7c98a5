/- What replay.records' iterator does: it yields the records that the sectors begin with, each with places of its own. -/
import Derived.Test.YtaiafbihcfbglaaRpPre
import Derived.Test.YtaiafbihcfbglaaRFunX
namespace Go.Proofs.Ytaiafbihcfbglaa
open Go.RowKit Go.Shelf
set_option linter.unusedVariables false
attribute [local go_sem] Oper.semAt_some
def encT (x : RT) : Array Value := #[.agg (rcs x.1 x.2.1 x.2.2)]
/-- what a round keeps: all blocks below n₀ but one, and all blocks of places -/
def Kl (n₀ bi : Nat) (W W' : World) : Prop := Kp n₀ bi W W' ∧ ∀ b, LocB W b → W'.heap[b]? = W.heap[b]?
theorem Kl.trans {n₀ bi : Nat} {A B C : World} (h : Kl n₀ bi A B) (k : Kl n₀ bi B C) : Kl n₀ bi A C := ⟨h.1.trans k.1, fun b q => (k.2 b (q.keep (h.2 b q))).trans (h.2 b q)⟩
theorem kl_put {n₀ bi : Nat} {w : World} (hn : n₀ ≤ w.heap.size) (W : World) (l : Nat) (o o' : Obj) (hl : w.heap.size ≤ l) (h : W.heap[l]? = some o) (hc : o.isCells = false) (hw : o.isWalk = false) : Kl n₀ bi W (W.putObj l o') :=
  ⟨kp_put hn W l o o' hl h hc hw, fun b ⟨cur, q⟩ => World.putObj_heap_other fun e => by rw [e, h] at q; cases q; cases hc⟩
theorem kp_below {n₀ bi : Nat} {A B : World} (h : Below A.heap.size A B) (h1 : n₀ ≤ A.heap.size) : Kp n₀ bi A B := ⟨h.size, fun k hk _ => h.block k (by omega)⟩
/-- these are the records of the first places -/
def GoodP (ss : List ByteArray) (pre : List RT) : Prop := pre.length ≤ ss.length ∧ pre.map Prod.fst = (ss.take pre.length).map rdC ∧ ∀ j s, j < pre.length → ss[j]? = some s → okF j s
theorem GoodP.nil (ss : List ByteArray) : GoodP ss [] := ⟨Nat.zero_le _, rfl, fun j s hj => absurd hj (Nat.not_lt_zero _)⟩
theorem GoodP.step {ss : List ByteArray} {pre : List RT} {s : ByteArray} {a : Option Addr} {c : Nat} (h : GoodP ss pre) (hs : ss[pre.length]? = some s) (ho : okF pre.length s) : GoodP ss (pre ++ [(rdC s, a, c)]) := by
  have hlt : pre.length < ss.length := (List.getElem?_eq_some_iff.1 hs).1
  refine ⟨by rw [List.length_append]; exact hlt, ?_, ?_⟩
  · rw [List.length_append]; exact pf_recs h.2.1 hs
  · rw [List.length_append]; exact pf_ok h.2.2 hs ho
theorem ok_lt {j : Nat} {s : ByteArray} (h : okF j s) : j < 64 := by
  have h1 := (ckR_zero.1 (rdE_read h.1).2.1).1
  have h2 := h.2
  have := h1.1
  omega
theorem GoodP.le {ss : List ByteArray} {pre : List RT} (h : GoodP ss pre) : pre.length ≤ 64 := by
  cases hk : pre.length with
  | zero => omega
  | succ k =>
    have hlt : k < ss.length := by have := h.1; omega
    have := ok_lt (h.2.2 k ss[k] (by omega) (List.getElem?_eq_getElem hlt))
    omega
/-- what is known of an element where it is yielded -/
def PreT (B : Nat) (pre : List RT) (x : RT) (W : World) : Prop := PlOk B W x ∧ pre.length < 64
set_option maxRecDepth 100000 in
set_option maxHeartbeats 4000000 in
theorem records1_in (n : Nat) (hn : 1 ≤ n) (l bS n₀ bi B m c : Nat) (a : Option Addr) (ss : List ByteArray) (hl : ss.length = m) (hm : m ≤ 9223372036854775807) (hsz : ∀ s ∈ ss, s.size ≤ 150000000000000)
    (J Jx : List RT → World → Prop) (W : World) (hJ : AbidesFrom W.heap.size J)
    (hY : ∀ pre x W, J pre W → PreT B pre x W → YieldAt Fence.wide (n - 1) Try.prog l (encT x) W fun e W' =>
      (e = .returned (.bool true) ∧ J (pre ++ [x]) W' ∧ Kl n₀ bi W W') ∨ (e = .returned (.bool false) ∧ Jx (pre ++ [x]) W'))
    (hn0 : n₀ ≤ W.heap.size) (hB : B ≤ W.heap.size) (cS : W.cell? ⟨bS, 0, none⟩ = some (.slice a m c))
    (hSs : ss = [] ∨ ∃ b o, a = some ⟨b, o, none⟩ ∧ b < n₀ ∧ b ≠ bi ∧ ∀ (i : Nat) (s : ByteArray), ss[i]? = some s → W.cell? ⟨b, o + i, none⟩ = some (.string s)) (h0 : J [] W) :
    CallsIn Fence.wide n Try.prog 35 #[.func (.yield l) #[] #[], .pointer (some ⟨bS, 0, none⟩)] W fun e W' => (∃ v, e = .returned v) ∧
      ((∃ ys, (GoodP ss ys ∧ ∀ s, ss[ys.length]? = some s → ¬ okF ys.length s) ∧ J ys W') ∨ (∃ pre, True ∧ Jx pre W')) := by
  have HY := hide hY
  have HJ := hide hJ
  have HS := hide hSs
  have HL := hide hl
  have HZ := hide hsz
  clear hY hJ hSs hl hsz
  refine callsIn_of_wp Try.func35 rfl trivial ?_ rfl
  simp only [Try.ntmps35, List.size_toArray, List.length_cons, List.length_nil, Nat.reduceAdd, Nat.reduceSub, Array.replicate_succ, Array.replicate_zero, List.push_toArray, List.append_toArray, List.nil_append, List.cons_append]
  gi_wp2
  clear cS
  gi_loopw [9] (fun y wr => ∃ (k : Nat) (pre : List RT), k = pre.length ∧ GoodP ss pre ∧ y = .int .i64 k ∧ J pre wr ∧ Kp n₀ bi W wr) (fun y _ => m - (intOf y).toNat)
  case atStart => exact ⟨0, [], rfl, GoodP.nil _, rfl, h0, Kp.refl _ _ _⟩
  case round =>
    obtain ⟨k, pre, hk, hg, rfl, hJs, hkp⟩ := hrel
    have HK := hide hk
    have HG := hide hg
    have HJs := hide hJs
    have HKp := hide hkp
    clear hk hg hJs hkp
    by_cases hlt : k < m
    · have hd : decide ((k : Int) < (m : Int)) = true := by simp; omega
      have hdi : (k : Int) < (m : Int) := by omega
      have hd0 : (0 : Int) ≤ (k : Int) := by omega
      obtain ⟨s, hs⟩ : ∃ x, ss[k]? = some x := ⟨_, List.getElem?_eq_getElem (by have := HL.out; omega)⟩
      have hne : ss ≠ [] := fun e => by rw [e] at hs; simp at hs
      obtain ⟨b1, o1, rfl, hb1, hb2, hc⟩ := HS.out.resolve_left hne
      have e1 : wr.cell? ⟨b1, o1 + k, none⟩ = some (.string s) := (HKp.out.cell hb1 hb2).trans (hc k s hs)
      have HX := hide hs
      have hssz : s.size ≤ 150000000000000 := HZ.out s (List.mem_of_getElem? hs)
      clear hs hne hc
      gi_wp2_with fail
      refine ⟨trivial, (callsIn_wide.2 (pread_any s wr hssz)).mono ?_⟩
      rintro e w1 ⟨ra, rc, rfl, hla, hfr, hb3⟩
      have hal1 : Below w1.heap.size w1 (w1.alloc (.cells #[.int .i64 0, .int .i64 0, .int .i64 0, .int .i64 0, .int .i64 0, .slice none 0 0, .string { data := #[] }, .int .i64 0, .int .i64 0, .int .i64 0, .string { data := #[] }, .string { data := #[] }, .int .i64 0, .int .i64 0] 55)) := (Below.refl _ _).alloc (Nat.le_refl _) _
      have hrow1 := below_setRow hal1 (Nat.le_refl _) (rcs (rdC s) ra rc)
      have N1 : Hid (RBx w1.heap.size 55 Rc.zero none 0 (w1.alloc (.cells #[.int .i64 0, .int .i64 0, .int .i64 0, .int .i64 0, .int .i64 0, .slice none 0 0, .string { data := #[] }, .int .i64 0, .int .i64 0, .int .i64 0, .string { data := #[] }, .string { data := #[] }, .int .i64 0, .int .i64 0] 55))) := rbx_new 55 Rc.zero none 0 w1
      have X1 : Hid (RBx w1.heap.size 55 (rdC s) ra rc ((w1.alloc (.cells #[.int .i64 0, .int .i64 0, .int .i64 0, .int .i64 0, .int .i64 0, .slice none 0 0, .string { data := #[] }, .int .i64 0, .int .i64 0, .int .i64 0, .string { data := #[] }, .string { data := #[] }, .int .i64 0, .int .i64 0] 55)).setRow w1.heap.size (rcs (rdC s) ra rc))) := N1.out.row _ ra rc
      have hball : Below wr.heap.size wr ((w1.alloc (.cells #[.int .i64 0, .int .i64 0, .int .i64 0, .int .i64 0, .int .i64 0, .slice none 0 0, .string { data := #[] }, .int .i64 0, .int .i64 0, .int .i64 0, .string { data := #[] }, .string { data := #[] }, .int .i64 0, .int .i64 0] 55)).setRow w1.heap.size (rcs (rdC s) ra rc)) := hb3.trans (hrow1.mono hb3.size)
      have BB : Hid (Below wr.heap.size wr ((w1.alloc (.cells #[.int .i64 0, .int .i64 0, .int .i64 0, .int .i64 0, .int .i64 0, .slice none 0 0, .string { data := #[] }, .int .i64 0, .int .i64 0, .int .i64 0, .string { data := #[] }, .string { data := #[] }, .int .i64 0, .int .i64 0] 55)).setRow w1.heap.size (rcs (rdC s) ra rc))) := hball
      have hBw : B ≤ wr.heap.size := Nat.le_trans hB HKp.out.1
      have PL2 : Hid (PlOk B ((w1.alloc (.cells #[.int .i64 0, .int .i64 0, .int .i64 0, .int .i64 0, .int .i64 0, .slice none 0 0, .string { data := #[] }, .int .i64 0, .int .i64 0, .int .i64 0, .string { data := #[] }, .string { data := #[] }, .int .i64 0, .int .i64 0] 55)).setRow w1.heap.size (rcs (rdC s) ra rc)) (rdC s, ra, rc)) := PlOk.below (w := w1) ⟨hla, fun b o q => ⟨Nat.le_trans hBw (hfr b o q).1, (hfr b o q).2⟩⟩ hrow1
      have J2 : Hid (J pre ((w1.alloc (.cells #[.int .i64 0, .int .i64 0, .int .i64 0, .int .i64 0, .int .i64 0, .slice none 0 0, .string { data := #[] }, .int .i64 0, .int .i64 0, .int .i64 0, .string { data := #[] }, .string { data := #[] }, .int .i64 0, .int .i64 0] 55)).setRow w1.heap.size (rcs (rdC s) ra rc))) := HJ.out pre wr _ none HJs.out (grown_none hball) (fun r e => by cases e)
      clear hla hfr hb3 hal1 hrow1 hball e1 hBw
      by_cases hE : rdE s = 0
      · have e0 : (rdE s == 0) = true := by simp [hE]
        have e0' : (rdE s != 0) = false := by simp [hE]
        by_cases hQ : (rdC s).seq = (k : Int)
        · have q0 : ((rdC s).seq == (k : Int)) = true := by simp [hQ]
          have q0' : ((rdC s).seq != (k : Int)) = false := by simp [hQ]
          have OK : Hid (okF k s) := ⟨hE, hQ⟩
          obtain ⟨fn, tmps, assign, body, hy, hR⟩ := HY.out pre (rdC s, ra, rc) _ J2.out ⟨PL2.out, by rw [← HK.out]; exact ok_lt OK.out⟩
          dsimp only [encT] at hy
          clear hE hQ
          gi_wp2_with (first | (refine store_rowIn rfl 55 (.tmp 5) (.tmp 17) rfl w1.heap.size (rcs (rdC s) ra rc) rfl rfl 55 (rcs Rc.zero none 0) N1.out rec_info rfl (rcs_one _ _ _) ?_; generalize ((w1.alloc (.cells #[.int .i64 0, .int .i64 0, .int .i64 0, .int .i64 0, .int .i64 0, .slice none 0 0, .string { data := #[] }, .int .i64 0, .int .i64 0, .int .i64 0, .string { data := #[] }, .string { data := #[] }, .int .i64 0, .int .i64 0] 55)).setRow w1.heap.size (rcs (rdC s) ra rc)) = W2 at *; generalize w1.heap.size = bb1 at *; have c0 := X1.out.c0) | (refine load_rowIn (by simp [Region.wanted, yielded]) 55 (.tmp 5) rfl bb1 rfl 55 (rcs (rdC s) ra rc) (0, 0) _ X1.out Try.underlying55 rfl rec_info ?_))
          refine hR.mono ?_
          rintro e W5 (⟨rfl, hJ5, hk5⟩ | ⟨rfl, hJx5⟩)
          · gi_wp2
            go_roundw
            case rel => exact ⟨k + 1, pre ++ [(rdC s, ra, rc)], by rw [List.length_append, ← HK.out]; rfl, HG.out.step (by rw [← HK.out]; exact HX.out) (by rw [← HK.out]; exact OK.out), by go_num, hJ5, HKp.out.trans ((kp_below BB.out (Nat.le_trans hn0 HKp.out.1)).trans hk5.1)⟩
            case measure => simp [intOf]; omega
          · gi_wp2
            refine bodyPost_ret (results_none rfl _ _ _) rfl ?_
            exact ⟨⟨_, rfl⟩, .inr ⟨_, trivial, hJx5⟩⟩
        · have q0 : ((rdC s).seq == (k : Int)) = false := by simp [hQ]
          have q0' : ((rdC s).seq != (k : Int)) = true := by simp [hQ]
          have NO : Hid (¬ okF k s) := fun q => hQ q.2
          clear hE hQ
          have c0 := X1.out.c0
          gi_wp2_with (first | (refine store_rowIn rfl 55 (.tmp 5) (.tmp 17) rfl w1.heap.size (rcs (rdC s) ra rc) rfl rfl 55 (rcs Rc.zero none 0) N1.out rec_info rfl (rcs_one _ _ _) ?_) | (refine ⟨fun _ q => (by cases q), ?_⟩))
          refine bodyPost_ret (results_none rfl _ _ _) rfl ?_
          exact ⟨⟨_, rfl⟩, .inl ⟨pre, ⟨HG.out, fun s' hs' => by rw [← HK.out] at hs' ⊢; rw [HX.out] at hs'; cases hs'; exact NO.out⟩, J2.out⟩⟩
      · have e0 : (rdE s == 0) = false := by simp [hE]
        have e0' : (rdE s != 0) = true := by simp [hE]
        have NO : Hid (¬ okF k s) := fun q => hE q.1
        clear hE
        have c0 := X1.out.c0
        gi_wp2_with (first | (refine store_rowIn rfl 55 (.tmp 5) (.tmp 17) rfl w1.heap.size (rcs (rdC s) ra rc) rfl rfl 55 (rcs Rc.zero none 0) N1.out rec_info rfl (rcs_one _ _ _) ?_) | (refine ⟨fun _ q => (by cases q), ?_⟩))
        refine bodyPost_ret (results_none rfl _ _ _) rfl ?_
        exact ⟨⟨_, rfl⟩, .inl ⟨pre, ⟨HG.out, fun s' hs' => by rw [← HK.out] at hs' ⊢; rw [HX.out] at hs'; cases hs'; exact NO.out⟩, J2.out⟩⟩
    · have hd : decide ((k : Int) < (m : Int)) = false := by simp; omega
      have hdi : ¬ (k : Int) < (m : Int) := by omega
      gi_wp2
      go_end0
      exact ⟨⟨_, rfl⟩, .inl ⟨pre, ⟨HG.out, fun s' hs' => by rw [← HK.out] at hs'; rw [List.getElem?_eq_none (by have := HL.out; omega)] at hs'; cases hs'⟩, HJs.out⟩⟩
set_option maxHeartbeats 1000000 in
theorem records_in (n m c : Nat) (a : Option Addr) (w : World) :
    CallsIn Fence.wide n Try.prog 25 #[.slice a m c] w fun e w' => e = .returned (.func (.func 35) #[] #[.pointer (some ⟨w.heap.size, 0, none⟩)]) ∧ w' = w.alloc (.cells #[.slice a m c] 22) := by
  refine callsIn_of_wp Try.func25 rfl trivial ?_ rfl
  simp only [Try.ntmps25, List.size_toArray, List.length_cons, List.length_nil, Nat.reduceAdd, Nat.reduceSub, Array.replicate_succ, Array.replicate_zero, List.push_toArray, List.append_toArray, List.nil_append, List.cons_append]
  gi_wp2
  go_ret
  exact ⟨rfl, rfl⟩
theorem records_stops (n : Nat) (hn : 1 ≤ n) (bS n₀ bi B m c : Nat) (a : Option Addr) (ss : List ByteArray) (hl : ss.length = m) (hm : m ≤ 9223372036854775807) (hsz : ∀ s ∈ ss, s.size ≤ 150000000000000) (w : World) (hn0 : n₀ ≤ w.heap.size) (hB : B ≤ w.heap.size) (cS : w.heap[bS]? = some (.cells #[.slice a m c] 22 (0, 0)))
    (hSs : ss = [] ∨ ∃ b o, a = some ⟨b, o, none⟩ ∧ b < n₀ ∧ b ≠ bi ∧ ∀ (i : Nat) (s : ByteArray), ss[i]? = some s → w.cell? ⟨b, o + i, none⟩ = some (.string s)) :
    SeqPre Fence.wide n Try.prog 35 #[.pointer (some ⟨bS, 0, none⟩)] encT (Kl n₀ bi) (PreT B) (fun ys => GoodP ss ys ∧ ∀ s, ss[ys.length]? = some s → ¬ okF ys.length s) (fun _ => True) w := fun l J Jx W hW hJ _ hY h0 =>
  records1_in n hn l bS n₀ bi B m c a ss hl hm hsz J Jx W hJ hY (Nat.le_trans hn0 hW.size) (Nat.le_trans hB hW.size) (cell_of_block (c := #[.slice a m c]) ((hW.block bS (lt_of_block cS)).trans cS))
    (hSs.imp id fun ⟨b, o, h1, h2, h3, h4⟩ => ⟨b, o, h1, h2, h3, fun i s hs => (hW.cell (p := ⟨b, o + i, none⟩) (Nat.lt_of_lt_of_le h2 hn0)).trans (h4 i s hs)⟩) h0
end Go.Proofs.Ytaiafbihcfbglaa
