/- What place.Choose answers. -/
import Derived.Test.YtleknjjfmklkcaaPlRound
namespace Go.Proofs.Ytleknjjfmklkcaa
open Go.RowKit Go.Shelf
set_option linter.unusedVariables false
attribute [local go_sem] Oper.semAt_some
/-- may a volume be chosen for? -/
def chB (id gen : Int) (l : List Int) : Bool := numB id && numB gen && liveB l
def chE (id gen : Int) (l : List Int) : Int := if chB id gen l then (if l.length < 9 then 2 else 0) else 1
def chL (id gen : Int) (l : List Int) : List Int := if chB id gen l then (if l.length < 9 then [] else rotL l (5 * id.toNat + 7 * gen.toNat) 9) else []
/-- an address, if it is one, is of a block that was not there -/
def NewA (w : World) (a : Option Addr) : Prop := ∀ p, a = some p → w.heap.size ≤ p.block
theorem own_new {w W : World} {B z n m c : Nat} {e : TypeId} {a : Option Addr} {xs : List Value} (h : W.ownsRow B e z (.slice a m c) n xs) (hB : w.heap.size ≤ B) : NewA w a := by
  intro p hp
  obtain ⟨_, ⟨h, _⟩ | ⟨g, cap, cur, h, hb, _⟩⟩ := h
  · injection h with h1; rw [h1] at hp; cases hp
  · injection h with h1
    rw [h1] at hp
    injection hp with hp
    rw [← hp]
    exact Nat.le_trans hB hb
/-- what Choose leaves -/
def Chosen (id gen : Int) (l : List Int) (w : World) (e : Ending) (w' : World) : Prop :=
  Below w.heap.size w w' ∧ ∃ a c, e = .returned (.tuple #[.slice a (chL id gen l).length c, .int .i64 (chE id gen l)]) ∧ (chL id gen l).length ≤ c ∧ IntsAt w' a (chL id gen l) ∧ NewA w a
theorem chosen_arg {id gen : Int} {l : List Int} {w w' : World} (h : chB id gen l = false) (hb : Below w.heap.size w w') : Chosen id gen l w (.returned (.tuple #[.slice none 0 0, .int .i64 1])) w' := by
  have e1 : chE id gen l = 1 := by unfold chE; rw [h]; rfl
  have e2 : chL id gen l = [] := by unfold chL; rw [h]; rfl
  refine ⟨hb, none, 0, ?_, ?_, ?_, fun p h => by cases h⟩
  · rw [e1, e2]; rfl
  · rw [e2]; exact Nat.le_refl _
  · rw [e2]; exact .inl rfl
theorem chosen_few {id gen : Int} {l : List Int} {w w' : World} (h : chB id gen l = true) (h9 : l.length < 9) (hb : Below w.heap.size w w') : Chosen id gen l w (.returned (.tuple #[.slice none 0 0, .int .i64 2])) w' := by
  have e1 : chE id gen l = 2 := by unfold chE; rw [h, if_pos rfl, if_pos h9]
  have e2 : chL id gen l = [] := by unfold chL; rw [h, if_pos rfl, if_pos h9]
  refine ⟨hb, none, 0, ?_, ?_, ?_, fun p h => by cases h⟩
  · rw [e1, e2]; rfl
  · rw [e2]; exact Nat.le_refl _
  · rw [e2]; exact .inl rfl
theorem chosen_ok {i g : Nat} {l : List Int} {w w' : World} {a : Option Addr} {c : Nat} (h : chB i g l = true) (h9 : ¬ l.length < 9) (hb : Below w.heap.size w w') (hc : 9 ≤ c) (hI : IntsAt w' a (rotL l (5 * i + 7 * g) 9)) (hnew : NewA w a) : Chosen i g l w (.returned (.tuple #[.slice a 9 c, .int .i64 0])) w' := by
  have e1 : chE i g l = 0 := by unfold chE; rw [h, if_pos rfl, if_neg h9]
  have e2 : chL i g l = rotL l (5 * i + 7 * g) 9 := by unfold chL; rw [h, if_pos rfl, if_neg h9]; rfl
  have e3 : (chL i g l).length = 9 := by rw [e2, rotL_len]
  refine ⟨hb, a, c, ?_, ?_, ?_, hnew⟩
  · rw [e1, e3]
  · rw [e3]; exact hc
  · rw [e2]; exact hI
/-- the invariant of the rounds -/
structure CI (w : World) (pre : List Int) (W : World) : Prop where
  le : pre.length ≤ 9
  bel : Below w.heap.size w W
  size : w.heap.size + 3 ≤ W.heap.size
  row : ∃ v, Boxed W w.heap.size 22 v ∧ W.ownsRow (w.heap.size + 3) 3 1 v pre.length (inV pre)
theorem ci_own (w : World) : OwnFrom (w.heap.size + 3) (CI w) := fun pre W W' row h hg hr => by
  have hk : ∀ k, k < w.heap.size + 3 → W'.heap[k]? = W.heap[k]? := fun k hk => hg.block k (by have := h.size; omega) fun e => by have := (hr k e.symm).1; omega
  obtain ⟨v, h3, h4⟩ := h.row
  exact ⟨h.le, below_grown h.bel hg (fun r e => (hr r e).1) (by omega) h.size, Nat.le_trans h.size hg.size, v, (hk _ (by omega)).trans h3, own_kept h4 hg (fun r e => (hr r e).2)⟩
/-- behind the round that was left -/
def CX (w : World) (c : Code) (pre : List Int) (W : World) : Prop := c = .exit 0 ∧ ∃ p x, pre = p ++ [x] ∧ p.length = 9 ∧ CI w p W
theorem cx_own (w : World) (c : Code) : OwnFrom (w.heap.size + 3) (CX w c) := fun pre W W' row h hg hr => by
  obtain ⟨hc, p, x, h1, h2, h3⟩ := h
  exact ⟨hc, p, x, h1, h2, ci_own w p W W' row h3 hg hr⟩
theorem ci_end {w W : World} {p : List Int} {Dd : Nat} (h : CI w p W) (h9 : p.length = 9) (hD : w.heap.size + 3 ≤ Dd) (hK : W.heap[Dd]? = some (.deferred (some []))) :
    ∃ a c, Boxed W w.heap.size 22 (.slice a 9 c) ∧ 9 ≤ c ∧ IntsAt (W.putObj Dd (.deferred none)) a p ∧ Below w.heap.size w (W.putObj Dd (.deferred none)) ∧ NewA w a := by
  obtain ⟨v, hv, hr⟩ := h.row
  have hbF : Below w.heap.size w (W.putObj Dd (.deferred none)) := ⟨h.bel.os, h.bel.tape, h.bel.output, by simpa using h.bel.size, fun j hj => (World.putObj_heap_other (by omega)).trans (h.bel.block j hj)⟩
  have hs : (W.putObj Dd (.deferred none)).ownsRow (w.heap.size + 3) 3 1 v p.length (inV p) := own_same hr fun g cur t fr hg hc => World.putObj_heap_other fun e => by rw [e, hK] at hc; cases hc
  obtain ⟨a, c, e, hc, hI⟩ := GR.ints (w := w) (wr := W.putObj Dd (.deferred none)) (e := 3) (v := v) (l := p) ⟨own_mono hs (by omega), hbF⟩
  rw [h9] at e hc
  subst e
  exact ⟨a, c, hv, hc, hI, hbF, own_new hs (by omega)⟩
def cW (w : World) (a : Option Addr) (m cap : Nat) (f : Int) : World := ((w.alloc (.cells #[.slice none 0 0] 22)).alloc (.cells #[.slice a m cap] 22)).alloc (.cells #[.int .i64 f] 3)
theorem cW_size (w : World) (a : Option Addr) (m cap : Nat) (f : Int) : (cW w a m cap f).heap.size = w.heap.size + 3 := by unfold cW; simp only [World.size_alloc]
theorem cW_below (w : World) (a : Option Addr) (m cap : Nat) (f : Int) : Below w.heap.size w (cW w a m cap f) := by
  unfold cW
  exact (((Below.refl _ w).alloc (Nat.le_refl _) _).alloc (by simp only [World.size_alloc]; omega) _).alloc (by simp only [World.size_alloc]; omega) _
theorem cW_0 (w : World) (a : Option Addr) (m cap : Nat) (f : Int) : Boxed (cW w a m cap f) w.heap.size 22 (.slice none 0 0) := by
  unfold cW; exact old_at _ (old_at _ (new_at w _ rfl))
theorem cW_1 (w : World) (a : Option Addr) (m cap : Nat) (f : Int) : (cW w a m cap f).cell? ⟨w.heap.size + 1, 0, none⟩ = some (.slice a m cap) := by
  unfold cW; exact cell_of_block (c := #[.slice a m cap]) (old_at _ (new_at _ _ (by simp only [World.size_alloc])))
theorem cW_2 (w : World) (a : Option Addr) (m cap : Nat) (f : Int) : (cW w a m cap f).cell? ⟨w.heap.size + 2, 0, none⟩ = some (.int .i64 f) := by
  unfold cW; exact cell_of_block (c := #[.int .i64 f]) (new_at _ _ (by simp only [World.size_alloc]))
theorem ci_start (w : World) (a : Option Addr) (m cap : Nat) (f : Int) : CI w [] (cW w a m cap f) :=
  ⟨by simp, cW_below _ _ _ _ _, by rw [cW_size]; exact Nat.le_refl _, _, cW_0 _ _ _ _ _, World.ownsRow_nil _ _ _ _⟩
theorem chB_false {id gen : Int} {l : List Int} (h : ¬ (numB id = true ∧ numB gen = true ∧ liveB l = true)) : chB id gen l = false := by
  unfold chB
  cases h1 : numB id <;> cases h2 : numB gen <;> cases h3 : liveB l <;> simp_all
set_option maxRecDepth 100000 in
set_option maxHeartbeats 2000000 in
theorem choose_arg (id gen : Int) (a : Option Addr) (n c : Nat) (l : List Int) (w : World) (hl : l.length = n) (hn : n ≤ 9223372036854775807) (hS : IntsAt w a l) (hno : chB id gen l = false) :
    Calls Try.prog 10 #[.int .i64 id, .int .i64 gen, .slice a n c] w (Chosen id gen l w) := by
  have HX := hide (areLive_any a n c l w hl hn hS)
  have HN := hide hno
  have HE : Hid (chB id gen l = (numB id && numB gen && liveB l)) := rfl
  clear hl hS hno
  by_cases h1 : numB id = true
  · by_cases h2 : numB gen = true
    · have h3 : liveB l = false := by have := HN.out; rw [HE.out, h1, h2] at this; simpa using this
      go_enter Try.func10, Try.ntmps10
      go_wp2_with (first | (go_at_call 20; refine (isNumber_any _ _).mono ?_; rintro e w' ⟨rfl, rfl⟩; first | rw [h1] | rw [h2]) | (go_at_call 21; refine HX.out.mono ?_; rintro e w' ⟨rfl, rfl⟩; rw [h3]))
      go_ret2
      exact chosen_arg HN.out (Below.refl _ _)
    · have h2' : numB gen = false := by simpa using h2
      clear h2
      go_enter Try.func10, Try.ntmps10
      go_wp2_with (first | (go_at_call 20; refine (isNumber_any _ _).mono ?_; rintro e w' ⟨rfl, rfl⟩; first | rw [h1] | rw [h2']))
      go_ret2
      exact chosen_arg HN.out (Below.refl _ _)
  · have h1' : numB id = false := by simpa using h1
    clear h1
    go_enter Try.func10, Try.ntmps10
    go_wp2_with (first | (go_at_call 20; refine (isNumber_any _ _).mono ?_; rintro e w' ⟨rfl, rfl⟩; rw [h1']))
    go_ret2
    exact chosen_arg HN.out (Below.refl _ _)
theorem chB_parts {id gen : Int} {l : List Int} (h : chB id gen l = true) : numB id = true ∧ numB gen = true ∧ liveB l = true := by
  unfold chB at h
  rw [Bool.and_eq_true, Bool.and_eq_true] at h
  exact ⟨h.1.1, h.1.2, h.2⟩
set_option maxRecDepth 100000 in
set_option maxHeartbeats 2000000 in
theorem choose_few (id gen : Int) (a : Option Addr) (n c : Nat) (l : List Int) (w : World) (hl : l.length = n) (hn : n ≤ 9223372036854775807) (hS : IntsAt w a l) (hyes : chB id gen l = true) (h9 : n < 9) :
    Calls Try.prog 10 #[.int .i64 id, .int .i64 gen, .slice a n c] w (Chosen id gen l w) := by
  have HX := hide (areLive_any a n c l w hl hn hS)
  have HN := hide hyes
  have HL := hide hl
  obtain ⟨h1, h2, h3⟩ := chB_parts hyes
  have hd : decide ((n : Int) < 9) = true := by simp; omega
  clear hl hS hyes
  go_enter Try.func10, Try.ntmps10
  go_wp2_with (first | (go_at_call 20; refine (isNumber_any _ _).mono ?_; rintro e w' ⟨rfl, rfl⟩; first | rw [h1] | rw [h2]) | (go_at_call 21; refine HX.out.mono ?_; rintro e w' ⟨rfl, rfl⟩; rw [h3]))
  go_ret2
  exact chosen_few HN.out (by rw [HL.out]; exact h9) (Below.refl _ _)
set_option maxRecDepth 100000 in
set_option maxHeartbeats 2000000 in
theorem choose_ok (i g : Nat) (a : Option Addr) (n c : Nat) (l : List Int) (w : World) (hl : l.length = n) (hn : n ≤ 12) (hi : i ≤ 1099511627776) (hg : g ≤ 1099511627776) (hS : IntsAt w a l) (hyes : chB i g l = true) (h9 : ¬ n < 9) :
    Calls Try.prog 10 #[.int .i64 (i : Int), .int .i64 (g : Int), .slice a n c] w (Chosen i g l w) := by
  have HX := hide (areLive_any a n c l w hl (by omega) hS)
  have HN := hide hyes
  have HL := hide hl
  have HS := hide hS
  obtain ⟨h1, h2, h3⟩ := chB_parts hyes
  have hd : decide ((n : Int) < 9) = false := by simp; omega
  have w1 : IntKind.i64.wrap (5 * (i : Int)) = 5 * (i : Int) := wrap_in (by omega) (by omega)
  have w2 : IntKind.i64.wrap (7 * (g : Int)) = 7 * (g : Int) := wrap_in (by omega) (by omega)
  have w3 : IntKind.i64.wrap (5 * (i : Int) + 7 * (g : Int)) = 5 * (i : Int) + 7 * (g : Int) := wrap_in (by omega) (by omega)
  clear hl hS hyes
  obtain ⟨i0, hi0, hz0, hz1, hz2⟩ := info_parts int_info
  refine (callsIn_wide (n := 5)).1 ?_
  refine callsIn_of_wp_marks Try.func10 rfl trivial ?_ rfl
  simp only [Try.ntmps10, List.size_toArray, List.length_cons, List.length_nil, Nat.reduceAdd, Nat.reduceSub, Array.replicate_succ, Array.replicate_zero, List.push_toArray, List.append_toArray, List.nil_append, List.cons_append]
  gi_wp2_with (first | (refine ⟨trivial, ?_⟩; gi_at_call 20; refine (callsIn_wide.2 (isNumber_any _ _)).mono ?_; rintro e w' ⟨rfl, rfl⟩; first | rw [h1] | rw [h2]) | (refine ⟨trivial, ?_⟩; gi_at_call 21; refine (callsIn_wide.2 HX.out).mono ?_; rintro e w' ⟨rfl, rfl⟩; rw [h3]) | (refine ⟨trivial, ?_⟩; gi_at_call 22; refine (round_in _ _ _ _ _ _).mono ?_; rintro e w' ⟨rfl, rfl⟩))
  have hcast : (5 * (i : Int) + 7 * (g : Int)) = ((5 * i + 7 * g : Nat) : Int) := by omega
  rw [hcast]
  rw [show (((w.alloc (.cells #[.slice none 0 0] 22)).alloc (.cells #[.slice a n c] 22)).alloc (.cells #[.int .i64 ((5 * i + 7 * g : Nat) : Int)] 3)) = cW w a n c ((5 * i + 7 * g : Nat) : Int) from rfl]
  clear w1 w2 w3 hcast
  have hf : 5 * i + 7 * g ≤ 17592186044416 := by omega
  generalize hff : 5 * i + 7 * g = f at *
  have HFF := hide hff
  clear hff
  have hsz := cW_size w a n c (f : Int)
  have hbW := cW_below w a n c (f : Int)
  have HSs : Hid (l = [] ∨ ∃ b o, a = some ⟨b, o, none⟩ ∧ b < w.heap.size + 3 ∧ b ≠ w.heap.size ∧ ∀ (i : Nat) (s : Int), l[i]? = some s → (cW w a n c (f : Int)).cell? ⟨b, o + i, none⟩ = some (.int .i64 s)) := by
    rcases HS.out with h | ⟨b, o, h1, h2, h3⟩
    · exact .inl h
    · exact .inr ⟨b, o, h1, by omega, by omega, fun i s hs => (hbW.cell (p := ⟨b, o + i, none⟩) h2).trans (h3 i s hs)⟩
  refine wpIn_rangeFunc_ownG (n := 5) (F := Fence.wide) rfl (by omega) (gf := 28) (lb := #[.pointer (some ⟨w.heap.size + 1, 0, none⟩), .pointer (some ⟨w.heap.size + 1 + 1, 0, none⟩)]) rfl trivial (enters_of Try.func28 (by kernel_rfl) rfl)
    (round_stops (5 - 1) (by omega) (w.heap.size + 1) (w.heap.size + 1 + 1) (w.heap.size + 3) w.heap.size n c f a l HL.out hn hf (by omega) (by omega) (cW w a n c (f : Int)) (by omega) (cW_1 _ _ _ _ _) (cW_2 _ _ _ _ _) HSs.out)
    Kp.trans (kp_put (by omega)) (Below.refl _ _) (fun _ => rfl) (CI w) (CX w)
    (by have := ci_own w; rw [hsz]; exact this) (by intro cc; have := cx_own w cc; rw [hsz]; exact this)
    (ci_start _ _ _ _ _) ?a1 ?assign ?body ?done ?stop
  case assign =>
    intro l x W K hK
    simp only [encR]
    gi_wp2
    exact hK
  case body =>
    rintro lp pre x W hI hlt
    obtain ⟨v, hv, hr⟩ := hI.row
    have hle := hI.le
    have hWs := hI.size
    have HI := hide hI
    have hc := hv.cell
    have HV := hide hv
    have HR := hide hr
    clear hI hv hr
    by_cases h9' : pre.length = 9
    · obtain ⟨a', c', rfl, hcc, -, -⟩ := GR.form (w := w) ⟨own_mono HR.out (by omega), HI.out.bel⟩
      rw [h9'] at hc
      have H9 := hide h9'
      clear h9'
      gi_wp2
      exact ⟨KeepsFrom.refl _ _, rfl, pre, x, rfl, H9.out, HI.out⟩
    · obtain ⟨a', c', rfl, hcc, -, -⟩ := GR.form (w := w) ⟨own_mono HR.out (by omega), HI.out.bel⟩
      have hq : ((pre.length : Int) == 9) = false := by simp; omega
      have hq2 : decide ((pre.length : Int) = 9) = false := by simp; omega
      gi_wp2_with (first | (gi_at_builtin; refine wpListIn_append_own _ rfl (.tmp 37) (.tmp 39) 22 rfl (w.heap.size + 3) 3 i0 (.int .i64 0) 1 8 Try.underlying22 hi0 hz0 hz1 hz2 rfl (by decide) _ _ _ rfl (HR.out.alloc _) ⟨W.heap.size, 0, none⟩ 1 1 [.int .i64 x] rfl rfl (cell_one_new _ _ _) (by simp [Value.oneCell']) (by unfold maxLen; omega) (by omega) (by rw [World.size_alloc]; omega) ?_; intro v' w1 hown' hgrow hn'; clear hn'; obtain ⟨g', cap', rfl⟩ := ownsRow_succ hown'; obtain ⟨q1, q2, q3, q4⟩ := appd HV.out (by decide) HR.out hown' hgrow; have hc1 := q1.cell; have hf1 := q1.frozen))
      have low : ∀ j, j < w.heap.size + 3 → j ≠ w.heap.size → (w1.setCell ⟨w.heap.size, 0, none⟩ (.slice (some ⟨g', 0, none⟩) (pre.length + 1) cap')).heap[j]? = W.heap[j]? := fun j hj h3 => q4.low HR.out hWs hj h3
      refine ⟨q4.others.from _, ⟨q4.size, low⟩, ⟨by simp; omega, ?_, Nat.le_trans hWs q4.size, _, q2, ?_⟩⟩
      · exact ⟨q4.os.trans HI.out.bel.os, q4.tape.trans HI.out.bel.tape, q4.output.trans HI.out.bel.output, Nat.le_trans HI.out.bel.size q4.size, fun j hj => (low j (by omega) (by omega)).trans (HI.out.bel.block j hj)⟩
      · rw [inV_snoc, List.length_append]
        exact q3
  case done =>
    rintro Dd ys W hD rfl hI hK
    rw [hsz] at hD
    have hnn : n = 9 := by have := hI.le; rw [rotL_len] at this; omega
    obtain ⟨a', c', hb, hc, hIn, hbl, hnw⟩ := ci_end hI (by rw [rotL_len]; exact hnn) hD hK
    have hcell := hb.cell
    have HIn := hide hIn
    have HBl := hide hbl
    have HK := hide hK
    clear hI hK hIn hbl hb
    gi_wp2
    refine ⟨by simp, .inl ⟨_, _, rfl, run_takeDeferred HK.out, ?_⟩⟩
    refine ⟨_, results_tmp2 rfl _ _ _, ?_⟩
    show Chosen i g l w (.returned (.tuple #[.slice a' 9 c', .int .i64 0])) (W.putObj Dd (.deferred none))
    exact chosen_ok HN.out (by rw [HL.out]; exact h9) HBl.out hc (by rw [HFF.out]; have := HIn.out; rw [hnn] at this; exact this) hnw
  case stop =>
    rintro Dd cc pre W hD ⟨k, hk, hpre⟩ ⟨rfl, p, x, rfl, hp9, hI⟩ hK
    rw [hsz] at hD
    rw [rotL_succ] at hpre
    obtain ⟨e1, -⟩ := List.append_inj' hpre rfl
    have hk9 : k = 9 := by have := rotL_len l f k; rw [← e1] at this; omega
    subst hk9
    obtain ⟨a', c', hb, hc, hIn, hbl, hnw⟩ := ci_end hI hp9 hD hK
    rw [e1] at hIn
    have hcell := hb.cell
    have HIn := hide hIn
    have HBl := hide hbl
    have HK := hide hK
    clear hI hK hIn hbl hb
    gi_wp2
    refine ⟨by simp, .inl ⟨_, _, rfl, run_takeDeferred HK.out, ?_⟩⟩
    refine ⟨_, results_tmp2 rfl _ _ _, ?_⟩
    show Chosen i g l w (.returned (.tuple #[.slice a' 9 c', .int .i64 0])) (W.putObj Dd (.deferred none))
    exact chosen_ok HN.out (by rw [HL.out]; exact h9) HBl.out hc (by rw [HFF.out]; exact HIn.out) hnw
theorem choose_any (id gen : Int) (a : Option Addr) (n c : Nat) (l : List Int) (w : World) (hl : l.length = n) (hn : n ≤ 9223372036854775807) (hS : IntsAt w a l) :
    Calls Try.prog 10 #[.int .i64 id, .int .i64 gen, .slice a n c] w (Chosen id gen l w) := by
  by_cases h : chB id gen l = true
  · by_cases h9 : n < 9
    · exact choose_few id gen a n c l w hl hn hS h h9
    · obtain ⟨h1, h2, h3⟩ := chB_parts h
      obtain ⟨i, rfl⟩ := Int.eq_ofNat_of_zero_le (numB_iff.1 h1).1
      obtain ⟨g, rfl⟩ := Int.eq_ofNat_of_zero_le (numB_iff.1 h2).1
      exact choose_ok i g a n c l w hl (by have := live_len h3; omega) (by have := (numB_iff.1 h1).2; omega) (by have := (numB_iff.1 h2).2; omega) hS h h9
  · exact choose_arg id gen a n c l w hl hn hS (by simpa using h)
end Go.Proofs.Ytleknjjfmklkcaa
