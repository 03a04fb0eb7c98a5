/- What place.Instead answers. -/
import Derived.Test.YtleknjjfmklkcaaPlChoose
import Derived.Handy
namespace Go.Proofs.Ytleknjjfmklkcaa
open Go.RowKit Go.Shelf
set_option linter.unusedVariables false
attribute [local go_sem] Oper.semAt_some
def inB (id : Int) (l : List Int) : Bool := numB id && liveB l
def inE (used l : List Int) (id : Int) : Int := if inB id l then (if (insO used l id.toNat).isSome then 0 else 2) else 1
def inD (used l : List Int) (id : Int) : Int := if inB id l then (insO used l id.toNat).getD 0 else 0
/-- what Instead leaves -/
def Inst (used l : List Int) (id : Int) (w : World) (e : Ending) (w' : World) : Prop :=
  e = .returned (.tuple #[.int .i64 (inD used l id), .int .i64 (inE used l id)]) ∧ Below w.heap.size w w'
theorem inst_arg {used l : List Int} {id : Int} {w w' : World} (h : inB id l = false) (hb : Below w.heap.size w w') : Inst used l id w (.returned (.tuple #[.int .i64 0, .int .i64 1])) w' := by
  refine ⟨?_, hb⟩
  have e1 : inD used l id = 0 := by unfold inD; rw [h]; rfl
  have e2 : inE used l id = 1 := by unfold inE; rw [h]; rfl
  rw [e1, e2]
theorem inst_few {used l : List Int} {i : Nat} {w w' : World} (h : inB i l = true) (hn : insO used l i = none) (hb : Below w.heap.size w w') : Inst used l i w (.returned (.tuple #[.int .i64 0, .int .i64 2])) w' := by
  refine ⟨?_, hb⟩
  have e1 : inD used l i = 0 := by unfold inD; rw [h, if_pos rfl, Int.toNat_natCast, hn]; rfl
  have e2 : inE used l i = 2 := by unfold inE; rw [h, if_pos rfl, Int.toNat_natCast, hn]; rfl
  rw [e1, e2]
theorem inst_ok {used l : List Int} {i : Nat} {d : Int} {w w' : World} (h : inB i l = true) (hn : insO used l i = some d) (hb : Below w.heap.size w w') : Inst used l i w (.returned (.tuple #[.int .i64 d, .int .i64 0])) w' := by
  refine ⟨?_, hb⟩
  have e1 : inD used l i = d := by unfold inD; rw [h, if_pos rfl, Int.toNat_natCast, hn]; rfl
  have e2 : inE used l i = 0 := by unfold inE; rw [h, if_pos rfl, Int.toNat_natCast, hn]; rfl
  rw [e1, e2]
theorem res_ins (tmps : Array Value) (w : World) (g0 g1 : Nat) (d E : Int) (h0 : tmps.getD 6 undef = .pointer (some ⟨g0, 0, none⟩)) (h1 : tmps.getD 7 undef = .pointer (some ⟨g1, 0, none⟩)) (c0 : w.cell? ⟨g0, 0, none⟩ = some (.int .i64 d)) (c1 : w.cell? ⟨g1, 0, none⟩ = some (.int .i64 E)) : (results Try.f12 tmps).run Try.prog w = .ok (.tuple #[.int .i64 d, .int .i64 E]) w := by
  have h0' : tmps[6]?.getD undef = .pointer (some ⟨g0, 0, none⟩) := by simpa using h0
  have h1' : tmps[7]?.getD undef = .pointer (some ⟨g1, 0, none⟩) := by simpa using h1
  simp [results, go_sem, h0', h1', loadVar, isAgg, run_underlying Try.underlying3, run_underlying Try.underlying26, c0, c1]
def iW (w : World) (u : Value) (E : Int := 0) : World := ((w.alloc (.cells #[u] 22)).alloc (.cells #[.int .i64 0] 3)).alloc (.cells #[.int .i64 E] 26)
theorem iW_size (w : World) (u : Value) (E : Int) : (iW w u E).heap.size = w.heap.size + 3 := by unfold iW; simp only [World.size_alloc]
theorem iW_below (w : World) (u : Value) (E : Int) : Below w.heap.size w (iW w u E) := by
  unfold iW
  exact (((Below.refl _ w).alloc (Nat.le_refl _) _).alloc (by simp only [World.size_alloc]; omega) _).alloc (by simp only [World.size_alloc]; omega) _
theorem iW_0 (w : World) (u : Value) (E : Int) : Boxed (iW w u E) w.heap.size 22 u := by unfold iW; exact old_at _ (old_at _ (new_at w _ rfl))
theorem iW_1 (w : World) (u : Value) (E : Int) : Boxed (iW w u E) (w.heap.size + 1) 3 (.int .i64 0) := by unfold iW; exact old_at _ (new_at _ _ (by simp only [World.size_alloc]))
theorem iW_2 (w : World) (u : Value) (E : Int) : Boxed (iW w u E) (w.heap.size + 2) 26 (.int .i64 E) := by unfold iW; exact new_at _ _ (by simp only [World.size_alloc])
/-- the invariant of the rounds: nothing is changed, and all were used -/
structure II (w : World) (used : List Int) (u : Value) (pre : List Int) (W : World) : Prop where
  all : ∀ x ∈ pre, hasB used x = true
  bel : Below w.heap.size w W
  size : w.heap.size + 5 ≤ W.heap.size
  b0 : Boxed W w.heap.size 22 u
  b1 : Boxed W (w.heap.size + 1) 3 (.int .i64 0)
  b2 : Boxed W (w.heap.size + 2) 26 (.int .i64 0)
theorem ii_own (w : World) (used : List Int) (u : Value) : OwnFrom (w.heap.size + 5) (II w used u) := fun pre W W' row h hg hr => by
  have hk : ∀ k, k < w.heap.size + 5 → W'.heap[k]? = W.heap[k]? := fun k hk => hg.block k (by have := h.size; omega) fun e => by have := (hr k e.symm).1; omega
  exact ⟨h.all, below_grown h.bel hg (fun r e => (hr r e).1) (by omega) h.size, Nat.le_trans h.size hg.size, (hk _ (by omega)).trans h.b0, (hk _ (by omega)).trans h.b1, (hk _ (by omega)).trans h.b2⟩
/-- behind the round that was left -/
def IX (w : World) (used : List Int) (c : Code) (pre : List Int) (W : World) : Prop := c = .ret ∧ (∃ p x, pre = p ++ [x] ∧ (∀ y ∈ p, hasB used y = true) ∧ hasB used x = false ∧ Boxed W (w.heap.size + 1) 3 (.int .i64 x)) ∧ Boxed W (w.heap.size + 2) 26 (.int .i64 0) ∧ Below w.heap.size w W ∧ w.heap.size + 5 ≤ W.heap.size
theorem ix_own (w : World) (used : List Int) (c : Code) : OwnFrom (w.heap.size + 5) (IX w used c) := fun pre W W' row h hg hr => by
  obtain ⟨hc, ⟨p, x, h1, h2, h3, h4⟩, h5, hb, hz⟩ := h
  have hk : ∀ k, k < w.heap.size + 5 → W'.heap[k]? = W.heap[k]? := fun k hk => hg.block k (by omega) fun e => by have := (hr k e.symm).1; omega
  exact ⟨hc, ⟨p, x, h1, h2, h3, (hk _ (by omega)).trans h4⟩, (hk _ (by omega)).trans h5, below_grown hb hg (fun r e => (hr r e).1) (by omega) hz, Nat.le_trans hz hg.size⟩
theorem inB_parts {id : Int} {l : List Int} (h : inB id l = true) : numB id = true ∧ liveB l = true := by
  unfold inB at h
  rw [Bool.and_eq_true] at h
  exact h
theorem set_box {W : World} {B : Nat} {t : TypeId} {v : Value} (h : Boxed W B t v) (x : Value) : Boxed (W.setCell ⟨B, 0, none⟩ x) B t x := h.set x
set_option maxRecDepth 100000 in
set_option maxHeartbeats 2000000 in
theorem instead_arg (used l : List Int) (id : Int) (au a : Option Addr) (nu cu n c : Nat) (w : World) (hl : l.length = n) (hn : n ≤ 9223372036854775807) (hS : IntsAt w a l) (hno : inB id l = false) :
    Calls Try.prog 12 #[.slice au nu cu, .slice a n c, .int .i64 id] w (Inst used l id w) := by
  have HX := hide (areLive_any a n c l _ hl hn (hS.below (iW_below w (.slice au nu cu) 0)))
  have HN := hide hno
  have HE : Hid (inB id l = (numB id && liveB l)) := rfl
  have HW := hide (iW_below w (.slice au nu cu) 1)
  have hE1 := hide (iW_1 w (.slice au nu cu) 1).cell
  have hE2 := hide (iW_2 w (.slice au nu cu) 1).cell
  clear hl hS hno
  unfold iW at HX HW hE1 hE2
  by_cases h1 : numB id = true
  · have h3 : liveB l = false := by have := HN.out; rw [HE.out, h1] at this; simpa using this
    go_enter Try.func12, Try.ntmps12
    go_wp2_with (first | (go_at_call 20; refine (isNumber_any _ _).mono ?_; rintro e w' ⟨rfl, rfl⟩; rw [h1]) | (go_at_call 21; refine HX.out.mono ?_; rintro e w' ⟨rfl, rfl⟩; rw [h3]))
    refine bodyPost_ret (res_ins _ _ (w.heap.size + 1) (w.heap.size + 2) _ _ rfl rfl hE1.out hE2.out) rfl ?_
    exact inst_arg HN.out HW.out
  · have h1' : numB id = false := by simpa using h1
    clear h1
    go_enter Try.func12, Try.ntmps12
    go_wp2_with (first | (go_at_call 20; refine (isNumber_any _ _).mono ?_; rintro e w' ⟨rfl, rfl⟩; rw [h1']))
    refine bodyPost_ret (res_ins _ _ (w.heap.size + 1) (w.heap.size + 2) _ _ rfl rfl hE1.out hE2.out) rfl ?_
    exact inst_arg HN.out HW.out
def jW (w : World) (u : Value) (a : Option Addr) (m cap : Nat) (f : Int) : World := ((iW w u).alloc (.cells #[.slice a m cap] 22)).alloc (.cells #[.int .i64 f] 3)
theorem jW_size (w : World) (u : Value) (a : Option Addr) (m cap : Nat) (f : Int) : (jW w u a m cap f).heap.size = w.heap.size + 5 := by unfold jW; simp only [World.size_alloc, iW_size]
theorem jW_below (w : World) (u : Value) (a : Option Addr) (m cap : Nat) (f : Int) : Below w.heap.size w (jW w u a m cap f) := by
  unfold jW
  exact ((iW_below w u 0).alloc (by rw [iW_size]; omega) _).alloc (by rw [World.size_alloc, iW_size]; omega) _
theorem jW_3 (w : World) (u : Value) (a : Option Addr) (m cap : Nat) (f : Int) : (jW w u a m cap f).cell? ⟨w.heap.size + 3, 0, none⟩ = some (.slice a m cap) := by
  unfold jW; exact cell_of_block (c := #[.slice a m cap]) (old_at _ (new_at _ _ (by rw [iW_size])))
theorem jW_4 (w : World) (u : Value) (a : Option Addr) (m cap : Nat) (f : Int) : (jW w u a m cap f).cell? ⟨w.heap.size + 4, 0, none⟩ = some (.int .i64 f) := by
  unfold jW; exact cell_of_block (c := #[.int .i64 f]) (new_at _ _ (by rw [World.size_alloc, iW_size]))
theorem ii_start (w : World) (used : List Int) (u : Value) (a : Option Addr) (m cap : Nat) (f : Int) : II w used u [] (jW w u a m cap f) :=
  ⟨fun x hx => by simp at hx, jW_below _ _ _ _ _ _, by rw [jW_size]; exact Nat.le_refl _, by unfold jW; exact old_at _ (old_at _ (iW_0 w u 0)), by unfold jW; exact old_at _ (old_at _ (iW_1 w u 0)), by unfold jW; exact old_at _ (old_at _ (iW_2 w u 0))⟩
theorem rot_all {used l : List Int} {f k : Nat} (h : ∀ x ∈ rotL l f k, hasB used x = true) : ∀ i, i < k → hasB used (rot l f i) = true := fun i hi => h _ (List.mem_map.2 ⟨i, List.mem_range.2 hi, rfl⟩)
set_option maxRecDepth 100000 in
set_option maxHeartbeats 2000000 in
theorem instead_ok (used l : List Int) (i : Nat) (au a : Option Addr) (nu cu n c : Nat) (w : World) (hu : used.length = nu) (hnu : nu ≤ 9223372036854775807) (hU : IntsAt w au used) (hl : l.length = n) (hn : n ≤ 12) (hi : i ≤ 1099511627776) (hS : IntsAt w a l) (hyes : inB i l = true) :
    Calls Try.prog 12 #[.slice au nu cu, .slice a n c, .int .i64 (i : Int)] w (Inst used l i w) := by
  have HX := hide (areLive_any a n c l _ hl (by omega) (hS.below (iW_below w (.slice au nu cu) 0)))
  have HN := hide hyes
  have HL := hide hl
  have HS := hide hS
  have HU := hide hU
  have HUL := hide hu
  obtain ⟨h1, h3⟩ := inB_parts hyes
  clear hl hS hyes hU hu
  unfold iW at HX
  refine (callsIn_wide (n := 5)).1 ?_
  refine callsIn_of_wp_marks Try.func12 rfl trivial ?_ rfl
  simp only [Try.ntmps12, List.size_toArray, List.length_cons, List.length_nil, Nat.reduceAdd, Nat.reduceSub, Array.replicate_succ, Array.replicate_zero, List.push_toArray, List.append_toArray, List.nil_append, List.cons_append]
  gi_wp2_with (first | (refine ⟨trivial, ?_⟩; gi_at_call 20; refine (callsIn_wide.2 (isNumber_any _ _)).mono ?_; rintro e w' ⟨rfl, rfl⟩; rw [h1]) | (refine ⟨trivial, ?_⟩; gi_at_call 21; refine (callsIn_wide.2 HX.out).mono ?_; rintro e w' ⟨rfl, rfl⟩; rw [h3]) | (refine ⟨trivial, ?_⟩; gi_at_call 22; refine (round_in _ _ _ _ _ _).mono ?_; rintro e w' ⟨rfl, rfl⟩))
  rw [show (((((w.alloc (.cells #[.slice au nu cu] 22)).alloc (.cells #[.int .i64 0] 3)).alloc (.cells #[.int .i64 0] 26)).alloc (.cells #[.slice a n c] 22)).alloc (.cells #[.int .i64 (i : Int)] 3)) = jW w (.slice au nu cu) a n c (i : Int) from rfl]
  have hsz := jW_size w (.slice au nu cu) a n c (i : Int)
  have hbW := jW_below w (.slice au nu cu) a n c (i : Int)
  have HSs : Hid (l = [] ∨ ∃ b o, a = some ⟨b, o, none⟩ ∧ b < w.heap.size + 5 ∧ b ≠ w.heap.size ∧ ∀ (j : Nat) (s : Int), l[j]? = some s → (jW w (.slice au nu cu) a n c (i : Int)).cell? ⟨b, o + j, none⟩ = some (.int .i64 s)) := by
    rcases HS.out with h | ⟨b, o, h1, h2, h3⟩
    · exact .inl h
    · exact .inr ⟨b, o, h1, by omega, by omega, fun i s hs => (hbW.cell (p := ⟨b, o + i, none⟩) h2).trans (h3 i s hs)⟩
  refine wpIn_rangeFunc_ownG (n := 5) (F := Fence.wide) rfl (by omega) (gf := 28) (lb := #[.pointer (some ⟨w.heap.size + 1 + 1 + 1, 0, none⟩), .pointer (some ⟨w.heap.size + 1 + 1 + 1 + 1, 0, none⟩)]) rfl trivial (enters_of Try.func28 (by kernel_rfl) rfl)
    (round_stops (5 - 1) (by omega) (w.heap.size + 1 + 1 + 1) (w.heap.size + 1 + 1 + 1 + 1) (w.heap.size + 5) w.heap.size n c i a l HL.out hn (by omega) (by omega) (by omega) (jW w (.slice au nu cu) a n c (i : Int)) (by omega) (jW_3 _ _ _ _ _ _) (jW_4 _ _ _ _ _ _) HSs.out)
    Kp.trans (kp_put (by omega)) (Below.refl _ _) (fun _ => rfl) (II w used (.slice au nu cu)) (IX w used)
    (by have := ii_own w used (.slice au nu cu); rw [hsz]; exact this) (by intro cc; have := ix_own w used cc; rw [hsz]; exact this)
    (ii_start _ _ _ _ _ _ _) ?a1 ?assign ?body ?done ?stop
  case assign =>
    intro l x W K hK
    simp only [encR]
    gi_wp2
    exact hK
  case body =>
    rintro lp pre x W hI hlt
    have HI := hide hI
    have hWs := hI.size
    have c0 := hI.b0.cell
    have c1 := hI.b1.cell
    have c2 := hI.b2.cell
    have f1 := hI.b1.frozen
    have f2 := hI.b2.frozen
    have HC := hide (contains_any au nu cu used x W HUL.out hnu (HU.out.below HI.out.bel))
    clear hI
    by_cases hh : hasB used x = true
    · have HH := hide hh
      gi_wp2_with (first | (refine ⟨trivial, ?_⟩; gi_at_call 25; refine (callsIn_wide.2 HC.out).mono ?_; rintro e w' ⟨rfl, rfl⟩; rw [hh]))
      refine ⟨KeepsFrom.refl _ _, Kp.refl _ _ _, ⟨fun y hy => ?_, HI.out.bel, hWs, HI.out.b0, HI.out.b1, HI.out.b2⟩⟩
      rcases List.mem_append.1 hy with q | q
      · exact HI.out.all y q
      · rw [List.mem_singleton.1 q]; exact HH.out
    · have hh' : hasB used x = false := by simpa using hh
      have HH := hide hh'
      clear hh
      gi_wp2_with (first | (refine ⟨trivial, ?_⟩; gi_at_call 25; refine (callsIn_wide.2 HC.out).mono ?_; rintro e w' ⟨rfl, rfl⟩; rw [hh']))
      have hI := HI.out
      refine ⟨?_, rfl, ⟨pre, x, rfl, hI.all, HH.out, (hI.b1.set _).other (by omega) _⟩, (hI.b2.other (by omega) _).set _, (hI.bel.setCell (p := ⟨w.heap.size + 1, 0, none⟩) (by show _ ≤ w.heap.size + 1; omega) _).setCell (p := ⟨w.heap.size + 1 + 1, 0, none⟩) (by show _ ≤ w.heap.size + 1 + 1; omega) _, by simp only [World.size_setCell]; omega⟩
      exact (keeps_set _ W (by omega) _).trans (keeps_set _ _ (by omega) _)
  case done =>
    rintro Dd ys W hD rfl hI hK
    rw [hsz] at hD
    have HI := hide hI
    have c1 := hI.b1.cell
    have c2 := hI.b2.cell
    have f1 := hI.b1.frozen
    have f2 := hI.b2.frozen
    have HNone : Hid (insO used l i = none) := ins_none (rot_all (by rw [HL.out]; exact hI.all))
    have hd1 : Boxed ((W.setCell ⟨w.heap.size + 1, 0, none⟩ (.int .i64 0)).setCell ⟨w.heap.size + 1 + 1, 0, none⟩ (.int .i64 2)) (w.heap.size + 1) 3 (.int .i64 0) := (hI.b1.set _).other (by omega) _
    have hd2 : Boxed ((W.setCell ⟨w.heap.size + 1, 0, none⟩ (.int .i64 0)).setCell ⟨w.heap.size + 1 + 1, 0, none⟩ (.int .i64 2)) (w.heap.size + 2) 26 (.int .i64 2) := (hI.b2.other (by omega) _).set _
    have hbb : Below w.heap.size w ((W.setCell ⟨w.heap.size + 1, 0, none⟩ (.int .i64 0)).setCell ⟨w.heap.size + 1 + 1, 0, none⟩ (.int .i64 2)) := (hI.bel.setCell (p := ⟨w.heap.size + 1, 0, none⟩) (by show _ ≤ w.heap.size + 1; omega) _).setCell (p := ⟨w.heap.size + 1 + 1, 0, none⟩) (by show _ ≤ w.heap.size + 1 + 1; omega) _
    have hKK : ((W.setCell ⟨w.heap.size + 1, 0, none⟩ (.int .i64 0)).setCell ⟨w.heap.size + 1 + 1, 0, none⟩ (.int .i64 2)).heap[Dd]? = some (.deferred (some [])) := (Below.heap_setCell _ _ _ _ (by show Dd ≠ w.heap.size + 1 + 1; omega)).trans ((Below.heap_setCell _ _ _ _ (by show Dd ≠ w.heap.size + 1; omega)).trans hK)
    have HD1 := hide hd1
    have HD2 := hide hd2
    have HBB := hide hbb
    have HKK := hide hKK
    clear hd1 hd2 hbb hKK hI hK
    gi_wp2
    refine ⟨by simp, .inl ⟨_, _, rfl, run_takeDeferred HKK.out, ?_⟩⟩
    refine ⟨_, res_ins _ _ (w.heap.size + 1) (w.heap.size + 2) _ _ rfl rfl (cell_put HD1.out (by omega)) (cell_put HD2.out (by omega)), ?_⟩
    exact inst_few HN.out HNone.out ⟨HBB.out.os, HBB.out.tape, HBB.out.output, by simpa using HBB.out.size, fun k hk => (World.putObj_heap_other (by omega)).trans (HBB.out.block k hk)⟩
  case stop =>
    rintro Dd cc pre W hD ⟨k, hk, hpre⟩ ⟨rfl, ⟨p, x, rfl, h1, h2, h3⟩, h4, h5, h6⟩ hK
    rw [hsz] at hD
    rw [rotL_succ] at hpre
    obtain ⟨e1, e2⟩ := List.append_inj' hpre rfl
    have hx : x = rot l i k := List.cons.inj e2 |>.1
    subst e1
    have HSome : Hid (insO used l i = some x) := by unfold Hid; rw [hx]; exact ins_some (by rw [HL.out]; exact hk) (rot_all h1) (by rw [← hx]; exact h2)
    gi_wp2
    refine ⟨by simp, .inl ⟨_, _, rfl, run_takeDeferred hK, ?_⟩⟩
    refine ⟨_, res_ins _ _ (w.heap.size + 1) (w.heap.size + 2) _ _ rfl rfl (cell_put h3 (by omega)) (cell_put h4 (by omega)), ?_⟩
    exact inst_ok HN.out HSome.out ⟨h5.os, h5.tape, h5.output, by simpa using h5.size, fun k hk => (World.putObj_heap_other (by omega)).trans (h5.block k hk)⟩
theorem instead_any (used l : List Int) (id : Int) (au a : Option Addr) (nu cu n c : Nat) (w : World) (hu : used.length = nu) (hnu : nu ≤ 9223372036854775807) (hU : IntsAt w au used) (hl : l.length = n) (hn : n ≤ 9223372036854775807) (hS : IntsAt w a l) :
    Calls Try.prog 12 #[.slice au nu cu, .slice a n c, .int .i64 id] w (Inst used l id w) := by
  by_cases h : inB id l = true
  · obtain ⟨h1, h3⟩ := inB_parts h
    obtain ⟨i, rfl⟩ := Int.eq_ofNat_of_zero_le (numB_iff.1 h1).1
    exact instead_ok used l i au a nu cu n c w hu hnu hU hl (by have := live_len h3; omega) (by have := (numB_iff.1 h1).2; omega) hS h
  · exact instead_arg used l id au a nu cu n c w hl hn hS (by simpa using h)
end Go.Proofs.Ytleknjjfmklkcaa
