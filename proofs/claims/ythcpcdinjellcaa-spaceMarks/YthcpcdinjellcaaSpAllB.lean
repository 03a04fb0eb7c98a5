/- What a space's All answers, whole. -/
import Derived.Test.YthcpcdinjellcaaSpAll
namespace Go.Proofs.Ythcpcdinjellcaa
open Go.RowKit
set_option linter.unusedVariables false
/-- the invariant of the rounds -/
structure AllI (w : World) (b : Nat) (B : Nat → Bool) (D : List Int) (k : Nat) (v : Value) (W : World) : Prop where
  sp : SpAt W b (allB B D k)
  bu : Bu b w W
  size : w.heap.size + 3 ≤ W.heap.size
  s0 : Boxed W w.heap.size 24 (.pointer (some ⟨b, 0, none⟩))
  s1 : Boxed W (w.heap.size + 1) 27 v
  s2 : Boxed W (w.heap.size + 2) 4 (.bool false)
  row : W.ownsRow (w.heap.size + 3) 31 2 v k (lcV (allLs B D k))
theorem own_bu {b B size n : Nat} {e : TypeId} {v : Value} {xs : List Value} {w w' : World} (h : w.ownsRow B e size v n xs) (hb : Bu b w w') (hlt : b < B) : w'.ownsRow B e size v n xs := by
  obtain ⟨hl, ⟨rfl, rfl⟩ | ⟨g, cap, cur, rfl, hB, hg, hc, hm, hs, ht⟩⟩ := h
  · exact ⟨hl, .inl ⟨rfl, rfl⟩⟩
  · exact ⟨hl, .inr ⟨g, cap, cur, rfl, hB, (hb.blk g (lt_of_block hg) (by omega)).trans hg, hc, hm, hs, ht⟩⟩
theorem AllI.took {w W W' : World} {b k : Nat} {B : Nat → Bool} {D : List Int} {v : Value} (h : AllI w b B D k v W) (hb : b < w.heap.size) (hs : SpAt W' b (allB B D (k + 1))) (hu : Bu b W W') : SpAt W' b (allB B D (k + 1)) ∧ Bu b w W' ∧ w.heap.size + 3 ≤ W'.heap.size ∧ Boxed W' w.heap.size 24 (.pointer (some ⟨b, 0, none⟩)) ∧ Boxed W' (w.heap.size + 1) 27 v ∧ Boxed W' (w.heap.size + 2) 4 (.bool false) ∧ W'.ownsRow (w.heap.size + 3) 31 2 v k (lcV (allLs B D k)) :=
  have hz := h.size
  ⟨hs, h.bu.trans hu, Nat.le_trans h.size hu.size, (hu.blk _ (by omega) (by omega)).trans h.s0, (hu.blk _ (by omega) (by omega)).trans h.s1, (hu.blk _ (by omega) (by omega)).trans h.s2, own_bu h.row hu (by omega)⟩
def aW3 (w : World) (b : Nat) : World := ((w.alloc (.cells #[.pointer (some ⟨b, 0, none⟩)] 24)).alloc (.cells #[.slice none 0 0] 27)).alloc (.cells #[.bool false] 4)
theorem allI_start (w : World) (b : Nat) (B : Nat → Bool) (D : List Int) (h : SpAt w b B) : AllI w b B D 0 (.slice none 0 0) (aW3 w b) := by
  have hbl : Below w.heap.size w (aW3 w b) := by
    unfold aW3
    exact (((Below.refl _ w).alloc (Nat.le_refl _) _).alloc (by simp only [World.size_alloc]; omega) _).alloc (by simp only [World.size_alloc]; omega) _
  refine ⟨h.below hbl, Bu.of_below hbl, ?_, ?_, ?_, ?_, World.ownsRow_nil _ _ _ _⟩
  · unfold aW3; simp only [World.size_alloc]; omega
  · unfold aW3; exact old_at _ (old_at _ (new_at w _ rfl))
  · unfold aW3; exact old_at _ (new_at _ _ (by simp only [World.size_alloc]))
  · unfold aW3; exact new_at _ _ (by simp only [World.size_alloc])
/-- an address, if it is one, is of a block that was not there -/
def NewA (w : World) (a : Option Addr) : Prop := ∀ p, a = some p → w.heap.size ≤ p.block
/-- what All leaves -/
def AllP (b : Nat) (B : Nat → Bool) (D : List Int) (w : World) (e : Ending) (w' : World) : Prop :=
  Bu b w w' ∧ ((∃ k, k < D.length ∧ (∀ i, i < k → allE B D i = 0) ∧ allE B D k ≠ 0 ∧ e = .returned (.tuple #[.slice none 0 0, .int .i64 (allE B D k)]) ∧ SpAt w' b B) ∨
    ((∀ i, i < D.length → allE B D i = 0) ∧ ∃ a c, e = .returned (.tuple #[.slice a D.length c, .int .i64 0]) ∧ LocsAt w' a (allLs B D D.length) ∧ NewA w a ∧ SpAt w' b (allB B D D.length)))
theorem own_locsB {W : World} {B0 b n : Nat} {l : List (Int × Int)} {a : Option Addr} {c : Nat} (h : W.ownsRow B0 31 2 (.slice a n c) n (lcV l)) (hl : l.length = n) (hb : b < B0) : LocsB b W a l ∧ ∀ p, a = some p → B0 ≤ p.block := by
  obtain ⟨hl2, ⟨h1, h2⟩ | ⟨g, cap, cur, h1, hB, hg, hc, hm, hs, ht⟩⟩ := h
  · injection h1 with h1
    exact ⟨⟨.inl (List.length_eq_zero_iff.1 (by omega)), fun p hp => by rw [h1] at hp; cases hp⟩, fun p hp => by rw [h1] at hp; cases hp⟩
  · injection h1 with h1 h3 h4
    have key : ∀ j v, (lcV l)[j]? = some v → W.cell? ⟨g, 0 + j, none⟩ = some v := fun j v hv => by
      rw [Nat.zero_add, cell_of_block hg]
      rw [← ht, List.getElem?_take] at hv
      split at hv
      · rw [← hv, Array.getElem?_toList]
      · cases hv
    refine ⟨⟨.inr ⟨g, 0, h1, lt_of_block hg, fun i y hy => ⟨key _ _ (lcV_at hy).1, by rw [Nat.add_assoc]; exact key _ _ (lcV_at hy).2⟩⟩, fun p hp => ?_⟩, fun p hp => ?_⟩
    · rw [h1] at hp; cases hp; show g ≠ b; omega
    · rw [h1] at hp; cases hp; exact hB
theorem own_form {W : World} {B0 z n : Nat} {e : TypeId} {v : Value} {xs : List Value} (h : W.ownsRow B0 e z v n xs) : ∃ a c, v = .slice a n c ∧ n ≤ c ∧ c ≤ 9223372036854775807 := by
  obtain ⟨hl, ⟨rfl, h2⟩ | ⟨g, cap, cur, rfl, hB, hg, hc, hm, hs, ht⟩⟩ := h
  · rw [h2]; exact ⟨none, 0, rfl, Nat.le_refl _, by omega⟩
  · unfold maxLen at hm; exact ⟨_, cap, rfl, hc, hm⟩
set_option maxRecDepth 100000 in
set_option maxHeartbeats 4000000 in
theorem all_any (b : Nat) (a : Option Addr) (n c : Nat) (D : List Int) (B : Nat → Bool) (w : World) (h : SpAt w b B) (hl : D.length = n) (hn : n ≤ 1000) (hD : IntsAt w a D) (hDb : D ≠ [] → ∀ p, a = some p → p.block ≠ b) :
    Calls Try.prog 19 #[.pointer (some ⟨b, 0, none⟩), .slice a n c] w (AllP b B D w) := by
  have HS := hide h
  have HL := hide hl
  have HD := hide hD
  have HDB := hide hDb
  have hb := h.lt
  have HI0 := hide (allI_start w b B D h)
  obtain ⟨i0, hi0, hz0, hz1, hz2⟩ := info_parts loc_info
  have HI := hide hi0
  have HZ0 := hide hz0
  have HZ1 := hide hz1
  have HZ2 := hide hz2
  have hmf : ∀ (fn : Fn) (first cap : Array Value) (w : World), (Instr.makeFunc fn first cap).run Try.prog w = .ok (.func fn first cap) w := fun _ _ _ _ => rfl
  clear h hl hD hDb hi0 hz0 hz1 hz2
  unfold aW3 at HI0
  go_enter_defers Try.func19, Try.ntmps19
  go_wp2_with fail
  go_loopw [17] (fun y wr => ∃ (k : Nat) (v : Value), k ≤ n ∧ y = .int .i64 k ∧ (∀ i, i < k → allE B D i = 0) ∧ AllI w b B D k v wr) (fun y _ => n - (intOf y).toNat)
  case atStart => exact ⟨0, _, by omega, rfl, fun i hi => by omega, HI0.out⟩
  case round =>
    obtain ⟨k, v, hk, rfl, hok, hI⟩ := hrel
    have HOK := hide hok
    have HII := hide hI
    obtain ⟨av, cv, rfl, hcv, hcm⟩ := own_form hI.row
    have hsz := hI.size
    have d0 := hI.s0.cell
    have d1 := hI.s1.cell
    have d2 := hI.s2.cell
    have f2 := hI.s2.frozen
    clear hok hI HI0
    by_cases hlt : k < n
    · have hdk : decide ((k : Int) < (n : Int)) = true := by simp; omega
      have hki : (k : Int) < (n : Int) := by omega
      rcases HD.out with q | ⟨bl, o, rfl, hbl, hc⟩
      · have := HL.out; rw [q] at this; simp at this; omega
      have hbne := HDB.out (fun e => by have := HL.out; rw [e] at this; simp at this; omega) _ rfl
      simp only at hbne
      have hx : D[k]? = some (D.getD k 0) := by rw [List.getD_eq_getElem?_getD, List.getElem?_eq_getElem (by have := HL.out; omega)]; rfl
      have ck := (HII.out.bu.cell (p := ⟨bl, o + k, none⟩) hbl hbne).trans (hc k _ hx)
      have HTK := hide (take_any b (D.getD k 0) (allB B D k) wr HII.out.sp)
      have HXX : Hid (allX B D k = (D.getD k 0, tkN (allB B D k) (D.getD k 0))) := rfl
      have HEE : Hid (allE B D k = tkE (allB B D k) (D.getD k 0)) := rfl
      have HBB : Hid (tkB (allB B D k) (D.getD k 0) = allB B D (k + 1)) := rfl
      clear hc hx
      rw [HBB.out] at HTK
      generalize D.getD k 0 = d at *
      generalize tkN (allB B D k) d = N at *
      by_cases hE : tkE (allB B D k) d = 0
      · rw [hE] at HTK HEE
        go_wp2_with fail
        refine HTK.out.mono ?_
        rintro e w1 ⟨rfl, hs1, hu1⟩
        obtain ⟨t1, t2, t3, t4, t5, t6, t7⟩ := HII.out.took hb hs1 hu1
        have HT1 := hide t1
        have HT2 := hide t2
        have HT4 := hide t4
        have HT5 := hide t5
        have HT6 := hide t6
        have HT7 := hide t7
        have d1' := t5.cell
        clear hs1 hu1 t1 t2 t4 t5 t6 t7 d0 d1 d2 f2
        go_wp2_with (first | (at_builtin; refine wpList_append_own _ rfl (.tmp 30) (.tmp 34) 27 rfl (w.heap.size + 3) 31 i0 (.agg #[.int .i64 0, .int .i64 0]) 2 16 Try.underlying27 HI.out HZ0.out HZ1.out HZ2.out rfl (by decide) _ _ _ rfl (HT7.out.alloc _) ⟨w1.heap.size, 0, none⟩ 1 1 [.int .i64 d, .int .i64 N] rfl rfl (cell_two_new _ _ _ _) (by simp [Value.oneCell']) (by unfold maxLen; omega) (by omega) (by rw [World.size_alloc]; omega) ?_; intro v' w3 hown hgr hnil; clear hnil; obtain ⟨g', cap', rfl⟩ := ownsRow_succ hown; obtain ⟨q1, q2, q3, q4⟩ := appd HT5.out (by decide) HT7.out hown hgr; have hc1 := q1.cell; have hf1 := q1.frozen))
        have low : ∀ j, j < w.heap.size + 3 → j ≠ w.heap.size + 1 → (w3.setCell ⟨w.heap.size + 1, 0, none⟩ (.slice (some ⟨g', 0, none⟩) (k + 1) cap')).heap[j]? = w1.heap[j]? := fun j hj h3 => q4.low HT7.out t3 hj h3
        have HN : Hid (AllI w b B D (k + 1) (.slice (some ⟨g', 0, none⟩) (k + 1) cap') (w3.setCell ⟨w.heap.size + 1, 0, none⟩ (.slice (some ⟨g', 0, none⟩) (k + 1) cap'))) := by
          refine ⟨?_, ?_, Nat.le_trans t3 q4.size, (low _ (by omega) (by omega)).trans HT4.out, q2, (low _ (by omega) (by omega)).trans HT6.out, ?_⟩
          · exact (low b (by omega) (by omega)).trans HT1.out
          · exact ⟨q4.os.trans HT2.out.os, q4.tape.trans HT2.out.tape, q4.output.trans HT2.out.output, Nat.le_trans HT2.out.size q4.size, fun j hj hn => (low j (by omega) (by omega)).trans (HT2.out.blk j hj hn)⟩
          · rw [allLs_succ, lcV_snoc, HXX.out]; exact q3
        have HOK2 : Hid (∀ i, i < k + 1 → allE B D i = 0) := fun i hi => by
          by_cases q : i = k
          · subst q; exact HEE.out
          · exact HOK.out i (by omega)
        clear q1 q2 q3 q4 hc1 hf1 hown hgr low
        all_goals first | exact ⟨⟨k + 1, _, by omega, by go_num, HOK2.out, HN.out⟩, by simp [intOf]; omega⟩ | (go_roundw; (case rel => exact ⟨k + 1, _, by omega, by go_num, HOK2.out, HN.out⟩); (case measure => simp [intOf]; omega))
      · have HNE := hide hE
        have hq1 : (tkE (allB B D k) d == 0) = false := by simpa using hE
        have hq2 : (tkE (allB B D k) d != 0) = true := by simpa using hE
        have HSAME : Hid (allB B D (k + 1) = allB B D k) := by unfold Hid; rw [← HBB.out]; exact tk_bad hE
        rw [HSAME.out] at HTK
        generalize tkE (allB B D k) d = E at *
        clear hE
        go_wp2_with fail
        refine HTK.out.mono ?_
        rintro e w1 ⟨rfl, hs1, hu1⟩
        have hI' := HII.out
        have HU1 := hide hu1
        have e0 : w1.cell? ⟨w.heap.size, 0, none⟩ = some (.pointer (some ⟨b, 0, none⟩)) := (hu1.cell (p := ⟨w.heap.size, 0, none⟩) (by show w.heap.size < _; omega) (by show w.heap.size ≠ b; omega)).trans d0
        have e1 : w1.cell? ⟨w.heap.size + 1, 0, none⟩ = some (.slice av k cv) := (hu1.cell (p := ⟨w.heap.size + 1, 0, none⟩) (by show w.heap.size + 1 < _; omega) (by show w.heap.size + 1 ≠ b; omega)).trans d1
        have e2 : w1.cell? ⟨w.heap.size + 2, 0, none⟩ = some (.bool false) := (hu1.cell (p := ⟨w.heap.size + 2, 0, none⟩) (by show w.heap.size + 2 < _; omega) (by show w.heap.size + 2 ≠ b; omega)).trans d2
        have HUN := hide (fun u => undo_open (w.heap.size + 2) w.heap.size (w.heap.size + 1) b av k cv (allLs B D k) (allB B D k) u w1 e2 e0 e1 hs1 (allLs_len _ _ _) (by omega) (own_locsB (own_bu hI'.row hu1 (by omega)) (allLs_len _ _ _) (by omega)).1)
        clear hs1 hu1 e0 e1 e2 hI' d0 d1 d2 f2
        go_wp2_with fail
        refine leaves_cons (f := 29) (args := #[.pointer (some ⟨w.heap.size + 2, 0, none⟩), .pointer (some ⟨w.heap.size, 0, none⟩), .pointer (some ⟨w.heap.size + 1, 0, none⟩)]) (by simp) (by simp [go_sem]) ?_
        refine (HUN.out _).mono ?_
        rintro e u' w2 ⟨rfl, rfl, hs2, hu2⟩
        refine ⟨_, results_tmp2 rfl _ _ _, ?_⟩
        refine ⟨HII.out.bu.trans (HU1.out.trans hu2), .inl ⟨k, by rw [HL.out]; exact hlt, HOK.out, by rw [HEE.out]; exact HNE.out, ?_, hs2.congr fun q _ => all_back HOK.out q⟩⟩
        rw [HEE.out]
        rfl
    · have hdk : decide ((k : Int) < (n : Int)) = false := by simp; omega
      obtain rfl : k = n := by omega
      have hB := HII.out
      have HR : Hid (LocsB b wr av (allLs B D k) ∧ ∀ p, av = some p → w.heap.size + 3 ≤ p.block) := own_locsB hB.row (allLs_len _ _ _) (by omega)
      have HD2 : Hid ((wr.setCell ⟨w.heap.size + 2, 0, none⟩ (.bool true)).cell? ⟨w.heap.size + 2, 0, none⟩ = some (.bool true)) := (hB.s2.set (.bool true)).cell
      have d1n : (wr.setCell ⟨w.heap.size + 2, 0, none⟩ (.bool true)).cell? ⟨w.heap.size + 1, 0, none⟩ = some (.slice av k cv) := (hB.s1.other (by omega) _).cell
      have HBU : Hid (Bu b w (wr.setCell ⟨w.heap.size + 2, 0, none⟩ (.bool true))) := ⟨hB.bu.os, hB.bu.tape, hB.bu.output, by simpa using hB.bu.size, fun j hj hn => (Below.heap_setCell _ _ _ _ (by show j ≠ w.heap.size + 2; omega)).trans (hB.bu.blk j hj hn)⟩
      have HSP : Hid (SpAt (wr.setCell ⟨w.heap.size + 2, 0, none⟩ (.bool true)) b (allB B D k)) := (Below.heap_setCell _ _ _ _ (by show b ≠ w.heap.size + 2; omega)).trans hB.sp
      have HLC : Hid (LocsAt (wr.setCell ⟨w.heap.size + 2, 0, none⟩ (.bool true)) av (allLs B D k)) := by
        rcases HR.out.1.1 with q | ⟨bl, o, rfl, hlt', hc⟩
        · exact .inl q
        · have hge := HR.out.2 _ rfl
          simp only at hge
          have hsame : (wr.setCell ⟨w.heap.size + 2, 0, none⟩ (.bool true)).heap[bl]? = wr.heap[bl]? := Below.heap_setCell _ _ _ _ (by show bl ≠ w.heap.size + 2; omega)
          exact .inr ⟨bl, o, rfl, by simpa using hlt', fun i x hx => ⟨(World.cell?_of_block (a := ⟨bl, o + i * 2, none⟩) hsame).trans (hc i x hx).1, (World.cell?_of_block (a := ⟨bl, o + i * 2 + 1, none⟩) hsame).trans (hc i x hx).2⟩⟩
      clear hB
      go_wp2_with fail
      refine leaves_cons (f := 29) (args := #[.pointer (some ⟨w.heap.size + 2, 0, none⟩), .pointer (some ⟨w.heap.size, 0, none⟩), .pointer (some ⟨w.heap.size + 1, 0, none⟩)]) (by simp) (by simp [go_sem]) ?_
      refine (undo_done _ _ _ _ _ HD2.out).mono ?_
      rintro e u' w2 ⟨rfl, rfl, rfl⟩
      refine ⟨_, results_tmp2 rfl _ _ _, ?_⟩
      refine ⟨HBU.out, .inr ⟨fun i hi => HOK.out i (by rw [HL.out] at hi; exact hi), av, cv, ?_, ?_, fun p hp => by have := HR.out.2 p hp; omega, ?_⟩⟩
      · rw [HL.out]; rfl
      · rw [HL.out]; exact HLC.out
      · rw [HL.out]; exact HSP.out
end Go.Proofs.Ythcpcdinjellcaa
