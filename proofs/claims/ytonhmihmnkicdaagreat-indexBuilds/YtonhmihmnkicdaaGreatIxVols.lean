/- What Volume and Volumes of the index answer. What Next of the index answers: one above the greatest ID that ever was. What Volumes of the index answers: all, by their IDs. -/
import Derived.Test.YtonhmihmnkicdaaGreatIxGet
import Derived.Test.YtonhmihmnkicdaaGreatIxMayV
import Derived.Test.YtonhmihmnkicdaaGreatIxApply
import Derived.Test.YtonhmihmnkicdaaGreatIxMove
import Derived.Test.YtonhmihmnkicdaaGreatGvRow
import Derived.Test.YtonhmihmnkicdaaGreatIter
import Derived.Test.YtonhmihmnkicdaaGreatShelf
import Derived.Shelf.SlIterI.Stops
import Derived.Test.YtonhmihmnkicdaaGreatIxKeys
namespace Go.Proofs.YtonhmihmnkicdaaGreat
open Go.RowKit Go.Maps Go.Sort Go.Shelf
set_option linter.unusedVariables false
def FX.volE (X : FX) (id : Int) : Int := if (X.V id).isSome then 0 else 9
set_option maxRecDepth 100000 in
set_option maxHeartbeats 8000000 in
theorem ix_volume {B n : Nat} {I : Ix} {X : FX} {w : World} (h : IxAt B w I n X) (hls : ∀ id v, X.V id = some v → v.ls.length ≤ 1000) (id : Int) (hk : OkI id) : Calls Tryz.prog 48 #[.pointer (some ⟨I.xb, 0, none⟩), .int .i64 id] w fun e w' => ∃ a c, e = .returned (.tuple #[.agg #[.int .i64 (X.vol id).id, .int .i64 (X.vol id).gen, .int .i64 (X.vol id).len, .slice a (X.vol id).ls.length c], .int .i64 (X.volE id)]) ∧ LocsK B w' a (X.vol id).ls ∧ Below w.heap.size w w' := by
  have hb1 : Below w.heap.size w (w.alloc (.cells #[.int .i64 0, .int .i64 0, .int .i64 0, .slice none 0 0] 36)) := (Below.refl _ _).alloc (Nat.le_refl _) _
  have h1 := h.below hb1
  obtain ⟨xq, hxq, hlq, hkq⟩ := h1.v.look id hk
  have c2 := h1.cells.2.2.1
  have hk0 : (w.alloc (.cells #[.int .i64 0, .int .i64 0, .int .i64 0, .slice none 0 0] 36)).heap[w.heap.size]? = some (.cells #[.int .i64 0, .int .i64 0, .int .i64 0, .slice none 0 0] 36 (0, 0)) := heap_alloc_new _ _
  have HLS := hide hls
  have hlt := h.lt (.inl rfl)
  have HBW := hide h.Bw
  generalize hW1 : w.alloc (.cells #[.int .i64 0, .int .i64 0, .int .i64 0, .slice none 0 0] 36) = W1 at *
  obtain ⟨⟨q1, q2, q3, ql⟩, qa, qc⟩ := xq
  have hxv : X.vol id = ⟨q1, q2, q3, ql⟩ := hxq.symm
  have HXV := hide hxv
  have hll : ql.length ≤ 8796093022208 := by
    have : (X.vol id).ls = ql := by rw [hxv]
    rw [← this]
    unfold FX.vol
    cases hv : X.V id with
    | none => exact Nat.zero_le _
    | some v => have := hls id v hv; show v.ls.length ≤ _; omega
  obtain ⟨m, hm⟩ : ∃ m, ql.length = m := ⟨_, rfl⟩
  simp only [voF, hm] at hkq hlq
  have HM := hide hm
  have HL1 := hide hlq
  have HE : Hid (X.volE id = if (X.V id).isSome then 0 else 9) := rfl
  have HK0 := hide hk0
  have HB1 := hide hb1
  have hlk := hkq W1 (Below.refl _ _)
  have hz := vol_zero
  have hs1 : w.heap.size + 1 = W1.heap.size := by rw [← hW1, World.size_alloc]
  have HS1 := hide hs1
  have hb2 : Below W1.heap.size W1 (W1.alloc (.cells #[.int .i64 q1, .int .i64 q2, .int .i64 q3, .slice qa m qc] 36)) := (Below.refl _ _).alloc (Nat.le_refl _) _
  have HB2 := hide hb2
  have HK1 := hide (heap_alloc_new W1 (.cells #[.int .i64 q1, .int .i64 q2, .int .i64 q3, .slice qa m qc] 36))
  have HC := hide (copied_any q1 q2 q3 qa m qc ql (W1.alloc (.cells #[.int .i64 q1, .int .i64 q2, .int .i64 q3, .slice qa m qc] 36)) hm (by omega) (hlq.at.below hb2))
  have HWW := hide hW1
  clear h h1 hxq hlq hkq hls hxv hll hm hk0 hb1 hb2 hs1
  go_enter Tryz.func48, Tryz.ntmps48
  go_upto_region 1 with fail
  clear HWW hW1
  cases hV : (X.V id).isSome with
  | false =>
    rw [hV] at hlk HE
    have hq0 : X.vol id = vd0 := by unfold FX.vol; cases hq : X.V id with | none => rfl | some v => rw [hq] at hV; cases hV
    go_upto_region 4 with fail
    have HG := hide ((HB2.out.block _ (by have := HS1.out; omega)).trans HK0.out)
    have HB := hide (HB1.out.trans (HB2.out.mono HB1.out.size))
    generalize W1.alloc (.cells #[.int .i64 q1, .int .i64 q2, .int .i64 q3, .slice qa m qc] 36) = W2 at *
    go_wp2_with (first | (refine wpList_store_row rfl 36 (.tmp 4) (.tmp 22) rfl w.heap.size #[.int .i64 0, .int .i64 0, .int .i64 0, .slice none 0 0] rfl rfl 36 _ HG.out vol_size4 rfl (vol_one _ _ _ _ _ _) ?_))
    refine bodyPost_ret (res_vo2 rfl _ _ w.heap.size _ rfl rfl (setRow_heap _ _ _ _ _ _ HG.out)) rfl ?_
    rw [hq0]
    exact ⟨none, 0, by rw [HE.out]; rfl, .inl rfl, below_setRow HB.out (Nat.le_refl _) _⟩
  | true =>
    rw [hV] at hlk HE
    go_upto_region 4 with fail
    have HG := hide ((HB2.out.block _ (by have := HS1.out; omega)).trans HK0.out)
    have HB := hide (HB1.out.trans (HB2.out.mono HB1.out.size))
    have HK1 := hide HK1.out
    have hs2 : W1.heap.size ≤ (W1.alloc (.cells #[.int .i64 q1, .int .i64 q2, .int .i64 q3, .slice qa m qc] 36)).heap.size := HB2.out.size
    generalize W1.alloc (.cells #[.int .i64 q1, .int .i64 q2, .int .i64 q3, .slice qa m qc] 36) = W2 at *
    go_wp2_with (first | (refine wpList_load_row rfl 36 (.tmp 6) rfl W1.heap.size rfl 36 #[.int .i64 q1, .int .i64 q2, .int .i64 q3, .slice qa m qc] (0, 0) _ HK1.out Tryz.underlying36 rfl vol_size4 ?_))
    refine HC.out.mono ?_
    rintro e W3 ⟨a', c', rfl, hlk3, hb3⟩
    have HG3 := hide ((hb3.block _ (by have := HS1.out; omega)).trans HG.out)
    have HB3 := hide (HB.out.trans (hb3.mono HB.out.size))
    have HL3 := hide (hlk3 B)
    clear hlk3 hb3
    go_wp2_with (first | (refine wpList_store_row rfl 36 (.tmp 4) (.tmp 24) rfl w.heap.size #[.int .i64 q1, .int .i64 q2, .int .i64 q3, .slice a' m c'] rfl rfl 36 _ HG3.out vol_size4 rfl (vol_one _ _ _ _ _ _) ?_))
    refine bodyPost_ret (res_vo2 rfl _ _ w.heap.size _ rfl rfl (setRow_heap _ _ _ _ _ _ HG3.out)) rfl ?_
    rw [HXV.out]
    refine ⟨a', c', by rw [HE.out]; simp only [HM.out]; rfl, ?_, below_setRow HB3.out (Nat.le_refl _) _⟩
    exact HL3.out.mod (mds_row1 _ HG3.out HBW.out)
theorem VAt.look1 {B n : Nat} {w : World} {b : Nat} {V : Int → Option VD} (h : VAt B w b n V) (id : Int) (hk : OkI id) : ∃ x : Vo, x.d = (V id).getD vd0 ∧ LocsK B w x.a x.d.ls ∧ (Instr.lookup 67 (.map (some b)) (.int .i64 id) false).run Tryz.prog w = .ok (voF x) w := by
  obtain ⟨f, h1, h2, h3⟩ := h
  refine ⟨(f id).getD vo0, ?_, ?_, ?_⟩
  · rw [← h1]; cases f id <;> rfl
  · cases hf : f id with
    | none => exact .inl rfl
    | some x => exact h3 id x hf
  · have := h2.look1 ke_int Tryz.underlying67 (vol_zero w) hk
    rw [vo_get] at this
    exact this
/-! the IDs, rising -/
def SortedI (V : Int → Option VD) (ids : List Int) : Prop := ids.Pairwise (fun a b => a < b) ∧ ∀ x, x ∈ ids ↔ OkI x ∧ (V x).isSome = true
theorem mem_intK {w : World} {b n : Nat} {D0 : DataW Value} (hown : w.ownsMap Tryz.prog 3 hv b n D0) (x : Int) : x ∈ intKeys D0 ↔ has D0 (.int .i64 x) = true := by
  obtain ⟨es, rfl, hko⟩ := hown.keysOf
  have hk : ∀ p ∈ es, ∃ x, p.1 = .int .i64 x := fun p hp => by
    obtain ⟨v, hv⟩ := hko p hp
    obtain ⟨x, _, hx, _⟩ := Maps.keyOf_i64 Tryz.underlying3 hv
    exact ⟨x, hx⟩
  rw [has_eq, List.any_eq_true]
  show x ∈ es.map (fun p => Go.intOf p.1) ↔ _
  rw [List.mem_map]
  constructor
  · rintro ⟨p, hp', rfl⟩
    obtain ⟨a, ha⟩ := hk p hp'
    exact ⟨p, hp', by rw [ha]; simp [Lit.sameKey, Go.intOf]⟩
  · rintro ⟨p, hp', hs⟩
    obtain ⟨a, ha⟩ := hk p hp'
    rw [ha] at hs
    exact ⟨p, hp', by rw [ha]; simpa [Lit.sameKey, Go.intOf] using hs⟩
theorem int_nodup {w : World} {b n : Nat} {D0 : DataW Value} (hown : w.ownsMap Tryz.prog 3 hv b n D0) : (intKeys D0).Nodup := by
  obtain ⟨es, hD, hpw, _⟩ := hown.entries ke_int.keyed
  obtain ⟨es', hD', hko⟩ := hown.keysOf
  obtain rfl : es = es' := by rw [hD] at hD'; simpa using hD'
  subst hD
  show (es.map fun p => Go.intOf p.1).Nodup
  refine List.pairwise_map.2 (hpw.imp_of_mem fun {p q} hp' hq' hne e => hne ?_)
  obtain ⟨v1, h1⟩ := hko p hp'
  obtain ⟨v2, h2⟩ := hko q hq'
  obtain ⟨x1, _, e1, _⟩ := Maps.keyOf_i64 Tryz.underlying3 h1
  obtain ⟨x2, _, e2, _⟩ := Maps.keyOf_i64 Tryz.underlying3 h2
  rw [e1, e2] at e ⊢
  exact congrArg _ e
theorem int_len {w : World} {b n : Nat} {D0 : DataW Value} (hown : w.ownsMap Tryz.prog 3 hv b n D0) : (intKeys D0).length ≤ n := by
  have q := hown.size_le
  obtain ⟨es, rfl, _⟩ := hown.keysOf
  show (es.map _).length ≤ n
  rw [List.length_map]
  exact q
theorem int_ok {w : World} {b n : Nat} {D0 : DataW Value} (hown : w.ownsMap Tryz.prog 3 hv b n D0) {x : Int} (hx : x ∈ intKeys D0) : OkI x := by
  have := intKeys_wf hown Tryz.underlying3 x hx
  simp [Lit.wf] at this
  exact ⟨this.1, this.2⟩
theorem sorted_i {V : Int → Option VD} {w : World} {b n : Nat} {D0 : DataW Value} (hown : w.ownsMap Tryz.prog 3 hv b n D0) (hH : ∀ x, OkI x → has D0 (.int .i64 x) = (V x).isSome) {ss : List Int} (hp : ss.Perm (intKeys D0)) : SortedI V (ss.mergeSort fun x y => decide (x ≤ y)) := by
  have hperm := (List.mergeSort_perm ss (fun x y => decide (x ≤ y))).trans hp
  have hsort : (ss.mergeSort fun x y => decide (x ≤ y)).Pairwise (fun x y => decide (x ≤ y) = true) := List.pairwise_mergeSort (fun a b c h1 h2 => by simp at *; omega) (fun a b => by simp; omega) _
  have hnod := (hperm.nodup_iff).2 (int_nodup hown)
  refine ⟨(hsort.and hnod).imp fun {a b} hab => ?_, fun x => ?_⟩
  · obtain ⟨h1, h2⟩ := hab
    simp at h1
    omega
  · rw [hperm.mem_iff, mem_intK hown]
    constructor
    · intro h
      have hx := int_ok hown ((mem_intK hown x).2 h)
      exact ⟨hx, by rw [← hH x hx]; exact h⟩
    · rintro ⟨h1, h2⟩
      rw [hH x h1]; exact h2
/-- what Volumes tells -/
def VolsIs (X : FX) (L : List VD) : Prop := ∃ ids, SortedI X.V ids ∧ L = ids.map X.vol
end Go.Proofs.YtonhmihmnkicdaaGreat
namespace Go.Proofs.YtonhmihmnkicdaaGreat
open Go.RowKit Go.Maps Go.Sort Go.Shelf
set_option linter.unusedVariables false
attribute [local go_sem] Oper.semAt_some
def wadd (x : Int) : Int := IntKind.i64.wrap (x + 1)
def nextF (l : List Int) : Int := l.foldl (fun n x => max n (wadd x)) 0
theorem nextF_snoc (l : List Int) (x : Int) : nextF (l ++ [x]) = max (nextF l) (wadd x) := by simp [nextF]
theorem wadd_ok {x : Int} (h : numR x) : wadd x = x + 1 := by unfold wadd; rw [IntKind.wrap_i64]; unfold numR at h; omega
theorem nextG : ∀ (l : List Int) (n : Int), (∀ x ∈ l, numR x) → 0 ≤ n → n ≤ 1099511627777 → n ≤ l.foldl (fun n x => max n (wadd x)) n ∧ l.foldl (fun n x => max n (wadd x)) n ≤ 1099511627777 ∧ (∀ x ∈ l, x < l.foldl (fun n x => max n (wadd x)) n) ∧ (l.foldl (fun n x => max n (wadd x)) n = n ∨ l.foldl (fun n x => max n (wadd x)) n - 1 ∈ l)
  | [], n, _, _, h1 => ⟨Int.le_refl _, h1, fun x hx => by simp at hx, .inl rfl⟩
  | y :: l, n, h, h0, h1 => by
    have hy := h y (by simp)
    have hw := wadd_ok hy
    unfold numR at hy
    obtain ⟨a1, a2, a3, a4⟩ := nextG l (max n (wadd y)) (fun x hx => h x (by simp [hx])) (by omega) (by omega)
    simp only [List.foldl_cons]
    generalize l.foldl (fun n x => max n (wadd x)) (max n (wadd y)) = N at *
    refine ⟨by omega, a2, fun x hx => ?_, ?_⟩
    · rcases List.mem_cons.1 hx with q | q
      · omega
      · exact a3 x q
    · rcases a4 with q | q
      · by_cases hc : wadd y ≤ n
        · left; omega
        · right
          have : N - 1 = y := by omega
          rw [this]; simp
      · right; simp [q]
/-- what Next tells -/
def NextIs (H : Int → Bool) (N : Int) : Prop := (∀ id, OkI id → H id = true → id < N) ∧ 0 ≤ N ∧ (N = 0 ∨ H (N - 1) = true)
structure NI (w : World) (pre : List Int) (W : World) : Prop where
  bel : Below w.heap.size w W
  size : w.heap.size + 2 ≤ W.heap.size
  b0 : Boxed W w.heap.size 3 (.int .i64 (nextF pre))
theorem ni_own (w : World) : OwnFrom (w.heap.size + 2) (NI w) := fun pre W W' row h hg hr => by
  have hk : ∀ k, k < w.heap.size + 2 → W'.heap[k]? = W.heap[k]? := fun k hk => hg.block k (by have := h.size; omega) fun e => by have := (hr k e.symm).1; omega
  exact ⟨below_grown h.bel hg (fun r e => (hr r e).1) (by omega) h.size, Nat.le_trans h.size hg.size, (hk _ (by omega)).trans h.b0⟩
theorem ni_set {w : World} {pre : List Int} {W : World} (h : NI w pre W) (x : Int) : KeepsOthers W (W.setCell ⟨w.heap.size, 0, none⟩ (.int .i64 (max (nextF pre) (wadd x)))) ∧ KeepsWalks W (W.setCell ⟨w.heap.size, 0, none⟩ (.int .i64 (max (nextF pre) (wadd x)))) ∧ NI w (pre ++ [x]) (W.setCell ⟨w.heap.size, 0, none⟩ (.int .i64 (max (nextF pre) (wadd x)))) :=
  ⟨KeepsOthers.setCell _ _ _, (KeepsOthers.setCell _ _ _).walks, h.bel.setCell (Nat.le_refl _) _, by have := h.size; simp only [World.size_setCell]; exact this, by rw [nextF_snoc]; exact h.b0.set _⟩
def nW (w : World) (mi : Nat) : World := (w.alloc (.cells #[.int .i64 0] 3)).alloc (.cells #[.map (some mi)] 68)
theorem nW_size (w : World) (mi : Nat) : (nW w mi).heap.size = w.heap.size + 2 := by unfold nW; simp only [World.size_alloc]
theorem nW_below (w : World) (mi : Nat) : Below w.heap.size w (nW w mi) := by
  unfold nW
  exact ((Below.refl _ w).alloc (Nat.le_refl _) _).alloc (by simp only [World.size_alloc]; omega) _
theorem nW_1 (w : World) (mi : Nat) : (nW w mi).cell? ⟨w.heap.size + 1, 0, none⟩ = some (.map (some mi)) := by
  unfold nW; exact cell_of_block (c := #[.map (some mi)]) (new_at _ _ (by simp only [World.size_alloc]))
theorem ni_start (mi : Nat) (w : World) : NI w [] (nW w mi) :=
  ⟨nW_below _ _, by rw [nW_size]; exact Nat.le_refl _, by unfold nW; exact old_at _ (new_at w _ rfl)⟩
set_option maxRecDepth 100000 in
set_option maxHeartbeats 16000000 in
theorem ix_next {B n : Nat} {I : Ix} {X : FX} {w : World} (h : IxAt B w I n X) (hn : n ≤ 1000000) (hh : ∀ id, X.H id = true → numR id) : Calls Tryz.prog 23 #[.pointer (some ⟨I.xb, 0, none⟩)] w fun e w' => ∃ N, e = .returned (.int .i64 N) ∧ NextIs X.H N ∧ N ≤ 1099511627777 ∧ Below w.heap.size w w' := by
  obtain ⟨D0, hown, hat⟩ := h.i
  have HH := hide hh
  have hHas : ∀ k, OkI k → has D0 (.int .i64 k) = X.H k := fun k hk => by
    have := MAt.has hown ke_int.keyed Tryz.underlying68 (unit_zero w) (ke_int.key k hk) (hat k hk)
    show has D0 (lInt k) = _
    rw [this]; exact u_some _
  have HM : Hid (∀ ys : List Int, ys.Perm (intKeys D0) → (∀ x ∈ ys, numR x) ∧ ∀ id, OkI id → X.H id = true → id ∈ ys) := fun ys hp => by
    refine ⟨fun x hx => ?_, fun id hk hi => ?_⟩
    · have hx := hp.mem_iff.1 hx
      have hk := int_ok hown hx
      have := (mem_intK hown x).1 hx
      rw [hHas x hk] at this
      exact hh x this
    · rw [hp.mem_iff, mem_intK hown, hHas id hk]; exact hi
  have HM2 : Hid (∀ ys : List Int, ys.Perm (intKeys D0) → ∀ x ∈ ys, X.H x = true) := fun ys hp x hx => by
    have hx := hp.mem_iff.1 hx
    have := (mem_intK hown x).1 hx
    rwa [hHas x (int_ok hown hx)] at this
  have hb0 := nW_below w I.mi
  have hseq : SeqStops Fence.wide 4 Tryz.prog 81 #[.pointer (some ⟨w.heap.size + 1, 0, none⟩)] encZ (fun ss => ss.Perm (intKeys D0) ∧ ∀ x, x ∈ ss ↔ has D0 (.int .i64 x) = true) (fun pre => pre.Nodup ∧ ∀ x ∈ pre, has D0 (.int .i64 x) = true) (Maps.size D0) (nW w I.mi) :=
    AnyZI.keys_stops (ρ := Tryz.keysI_ren) { Tryz.keysI with } Fence.wide _ trivial rfl (by omega) (w.heap.size + 1) I.mi n D0 (R := hv) _ (by rw [nW_size]; omega) (nW_1 _ _) (by
      obtain ⟨es, clock, hb, Ft, hs, hD⟩ := hown
      exact ⟨es, clock, (hb0.block _ (lt_of_block hb)).trans hb, Ft, hs, hD⟩)
  have cK : ∀ mb W, CallsIn Fence.wide 4 Tryz.prog 54 #[.map mb] W fun e w' => e = .returned (.func (.func 81) #[] #[.pointer (some ⟨W.heap.size, 0, none⟩)]) ∧ w' = W.alloc (.cells #[.map mb] 68) := fun mb W => AnyZI.keys_in Tryz.keysI Fence.wide 4 trivial rfl mb W
  have hc2 : (w.alloc (.cells #[.int .i64 0] 3)).cell? ⟨I.xb, 3, none⟩ = some (.map (some I.mi)) :=
    ((Below.refl _ w).alloc (Nat.le_refl _) _).cell (p := ⟨I.xb, 3, none⟩) (h.lt (.inl rfl)) |>.trans h.cells.2.2.2
  clear hHas hh
  clear hat hown h
  refine (callsIn_wide (n := 5)).1 ?_
  refine callsIn_of_wp_marks Tryz.func23 rfl trivial ?_ rfl
  simp only [Tryz.ntmps23, List.size_toArray, List.length_cons, List.length_nil, Nat.reduceAdd, Nat.reduceSub, Array.replicate_succ, Array.replicate_zero, List.push_toArray, List.append_toArray, List.nil_append, List.cons_append]
  have hfK : Fence.wide.fn 54 := trivial
  gi_wp2_with (first | (refine ⟨trivial, ?_⟩; gi_at_call 54; refine (cK _ _).mono ?_; rintro e w' ⟨rfl, rfl⟩) | (gi_at_call 54; refine (cK _ _).mono ?_; rintro e w' ⟨rfl, rfl⟩))
  rw [show (w.alloc (.cells #[.int .i64 0] 3)).alloc (.cells #[.map (some I.mi)] 68) = nW w I.mi from rfl]
  have hsz := nW_size w I.mi
  refine wpIn_rangeFunc_ownF (n := 5) (F := Fence.wide) rfl (by omega) (gf := 81) (lb := #[.pointer (some ⟨w.heap.size + 1, 0, none⟩)]) rfl trivial (enters_of Tryz.func81 (by kernel_rfl) rfl)
    (stops_k hseq) walksK_t (fun W l o o' hl => walksK_b W l o o' hl) (Below.refl _ _) (fun _ => rfl) (NI w) (fun _ _ _ => False)
    (by have := ni_own w; rw [hsz]; exact this) (fun _ _ _ _ _ h _ _ => h) (ni_start _ _) ?a1 ?assign ?body ?done ?stop
  case assign =>
    intro l x W K hK
    gi_wp2
    exact hK
  case body =>
    rintro lp pre x W hI hlt
    have c0 := hI.b0.cell
    have f0 := hI.b0.frozen
    have HS := hide (ni_set hI x)
    have hwd : IntKind.i64.wrap (x + 1) = wadd x := rfl
    clear hI
    gi_wp2
    exact ⟨HS.out.1, HS.out.2.1, HS.out.2.2⟩
  case done =>
    rintro Dd ys W hD ⟨hp, hm⟩ hI hK
    rw [hsz] at hD
    obtain ⟨h1, h2⟩ := HM.out ys hp
    have hmy := HM2.out ys hp
    obtain ⟨a1, a2, a3, a4⟩ := nextG ys 0 h1 (by omega) (by omega)
    have HN : Hid (NextIs X.H (nextF ys) ∧ nextF ys ≤ 1099511627777) := ⟨⟨fun id hk hi => a3 id (h2 id hk hi), a1, by
      rcases a4 with q | q
      · exact .inl q
      · exact .inr (hmy _ q)⟩, a2⟩
    have hc := hI.b0.cell
    have HK := hide hK
    have HB := hide hI.bel
    clear hI hp hm hK h1 h2 hmy a1 a2 a3 a4
    gi_wp2
    refine ⟨by simp, .inl ⟨_, _, rfl, run_takeDeferred HK.out, ?_⟩⟩
    refine ⟨_, results_tmp rfl _ _ _, ?_⟩
    exact ⟨nextF ys, rfl, HN.out.1, HN.out.2, HB.out.os, HB.out.tape, HB.out.output, by simpa using HB.out.size, fun j hj => (World.putObj_heap_other (by omega)).trans (HB.out.block j hj)⟩
  case stop =>
    rintro Dd cc pre W hD _ h _
    exact h.elim
end Go.Proofs.YtonhmihmnkicdaaGreat
namespace Go.Proofs.YtonhmihmnkicdaaGreat
open Go.RowKit Go.Maps Go.Sort Go.Shelf
set_option linter.unusedVariables false
def vIx : Value → Int | .int _ q => q | _ => 0
theorem sortsI (m : Nat) : AnyZI.SortsIn Tryz.prog Tryz.sortedI_ren Fence.wide m :=
  ⟨fun blk off cap ss W hH hblk hsz => callsIn_wide.2 (Tryz.slices_Sort_int blk off cap ss W hH hblk hsz), fun p cap W => callsIn_wide.2 (Tryz.slices_Sort_int_none p cap W)⟩
theorem keysV_any (mb : Option Nat) (W : World) : Calls Tryz.prog 52 #[.map mb] W fun e w' => e = .returned (.func (.func 79) #[] #[.pointer (some ⟨W.heap.size, 0, none⟩)]) ∧ w' = W.alloc (.cells #[.map mb] 67) :=
  (callsIn_wide (n := 5)).1 (AnyZI.keys_in Tryz.keysV Fence.wide 5 trivial rfl mb W)
theorem sortedV_any {b n : Nat} {D0 : DataW Value} {W : World} (hown : W.ownsMap Tryz.prog 3 hv b n D0) (hn : n ≤ 1000000) : Calls Tryz.prog 51 #[.func (.func 79) #[] #[.pointer (some ⟨W.heap.size, 0, none⟩)]] (W.alloc (.cells #[.map (some b)] 67)) fun e w' => ∃ (v : Value) (ss : List Int), e = .returned v ∧ ss.Perm (intKeys D0) ∧
      w'.ownsRow (W.heap.size + 1) 3 1 v ss.length ((ss.mergeSort (fun x y => decide (x ≤ y))).map encZ) ∧ (v = .slice none 0 0 ↔ ss = []) ∧ Below W.heap.size W w' := by
  have hsl := hown.size_le
  have hseq : SeqGives Fence.wide 2 Tryz.prog 79 #[.pointer (some ⟨W.heap.size, 0, none⟩)] encZ (fun ss => ss.Perm (intKeys D0)) (Maps.size D0) (W.alloc (.cells #[.map (some b)] 67)) :=
    AnyZI.keys_gives (ρ := Tryz.keysV_ren) { Tryz.keysV with } Fence.wide _ trivial rfl (by omega) W.heap.size b n D0 (R := hv) _ (by simp) (by simp) (by
      have hbl := hown.lt
      obtain ⟨es, clock, hb, Ft, hs, hD⟩ := hown
      exact ⟨es, clock, (Below.heap_alloc _ _ b hbl).trans hb, Ft, hs, hD⟩)
  have cS := AnyZI.sorted_in Tryz.sortedI Fence.wide 5 trivial trivial trivial trivial rfl (by omega) (sortsI _) (enters_of Tryz.func78 (by kernel_rfl) rfl) 79 #[.pointer (some ⟨W.heap.size, 0, none⟩)] trivial (enters_of Tryz.func79 (by kernel_rfl) rfl) _ _ (by unfold maxLen; omega) (by omega) _ hseq
  refine ((callsIn_wide (n := 5)).1 cS).mono ?_
  rintro e w' ⟨v, ss, h1, h2, h3, h4, h5⟩
  refine ⟨v, ss, h1, h2, by rw [World.size_alloc] at h3; exact h3, h4, ((Below.refl _ W).alloc (Nat.le_refl _) _).trans (h5.mono (by simp))⟩
set_option maxRecDepth 100000 in
set_option maxHeartbeats 8000000 in
theorem ix_volumes {B n : Nat} {I : Ix} {X : FX} {w : World} (h : IxAt B w I n X) (hn : n ≤ 1000000) (hls : ∀ id v, X.V id = some v → v.ls.length ≤ 1000) : Calls Tryz.prog 22 #[.pointer (some ⟨I.xb, 0, none⟩)] w fun e w' => ∃ a c L, e = .returned (.slice a L.length c) ∧ L.length ≤ c ∧ L.length ≤ n ∧ VosAt B w' a L ∧ VolsIs X L ∧ Below w.heap.size w w' := by
  have c2 := h.cells.2.2.1
  obtain ⟨f, h1, ⟨D0, hown, hat⟩, h3⟩ := h.v
  have HX := hide h
  have hH : ∀ x, OkI x → has D0 (.int .i64 x) = (X.V x).isSome := fun x hk => by
    have := MAt.has hown ke_int.keyed Tryz.underlying67 (vol_zero w) (ke_int.key x hk) (hat x hk)
    show has D0 (lInt x) = _
    rw [this, ← h1]
    show ((f x).map voF).isSome = _
    cases f x <;> rfl
  have HLN := hide (int_len hown)
  have HSO := hide (fun (ss : List Int) (hp : ss.Perm (intKeys D0)) => sorted_i hown hH hp)
  have HKV := hide (keysV_any (some I.mv) w)
  have HSV := hide (sortedV_any hown hn)
  have HLS := hide hls
  have HBw := hide h.Bw
  have HN := hide hn
  obtain ⟨i0, hi0, hz0, hz1, hz2⟩ := info_parts vol_info
  have HI := hide hi0
  have HI0 := hide hz0
  have HI1 := hide hz1
  have HI2 := hide hz2
  clear h h1 h3 hat hown hH hls hn hi0 hz0 hz1 hz2
  go_enter Tryz.func22, Tryz.ntmps22
  go_wp2_with fail
  refine HKV.out.mono ?_
  rintro e w1 ⟨rfl, rfl⟩
  go_wp2_with fail
  refine HSV.out.mono ?_
  rintro e w1 ⟨v0, ss, rfl, hp, hrow, -, hb⟩
  have HSI := hide (HSO.out ss hp)
  have hlen : ss.length ≤ n := by have := hp.length_eq; have := HLN.out; omega
  have hml : (ss.mergeSort fun x y => decide (x ≤ y)).length = ss.length := by simp
  obtain ⟨m, hm⟩ : ∃ m, ss.length = m := ⟨_, rfl⟩
  rw [hm] at hrow hlen hml
  clear hm hp HSO HLN HKV HSV
  generalize (ss.mergeSort fun x y => decide (x ≤ y)) = ids at *
  obtain ⟨a0, cc0, rfl, hcc, hcm⟩ := own_slice hrow
  have HROW := hide hrow
  have HLEN := hide hlen
  have HML := hide hml
  have HX1 := hide (HX.out.below hb)
  have HB1 := hide hb
  have HB1w : Hid (B ≤ w1.heap.size) := Nat.le_trans HBw.out hb.size
  clear hrow hlen hml hb c2
  go_wp2_with fail
  go_loopw [3, 15] (fun v y wr => ∃ k : Nat, k ≤ m ∧ y = .int .i64 k ∧ Gv B w1 wr v ((ids.map X.vol).take k) ∧ Below w1.heap.size w1 wr) (fun v y _ => m - (vIx y).toNat)
  case atStart => exact ⟨0, by omega, rfl, by simpa using Gv.nil B w1 w1, Below.refl _ _⟩
  case round =>
    obtain ⟨k, hk, rfl, hg, hbl⟩ := hrel
    have HB := hide hbl
    have HG := hide hg
    clear hbl hg
    by_cases hlt : k < m
    · have hd : decide ((k : Int) < (m : Int)) = true := by simp; omega
      have hdi : (k : Int) < (m : Int) := by omega
      have hd0 : (0 : Int) ≤ (k : Int) := by omega
      obtain ⟨x, hx⟩ : ∃ x, ids[k]? = some x := ⟨_, List.getElem?_eq_getElem (by have := HML.out; omega)⟩
      have hokx : OkI x := ((HSI.out.2 x).1 (List.mem_of_getElem? hx)).1
      rcases HROW.out.2 with ⟨_, h0⟩ | ⟨g, cap, cur, hv, hgB, hgc, _⟩
      · omega
      · cases hv
        have hcell : wr.cell? ⟨g, k, none⟩ = some (.int .i64 x) := by
          have : w1.cell? ⟨g, k, none⟩ = some (.int .i64 x) := by rw [HROW.out.cellAt k (by first | exact hlt | (rw [List.length_map]; have := HML.out; omega) | (have := HML.out; omega)), List.getElem?_map, hx]; rfl
          exact (HB.out.cell (p := ⟨g, k, none⟩) (lt_of_block hgc)).trans this
        have hXr := HX1.out.below HB.out
        have c2 := hXr.cells.2.2.1
        obtain ⟨⟨⟨q1, q2, q3, ql⟩, qa, qc⟩, hq, hql, hlk⟩ := hXr.v.look1 x hokx
        have hxv : X.vol x = ⟨q1, q2, q3, ql⟩ := hq.symm
        have hll : ql.length ≤ 8796093022208 := by
          have : (X.vol x).ls = ql := by rw [hxv]
          rw [← this]
          unfold FX.vol
          cases hv : X.V x with
          | none => exact Nat.zero_le _
          | some v => have := HLS.out x v hv; show v.ls.length ≤ _; omega
        obtain ⟨mm, hmm⟩ : ∃ mm, ql.length = mm := ⟨_, rfl⟩
        simp only [voF, hmm] at hlk
        rw [hmm] at hll
        have HC := hide (copied_any q1 q2 q3 qa mm qc ql wr hmm hll hql.at)
        have HTK : Hid ((ids.map X.vol).take (k + 1) = (ids.map X.vol).take k ++ [⟨q1, q2, q3, ql⟩]) := by unfold Hid; rw [List.take_add_one, List.getElem?_map, hx, ← hxv]; rfl
        have HMM := hide hmm
        have hIL : Hid ((ids.map X.vol).length = m) := by unfold Hid; rw [List.length_map]; exact HML.out
        clear hx hokx hXr hq hql hxv hll hmm
        go_wp2_with fail
        refine HC.out.mono ?_
        rintro e W3 ⟨a', c', rfl, hlk3, hb3⟩
        have hg3 := HG.out.below hb3
        have hbw3 := HB.out.trans (hb3.mono HB.out.size)
        obtain ⟨vs, hv1, hv2, hv3⟩ := hg3.row
        have HV2 := hide hv2
        have HLV : Hid (vs.length = k) := by unfold Hid; rw [← List.length_map (f := Vo.d), hv1, List.length_take]; have := hIL.out; omega
        have HPUSH : Hid (∀ {o : Obj} {w2 : World} {v' : Value}, w2.ownsRow B 36 4 v' (vs.length + 1) (voV vs ++ voC ⟨⟨q1, q2, q3, ql⟩, a', c'⟩) → (W3.alloc o).grownBy w2 u3.ownBlock → (v'.ownBlock = u3.ownBlock ∨ v'.ownBlock = some (W3.alloc o).heap.size) → Gv B w1 w2 v' ((ids.map X.vol).take k ++ [⟨q1, q2, q3, ql⟩]) ∧ Below w1.heap.size w1 w2) := fun h1 h2 h3 => by
          have := Gv.push HB1w.out hbw3 hg3.new hv1 hv2 hv3 ⟨⟨q1, q2, q3, ql⟩, a', c'⟩ (hlk3 B) h1 h2 h3
          exact ⟨this.1, this.2.1⟩
        have hsz3 : B ≤ W3.heap.size := Nat.le_trans HB1w.out hbw3.size
        have HNN : Hid (m ≤ 1000000) := by have := HLEN.out; have := HN.out; unfold Hid; omega
        clear hlk3 hb3 hg3 hbw3 hv1 hv2 hv3 hlk c2 hcell
        go_wp2_with (first | (at_builtin; refine wpList_append_own_at _ rfl (.tmp 19) (.tmp 27) 29 rfl B 36 i0 (.agg #[.int .i64 0, .int .i64 0, .int .i64 0, .slice none 0 0]) 4 48 Tryz.underlying29 HI.out HI0.out HI1.out HI2.out rfl (by decide) _ _ _ rfl (HV2.out.alloc _) ⟨W3.heap.size, 0, none⟩ 1 1 (voC ⟨⟨q1, q2, q3, ql⟩, a', c'⟩) rfl (by simp [voC]) (by have := cell_vol_new W3 ⟨⟨q1, q2, q3, ql⟩, a', c'⟩ 36; unfold voA at this; simp only [HMM.out] at this; exact this) (voC_one _) (by have := HLV.out; have := HNN.out; unfold maxLen; omega) (by have := HLV.out; have := HNN.out; omega) (by rw [World.size_alloc]; omega) ?_; intro v' w3 hown hgr hnil hat; clear hnil; have HN := hide (HPUSH.out hown hgr hat); clear hown hgr hat))
        all_goals exact ⟨⟨k + 1, by omega, by go_num, by rw [HTK.out]; exact HN.out.1, HN.out.2⟩, by simp [vIx]; omega⟩
    · have hkm : k = m := by omega
      subst hkm
      have hd : decide ((k : Int) < (k : Int)) = false := by simp
      have hkk : (ids.map X.vol).take k = ids.map X.vol := List.take_of_length_le (by rw [List.length_map, HML.out]; omega)
      rw [hkk] at HG
      go_wp2_with fail
      try go_ret
      obtain ⟨a, c, e1, e2, _, e3⟩ := HG.out.row.form
      refine ⟨a, c, ids.map X.vol, by rw [e1]; rfl, e2, by rw [List.length_map, HML.out]; exact HLEN.out, e3, ⟨ids, HSI.out, rfl⟩, HB1.out.trans (HB.out.mono HB1.out.size)⟩
end Go.Proofs.YtonhmihmnkicdaaGreat
