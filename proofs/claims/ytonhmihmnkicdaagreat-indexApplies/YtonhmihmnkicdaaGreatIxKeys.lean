/- A map's keys are texts that a machine holds: a longer one is not there. What keysIn of the index answers: the keys whose entries are in a volume, in whatever order. -/
import Derived.Test.YtonhmihmnkicdaaGreatIxGet
import Derived.Sort.KeysCollected
import Derived.Test.YtonhmihmnkicdaaGreatIxMove
import Derived.Test.YtonhmihmnkicdaaGreatIter
import Derived.Test.YtonhmihmnkicdaaGreatRFun
import Derived.RangeFuncFrom
import Derived.Shelf.SlIter.Stops
namespace Go.Proofs.YtonhmihmnkicdaaGreat
open Go.RowKit Go.Maps Go.Sort
set_option linter.unusedVariables false
theorem find_long (s : ByteArray) (hs : ¬ okS s) : ∀ (es : List MapEntry) (i : Nat), (∀ e ∈ es, ∃ x : List UInt8, e.key = encStr x ∧ x.length ≤ maxLen) → Instr.findNow .string (.string s) es i = some none := by
  intro es
  induction es with
  | nil => intro i _; rfl
  | cons e es ih =>
    intro i h
    obtain ⟨x, hx, hl⟩ := h e (List.mem_cons_self ..)
    have hne : (s == (⟨x.toArray⟩ : ByteArray)) = false := by
      cases hq : s == (⟨x.toArray⟩ : ByteArray)
      · rfl
      · exfalso
        have hq : s = ⟨x.toArray⟩ := by
          have h2 : s.data = x.toArray := by
            cases s
            exact eq_of_beq hq
          cases s; simp only at h2; rw [h2]
        apply hs
        rw [hq]
        show x.toArray.size ≤ _
        simpa using hl
    simp only [Instr.findNow, hx, encStr, Instr.sameNow, hne]
    exact ih (i + 1) fun e he => h e (List.mem_cons_of_mem _ he)
theorem look1_long {w : World} {b n : Nat} {f : ByteArray → Option Value} (h : MAt w 9 b n lStr okS f) {t e : TypeId} (ht : Tryz.prog.underlying t = some (.map 9 e)) {z : Value} (hz : (zeroValue e).run Tryz.prog w = .ok z w) (s : ByteArray) (hs : ¬ okS s) :
    (Instr.lookup t (.map (some b)) (.string s) false).run Tryz.prog w = .ok z w := by
  obtain ⟨D, ⟨es, clock, hb, F, _, rfl⟩, _⟩ := h
  have hk : ∀ e ∈ es.toList, ∃ x : List UInt8, e.key = encStr x ∧ x.length ≤ maxLen := fun e he => by
    obtain ⟨l, hl⟩ := F.keys e he
    obtain ⟨x, hx, _, hlen⟩ := Maps.keyOf_str Tryz.underlying9 hl
    exact ⟨x, hx, hlen⟩
  have hf := find_long s hs es.toList 0 hk
  have hu := run_underlying (P := Tryz.prog) Tryz.underlying9 w
  have hc := MapKept.run_checkKey (P := Tryz.prog) Tryz.underlying9 (d := .string) (k := .string s) trivial es.isEmpty 9999 (w := w)
  have hfk : (Instr.findKey 9 (.string s) es.toList).run Tryz.prog w = .ok none w := by
    simp [Instr.findKey, hu, hf, Result.andThen]
  simp only [Instr.lookup, run_underlying ht, MapKept.run_getObj_map hb, Sem.run_bind, Sem.run_pure, Result.andThen_ok, hc, hfk, hz]
  simp
end Go.Proofs.YtonhmihmnkicdaaGreat
namespace Go.Proofs.YtonhmihmnkicdaaGreat
open Go.RowKit Go.Maps Go.Sort Go.Shelf
set_option linter.unusedVariables false
attribute [local go_sem] Oper.semAt_some
def bk (x : List UInt8) : ByteArray := ⟨x.toArray⟩
theorem bk_lit (x : List UInt8) : lStr (bk x) = .string x := by simp [lStr, bk]
theorem bk_of (k : ByteArray) : bk k.data.toList = k := by simp [bk]
theorem bk_size (x : List UInt8) : (bk x).size = x.length := by simp [bk, ByteArray.size]
/-- the entry that a lookup of a text tells -/
def atK (T : ByteArray → Option En) (x : List UInt8) : En := if okS (bk x) then (T (bk x)).getD en0 else en0
/-- those of these keys whose entries are in a volume -/
def selK (T : ByteArray → Option En) (id : Int) (l : List (List UInt8)) : List (List UInt8) := l.filter fun x => (atK T x).vol == id
theorem selK_snoc (T : ByteArray → Option En) (id : Int) (l : List (List UInt8)) (x : List UInt8) : selK T id (l ++ [x]) = selK T id l ++ if (atK T x).vol == id then [x] else [] := by
  unfold selK; rw [List.filter_append]; congr 1; by_cases h : ((atK T x).vol == id) = true <;> simp [List.filter, h]
theorem selK_len (T : ByteArray → Option En) (id : Int) (l : List (List UInt8)) : (selK T id l).length ≤ l.length := List.length_filter_le _ _
theorem IxAt.atK {B n : Nat} {w : World} {I : Ix} {X : FX} (h : IxAt B w I n X) (x : List UInt8) {W : World} (hb : Below w.heap.size w W) : (Instr.lookup 65 (.map (some I.mt)) (encStr x) false).run Tryz.prog W = .ok (enV (atK X.T x)) W := by
  unfold Proofs.YtonhmihmnkicdaaGreat.atK
  by_cases hk : okS (bk x)
  · rw [if_pos hk]
    have := (h.t.below hb).look1 ke_str Tryz.underlying65 (en_zero W) hk
    rw [en_get] at this
    exact this
  · rw [if_neg hk]
    exact look1_long (h.t.below hb) Tryz.underlying65 (en_zero W) (bk x) hk
theorem en_vol (x1 x5 : ByteArray) (x2 x3 x4 : Int) (W : World) : (Instr.field 38 (.agg #[.string x1, .int .i64 x2, .int .i64 x3, .int .i64 x4, .string x5]) 1).run Tryz.prog W = .ok (.int .i64 x2) W := by kernel_rfl
structure KI (T : ByteArray → Option En) (id : Int) (xb : Nat) (w : World) (pre : List (List UInt8)) (W : World) : Prop where
  bel : Below w.heap.size w W
  size : w.heap.size + 4 ≤ W.heap.size
  b0 : Boxed W w.heap.size 25 (.pointer (some ⟨xb, 0, none⟩))
  b1 : Boxed W (w.heap.size + 1) 3 (.int .i64 id)
  row : ∃ v, Boxed W (w.heap.size + 2) 23 v ∧ W.ownsRow (w.heap.size + 4) 9 1 v (selK T id pre).length ((selK T id pre).map encStr)
theorem ki_own (T : ByteArray → Option En) (id : Int) (xb : Nat) (w : World) : OwnFrom (w.heap.size + 4) (KI T id xb w) := fun pre W W' row h hg hr => by
  have hk : ∀ k, k < w.heap.size + 4 → W'.heap[k]? = W.heap[k]? := fun k hk => hg.block k (by have := h.size; omega) fun e => by have := (hr k e.symm).1; omega
  obtain ⟨v, h3, h4⟩ := h.row
  exact ⟨below_grown h.bel hg (fun r e => (hr r e).1) (by omega) h.size, Nat.le_trans h.size hg.size, (hk _ (by omega)).trans h.b0, (hk _ (by omega)).trans h.b1, v, (hk _ (by omega)).trans h3, own_kept h4 hg (fun r e => (hr r e).2)⟩
theorem ki_drew {T : ByteArray → Option En} {id : Int} {xb : Nat} {w : World} {pre : List (List UInt8)} {W : World} (h : KI T id xb w pre W) : KI T id xb w pre W.drew := by
  obtain ⟨v, h3, h4⟩ := h.row
  exact ⟨h.bel.trans ((Below.refl _ W).drew.mono h.bel.size), h.size, h.b0, h.b1, v, h3, row_keep h4 (fun _ _ => rfl)⟩
theorem ko_drew (W : World) : KeepsOthers W W.drew ∧ KeepsWalks W W.drew := by
  have h : KeepsOthers W W.drew := KeepsOthers.of_grownBy (grown_none ((Below.refl _ W).drew)) (fun j o ej hj => by cases ej)
  exact ⟨h, h.walks⟩
theorem ki_none {T : ByteArray → Option En} {id : Int} {xb : Nat} {w : World} {pre : List (List UInt8)} {W : World} (h : KI T id xb w pre W) {x : List UInt8} (hx : ((atK T x).vol == id) = false) : KI T id xb w (pre ++ [x]) W := by
  obtain ⟨v, h3, h4⟩ := h.row
  exact ⟨h.bel, h.size, h.b0, h.b1, v, h3, by rw [selK_snoc, hx]; simpa using h4⟩
theorem ki_push {T : ByteArray → Option En} {id : Int} {xb : Nat} {w : World} {pre : List (List UInt8)} {W w1 : World} (h : KI T id xb w pre W) {x : List UInt8} (hx : ((atK T x).vol == id) = true) {v v' : Value} {tmp : Obj} (hv : Boxed W (w.heap.size + 2) 23 v) (hr : W.ownsRow (w.heap.size + 4) 9 1 v (selK T id pre).length ((selK T id pre).map encStr))
    (hown : w1.ownsRow (w.heap.size + 4) 9 1 v' ((selK T id pre).length + 1) ((selK T id pre).map encStr ++ [encStr x])) (hgrow : (W.alloc tmp).grownBy w1 v.ownBlock) :
    w1.frozen? ⟨w.heap.size + 2, 0, none⟩ = false ∧ w1.cell? ⟨w.heap.size + 2, 0, none⟩ = some v ∧ KeepsOthers W (w1.setCell ⟨w.heap.size + 2, 0, none⟩ v') ∧ KeepsWalks W (w1.setCell ⟨w.heap.size + 2, 0, none⟩ v') ∧ KI T id xb w (pre ++ [x]) (w1.setCell ⟨w.heap.size + 2, 0, none⟩ v') := by
  obtain ⟨q1, q2, q3, q4⟩ := appd hv (by decide) hr hown hgrow
  have low : ∀ j, j < w.heap.size + 4 → j ≠ w.heap.size + 2 → (w1.setCell ⟨w.heap.size + 2, 0, none⟩ v').heap[j]? = W.heap[j]? := fun j hj h3 => q4.low hr h.size hj h3
  refine ⟨q1.frozen, q1.cell, q4.others, q4.others.walks, ⟨?_, Nat.le_trans h.size q4.size, (low _ (by omega) (by omega)).trans h.b0, (low _ (by omega) (by omega)).trans h.b1, v', q2, ?_⟩⟩
  · exact ⟨q4.os.trans h.bel.os, q4.tape.trans h.bel.tape, q4.output.trans h.bel.output, Nat.le_trans h.bel.size q4.size, fun j hj => (low j (by omega) (by omega)).trans (h.bel.block j hj)⟩
  · rw [selK_snoc, hx]
    simpa using q3
theorem stops_k {α : Type} {F : Fence} {n : Nat} {P : Program} {g : Nat} {lb : Array Value} {enc : α → Value} {S Sp : List α → Prop} {N : Nat} {w : World} (h : SeqStops F n P g lb enc S Sp N w) : SeqStopsK F n P g lb (fun x => #[enc x]) KeepsWalks S Sp N w :=
  fun l J Jx W hW hJ hJx hY h0 => h l J Jx W hW hJ hJx hY h0
theorem kstr_info : (Tryz.prog.info? 9).map (fun i => (i.zero, i.size, i.bytes)) = some (some (.string ByteArray.empty), 1, 16) := by kernel_rfl
def kW (w : World) (xb mt : Nat) (id : Int) : World := (((w.alloc (.cells #[.pointer (some ⟨xb, 0, none⟩)] 25)).alloc (.cells #[.int .i64 id] 3)).alloc (.cells #[.slice none 0 0] 23)).alloc (.cells #[.map (some mt)] 65)
theorem kW_size (w : World) (xb mt : Nat) (id : Int) : (kW w xb mt id).heap.size = w.heap.size + 4 := by unfold kW; simp only [World.size_alloc]
theorem kW_below (w : World) (xb mt : Nat) (id : Int) : Below w.heap.size w (kW w xb mt id) := by
  unfold kW
  exact ((((Below.refl _ w).alloc (Nat.le_refl _) _).alloc (by simp only [World.size_alloc]; omega) _).alloc (by simp only [World.size_alloc]; omega) _).alloc (by simp only [World.size_alloc]; omega) _
theorem kW_3 (w : World) (xb mt : Nat) (id : Int) : (kW w xb mt id).cell? ⟨w.heap.size + 3, 0, none⟩ = some (.map (some mt)) := by
  unfold kW; exact cell_of_block (c := #[.map (some mt)]) (new_at _ _ (by simp only [World.size_alloc]))
theorem ki_start (T : ByteArray → Option En) (id : Int) (xb mt : Nat) (w : World) : KI T id xb w [] (kW w xb mt id) :=
  ⟨kW_below _ _ _ _, by rw [kW_size]; exact Nat.le_refl _, by unfold kW; exact old_at _ (old_at _ (old_at _ (new_at w _ rfl))), by unfold kW; exact old_at _ (old_at _ (new_at _ _ (by simp only [World.size_alloc]))), _, by unfold kW; exact old_at _ (new_at _ _ (by simp only [World.size_alloc])), World.ownsRow_nil _ _ _ _⟩
/-- what keysIn leaves -/
def KeysIn (X : FX) (id : Int) (n : Nat) (w : World) (e : Ending) (w' : World) : Prop :=
  ∃ (v : Value) (ks : List (List UInt8)), e = .returned v ∧ w'.ownsRow w.heap.size 9 1 v ks.length (ks.map encStr) ∧ ks.length ≤ n ∧ ks.Nodup ∧ (∀ k : ByteArray, k.data.toList ∈ ks ↔ okS k ∧ ∃ e, X.T k = some e ∧ e.vol = id) ∧ Below w.heap.size w w'
theorem own_mono2 {W : World} {B B' z n : Nat} {e : TypeId} {v : Value} {xs : List Value} (h : W.ownsRow B e z v n xs) (hb : B' ≤ B) : W.ownsRow B' e z v n xs := by
  obtain ⟨hl, ⟨rfl, rfl⟩ | ⟨g, cap, cur, rfl, hB, hg, hc, hm, hs, ht⟩⟩ := h
  · exact ⟨hl, .inl ⟨rfl, rfl⟩⟩
  · exact ⟨hl, .inr ⟨g, cap, cur, rfl, by omega, hg, hc, hm, hs, ht⟩⟩
theorem str_nodup {w : World} {b n : Nat} {D0 : DataW Value} (hown : w.ownsMap Tryz.prog 9 hv b n D0) : (strKeys D0).Nodup := by
  obtain ⟨es, hD, hpw, _⟩ := hown.entries ke_str.keyed
  obtain ⟨es', hD', hko⟩ := hown.keysOf
  obtain rfl : es = es' := by rw [hD] at hD'; simpa using hD'
  subst hD
  show (es.map fun p => strOf p.1).Nodup
  refine List.pairwise_map.2 (hpw.imp_of_mem fun {p q} hp' hq' hne e => hne ?_)
  obtain ⟨v1, h1⟩ := hko p hp'
  obtain ⟨v2, h2⟩ := hko q hq'
  obtain ⟨x1, _, e1, _⟩ := Maps.keyOf_str Tryz.underlying9 h1
  obtain ⟨x2, _, e2, _⟩ := Maps.keyOf_str Tryz.underlying9 h2
  rw [e1, e2] at e ⊢
  exact congrArg _ e
theorem keys_end {X : FX} {id : Int} {n xb : Nat} {w W : World} {D0 : DataW Value} {ys : List (List UInt8)} (hH : ∀ k : ByteArray, okS k → has D0 (lStr k) = (X.T k).isSome) (hle : ∀ x ∈ strKeys D0, x.length ≤ maxLen) (hlen : (strKeys D0).length ≤ n) (hnd : (strKeys D0).Nodup) (hp : ys.Perm (strKeys D0)) (hm : ∀ x, x ∈ ys ↔ has D0 (.string x) = true) (hI : KI X.T id xb w ys W) {Dd : Nat} (hD : w.heap.size + 4 ≤ Dd) (hK : W.heap[Dd]? = some (.deferred (some []))) :
    ∃ v, Boxed W (w.heap.size + 2) 23 v ∧ KeysIn X id n w (.returned v) (W.putObj Dd (.deferred none)) := by
  obtain ⟨v, hv, hr⟩ := hI.row
  refine ⟨v, hv, v, selK X.T id ys, rfl, own_mono2 (own_same hr fun g cur t fr hg hc => World.putObj_heap_other fun e => by rw [e, hK] at hc; cases hc) (by omega), by have := selK_len X.T id ys; have := hp.length_eq; omega, ((hp.nodup_iff).2 hnd).filter _, fun k => ?_, ⟨hI.bel.os, hI.bel.tape, hI.bel.output, by simpa using hI.bel.size, fun j hj => (World.putObj_heap_other (by omega)).trans (hI.bel.block j hj)⟩⟩
  have hsz : k.data.toList.length = k.size := by rw [Array.length_toList]; rfl
  unfold selK
  rw [List.mem_filter]
  constructor
  · rintro ⟨h1, h2⟩
    have hok : okS k := by
      have := hle _ (hp.mem_iff.1 h1)
      rw [hsz] at this
      exact this
    have h3 := (hm _).1 h1
    have h4 := hH k hok
    rw [show lStr k = .string k.data.toList from rfl, h3] at h4
    unfold atK at h2
    rw [bk_of, if_pos hok] at h2
    cases hT : X.T k with
    | none => rw [hT] at h4; cases h4
    | some e => rw [hT] at h2; exact ⟨hok, e, rfl, by simpa using h2⟩
  · rintro ⟨hok, e, hT, he⟩
    refine ⟨(hm _).2 ?_, ?_⟩
    · have h4 := hH k hok
      rw [hT] at h4
      exact h4
    · unfold atK
      rw [bk_of, if_pos hok, hT]
      simpa using he
set_option maxRecDepth 100000 in
set_option maxHeartbeats 16000000 in
theorem ix_keysIn {B n : Nat} {I : Ix} {X : FX} {w : World} (h : IxAt B w I n X) (hn : n ≤ 1000000) (id : Int) : Calls Tryz.prog 70 #[.pointer (some ⟨I.xb, 0, none⟩), .int .i64 id] w (KeysIn X id n w) := by
  obtain ⟨D0, hown, hat⟩ := h.t
  have HX := hide h
  have hHas : ∀ k : ByteArray, okS k → has D0 (lStr k) = (X.T k).isSome := fun k hk => by
    have := MAt.has hown ke_str.keyed Tryz.underlying65 (en_zero w) (ke_str.key k hk) (hat k hk)
    rw [this]; show ((X.T k).map enV).isSome = _; cases X.T k <;> rfl
  have HH := hide hHas
  have HD := hide hown.size_le
  have HLe := hide (strKeys_le hown Tryz.underlying9)
  have HLen : Hid ((strKeys D0).length ≤ n) := by
    have q := hown.size_le
    obtain ⟨es, rfl, _⟩ := hown.keysOf
    show (strKeys (DataW.map es)).length ≤ n
    simp only [strKeys, List.length_map]
    exact q
  have HNd : Hid (strKeys D0).Nodup := str_nodup hown
  have hc0 := h.cells.1
  have hze := en_zero
  have hb0 := kW_below w I.xb I.mt id
  have hseq : SeqStops Fence.wide 4 Tryz.prog 86 #[.pointer (some ⟨w.heap.size + 3, 0, none⟩)] encStr (fun ss => ss.Perm (strKeys D0) ∧ ∀ x, x ∈ ss ↔ has D0 (.string x) = true) (fun pre => pre.Nodup ∧ ∀ x ∈ pre, has D0 (.string x) = true) (Maps.size D0) (kW w I.xb I.mt id) :=
    AnyZ.keys_stops (ρ := Tryz.keysE_ren) { Tryz.keysE with } Fence.wide _ trivial rfl (by omega) (w.heap.size + 3) I.mt n D0 (R := hv) _ (by rw [kW_size]; omega) (kW_3 _ _ _ _) (by
      obtain ⟨es, clock, hb, Ft, hs, hD⟩ := hown
      exact ⟨es, clock, (hb0.block _ (lt_of_block hb)).trans hb, Ft, hs, hD⟩)
  have cK : ∀ mb W, CallsIn Fence.wide 4 Tryz.prog 75 #[.map mb] W fun e w' => e = .returned (.func (.func 86) #[] #[.pointer (some ⟨W.heap.size, 0, none⟩)]) ∧ w' = W.alloc (.cells #[.map mb] 65) := fun mb W => AnyZ.keys_in Tryz.keysE Fence.wide 4 trivial rfl mb W
  obtain ⟨i0, hi0, hz0, hz1, hz2⟩ := info_parts kstr_info
  have hc3 : (((w.alloc (.cells #[.pointer (some ⟨I.xb, 0, none⟩)] 25)).alloc (.cells #[.int .i64 id] 3)).alloc (.cells #[.slice none 0 0] 23)).cell? ⟨I.xb, 0, none⟩ = some (.map (some I.mt)) :=
    ((((Below.refl _ w).alloc (Nat.le_refl _) _).alloc (by simp only [World.size_alloc]; omega) _).alloc (by simp only [World.size_alloc]; omega) _).cell (p := ⟨I.xb, 0, none⟩) (h.lt (.inl rfl)) |>.trans h.cells.1
  clear hc0
  clear hHas
  clear hat hown h
  refine (callsIn_wide (n := 5)).1 ?_
  refine callsIn_of_wp_marks Tryz.func70 rfl trivial ?_ rfl
  simp only [Tryz.ntmps70, List.size_toArray, List.length_cons, List.length_nil, Nat.reduceAdd, Nat.reduceSub, Array.replicate_succ, Array.replicate_zero, List.push_toArray, List.append_toArray, List.nil_append, List.cons_append]
  have hfK : Fence.wide.fn 75 := trivial
  gi_wp2_with (first | (refine ⟨trivial, ?_⟩; gi_at_call 75; refine (cK _ _).mono ?_; rintro e w' ⟨rfl, rfl⟩) | (gi_at_call 75; refine (cK _ _).mono ?_; rintro e w' ⟨rfl, rfl⟩))
  rw [show (((w.alloc (.cells #[.pointer (some ⟨I.xb, 0, none⟩)] 25)).alloc (.cells #[.int .i64 id] 3)).alloc (.cells #[.slice none 0 0] 23)).alloc (.cells #[.map (some I.mt)] 65) = kW w I.xb I.mt id from rfl]
  have hsz := kW_size w I.xb I.mt id
  refine wpIn_rangeFunc_ownF (n := 5) (F := Fence.wide) rfl (by omega) (gf := 86) (lb := #[.pointer (some ⟨w.heap.size + 3, 0, none⟩)]) rfl trivial (enters_of Tryz.func86 (by kernel_rfl) rfl)
    (stops_k hseq) walksK_t (fun W l o o' hl => walksK_b W l o o' hl) (Below.refl _ _) (fun _ => rfl) (KI X.T id I.xb w) (fun _ _ _ => False)
    (by have := ki_own X.T id I.xb w; rw [hsz]; exact this) (fun _ _ _ _ _ h _ _ => h) (ki_start _ _ _ _ _) ?a1 ?assign ?body ?done ?stop
  case assign =>
    intro l x W K hK
    gi_wp2
    exact hK
  case body =>
    rintro lp pre x W hI0 hlt
    have hI := ki_drew hI0
    obtain ⟨ho, hw⟩ := ko_drew W
    have HO := hide ho
    have HW := hide hw
    obtain ⟨v, hv, hr⟩ := hI.row
    have hWs := hI.size
    have c0 := hI.b0.cell
    have c1 := hI.b1.cell
    have cx := (HX.out.below hI.bel).cells.1
    have hl := HX.out.atK x hI.bel
    have HLN := hide (selK_len X.T id pre)
    have hNone := fun q => ki_none (x := x) hI q
    have HPush := hide (fun (w1 : World) (v' : Value) (tmp : Obj) q => ki_push (w1 := w1) (v' := v') (tmp := tmp) hI (x := x) q hv hr)
    have hc := hv.cell
    have HR := hide hr
    have hdm := HD.out
    clear hI0 hI hv hr ho hw
    generalize hae : atK X.T x = ex at *
    obtain ⟨x1, x2, x3, x4, x5⟩ := ex
    have hfl := en_vol x1 x5 x2 x3 x4
    simp only [enV] at hl
    simp only at hNone
    by_cases hid : x2 = id
    · have q1 : (x2 == id) = true := by simpa using hid
      have HP := hide (fun (w1 : World) (v' : Value) (tmp : Obj) => HPush.out w1 v' tmp q1)
      clear hid HPush hNone hae
      gi_wp2
      gi_region_with fail
      all_goals
        generalize W.drew = Wd at *
        gi_wp2_with (first | (gi_at_builtin; refine wpListIn_append_own _ rfl (.tmp 22) (.tmp 24) 23 rfl (w.heap.size + 4) 9 i0 (.string ByteArray.empty) 1 16 Tryz.underlying23 hi0 hz0 hz1 hz2 rfl (by decide) _ _ _ rfl (HR.out.alloc _) ⟨Wd.heap.size, 0, none⟩ 1 1 [encStr x] rfl rfl (cell_one_new _ _ _) (by simp [Value.oneCell']) (by have := HLN.out; unfold maxLen; omega) (by have := HLN.out; omega) (by rw [World.size_alloc]; omega) ?_; intro v' w1 hown' hgrow hn'; clear hn'; obtain ⟨g', cap', rfl⟩ := ownsRow_succ hown'; obtain ⟨hf1, hc1, r1, r2, r3⟩ := HP.out _ _ _ hown' hgrow; have HQ := hide (And.intro r1 (And.intro r2 r3)); clear hown' hgrow r1 r2 r3))
        exact ⟨HO.out.trans HQ.out.1, HW.out.trans HQ.out.2.1, HQ.out.2.2⟩
    · have q1 : (x2 == id) = false := by simpa using hid
      have HN := hide (hNone q1)
      clear hid HPush hNone hae
      gi_wp2
      gi_region_with fail
      all_goals
        gi_wp2
        exact ⟨HO.out, HW.out, HN.out⟩
  case done =>
    rintro Dd ys W hD ⟨hp, hm⟩ hI hK
    rw [hsz] at hD
    obtain ⟨v, hv, hend⟩ := keys_end HH.out HLe.out HLen.out HNd.out hp hm hI hD hK
    have hc := hv.cell
    have HK := hide hK
    have HE := hide hend
    clear hI hK hend hv hp hm
    gi_wp2
    refine ⟨by simp, .inl ⟨_, _, rfl, run_takeDeferred HK.out, ?_⟩⟩
    refine ⟨_, results_tmp rfl _ _ _, ?_⟩
    show KeysIn X id n w (.returned v) (W.putObj Dd (.deferred none))
    exact HE.out
  case stop =>
    rintro Dd cc pre W hD _ h _
    exact h.elim
end Go.Proofs.YtonhmihmnkicdaaGreat
