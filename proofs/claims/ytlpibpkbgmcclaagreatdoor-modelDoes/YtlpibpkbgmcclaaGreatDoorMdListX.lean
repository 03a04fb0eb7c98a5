/- Which keys of a map a list tells; they are told in order. (Written by genml.py.) What list of a model answers: the keys that are there from one on, rising, and no more than sixteen. (Written by genml2.py.) -/
import Derived.Test.YtlpibpkbgmcclaaGreatDoorMdMemX
import Derived.Test.YtlpibpkbgmcclaaGreatDoorMdSmallX
import Derived.Test.YtlpibpkbgmcclaaGreatDoorIter
import Derived.Test.YtlpibpkbgmcclaaGreatDoorShelf
import Derived.Test.YtlpibpkbgmcclaaGreatDoorRowX
import Derived.RangeFuncFrom
import Derived.Shelf.SlIter.Stops
import Derived.Sort.OwnSorted
namespace Go.Proofs.YtlpibpkbgmcclaaGreatDoor
open Go.RowKit Go.Maps Go.Sort Go.Shelf
set_option linter.unusedVariables false
def bk (x : List UInt8) : ByteArray := ⟨x.toArray⟩
theorem bk_lit (x : List UInt8) : lStr (bk x) = .string x := by simp [lStr, bk]
theorem bk_of (k : ByteArray) : bk k.data.toList = k := by simp [bk]
theorem bk_size (x : List UInt8) : (bk x).size = x.length := by simp [bk, ByteArray.size]
/-- what a lookup of a text tells -/
def atM (T : MT) (x : List UInt8) : Hd := if okS (bk x) then (T (bk x)).getD hd0 else hd0
theorem MdAt.atM {n xb b : Nat} {w : World} {T : MT} (h : MdAt w xb b n T) (x : List UInt8) {W : World} (hb : Below w.heap.size w W) : (Instr.lookup 42 (.map (some b)) (encStr x) false).run Tryz.prog W = .ok (hdV (atM T x)) W := by
  unfold Proofs.YtlpibpkbgmcclaaGreatDoor.atM
  by_cases hk : okS (bk x)
  · rw [if_pos hk]
    have := (h.m.below hb).look1 ke_str Tryz.underlying42 (hd_zero W) hk
    rw [hd_get] at this
    exact this
  · rw [if_neg hk]
    exact look1_long (h.m.below hb) Tryz.underlying42 (hd_zero W) (bk x) hk
theorem hd_gone (v : ByteArray) (g : Bool) (W : World) : (Instr.field 65 (.agg #[.string v, .bool g]) 1).run Tryz.prog W = .ok (.bool g) W := by kernel_rfl
theorem stops_k {α : Type} {F : Fence} {n : Nat} {P : Program} {g : Nat} {lb : Array Value} {enc : α → Value} {S Sp : List α → Prop} {N : Nat} {w : World} (h : SeqStops F n P g lb enc S Sp N w) : SeqStopsK F n P g lb (fun x => #[enc x]) KeepsWalks S Sp N w :=
  fun l J Jx W hW hJ hJx hY h0 => h l J Jx W hW hJ hJx hY h0
theorem kstr_info : (Tryz.prog.info? 9).map (fun i => (i.zero, i.size, i.bytes)) = some (some (.string ByteArray.empty), 1, 16) := by kernel_rfl
theorem own_mono2 {W : World} {B B' z n : Nat} {e : TypeId} {v : Value} {xs : List Value} (h : W.ownsRow B e z v n xs) (hb : B' ≤ B) : W.ownsRow B' e z v n xs := by
  obtain ⟨hl, ⟨rfl, rfl⟩ | ⟨g, cap, cur, rfl, hB, hg, hc, hm, hs, ht⟩⟩ := h
  · exact ⟨hl, .inl ⟨rfl, rfl⟩⟩
  · exact ⟨hl, .inr ⟨g, cap, cur, rfl, by omega, hg, hc, hm, hs, ht⟩⟩
theorem str_nodup {w : World} {b n : Nat} {D0 : DataW Value} (hown : w.ownsMap Tryz.prog 9 hv b n D0) : (strKeys D0).Nodup := by
  obtain ⟨es, hD, hpw, _⟩ := hown.entries ke_str.keyed
  obtain ⟨es', hD', hko⟩ := hown.keysOf
  obtain rfl : es = es' := by rw [hD] at hD'; simpa using hD'
  subst hD
  show (es.map fun p => strOf p.1).Nodup
  refine List.pairwise_map.2 (hpw.imp_of_mem fun {p q} hp' hq' hne e => hne ?_)
  obtain ⟨v1, h1⟩ := hko p hp'
  obtain ⟨v2, h2⟩ := hko q hq'
  obtain ⟨x1, _, e1, _⟩ := Maps.keyOf_str Tryz.underlying9 h1
  obtain ⟨x2, _, e2, _⟩ := Maps.keyOf_str Tryz.underlying9 h2
  rw [e1, e2] at e ⊢
  exact congrArg _ e
/-- a key is not below another one -/
def notB (fr : ByteArray) (x : List UInt8) : Bool := !(Op.bytesLess x fr.toList)
theorem notB_lt (fr : ByteArray) (x : List UInt8) : notB fr x = true ↔ ¬ x < fr.data.toList := by
  unfold notB
  rw [bytesLess_eq, Lib.toList_data]
  simp
/-- is a key told? -/
def selB (T : MT) (fr : ByteArray) (x : List UInt8) : Bool := notB fr x && !(atM T x).g
def selM (T : MT) (fr : ByteArray) (l : List (List UInt8)) : List (List UInt8) := l.filter (selB T fr)
theorem selM_snoc (T : MT) (fr : ByteArray) (l : List (List UInt8)) (x : List UInt8) : selM T fr (l ++ [x]) = selM T fr l ++ if selB T fr x = true then [x] else [] := by
  unfold selM; rw [List.filter_append]; congr 1; by_cases h : selB T fr x = true <;> simp [List.filter, h]
theorem selM_len (T : MT) (fr : ByteArray) (l : List (List UInt8)) : (selM T fr l).length ≤ l.length := List.length_filter_le _ _
theorem ok_okS {T : MT} (h : T.Ok) {k : ByteArray} (hs : (T k).isSome = true) : okS k := by
  cases hT : T k with
  | none => rw [hT] at hs; cases hs
  | some y => exact (show okS k by have := (h k y hT).1.2.1; unfold okS Go.maxLen; omega)
theorem bk_data (x : List UInt8) : (bk x).data.toList = x := by simp [bk]
theorem sort_rising {P : ByteArray → Prop} {l : List (List UInt8)} (hnd : l.Nodup) (hm : ∀ x, x ∈ l ↔ P (bk x)) : Rising P ((l.mergeSort fun x y => decide (x ≤ y)).map bk) := by
  have hperm := List.mergeSort_perm l (fun x y => decide (x ≤ y))
  have hsort : (l.mergeSort fun x y => decide (x ≤ y)).Pairwise (fun x y => decide (x ≤ y) = true) := List.pairwise_mergeSort (fun a b c h1 h2 => by simp at *; exact List.le_trans h1 h2) (fun a b => by simpa using List.le_total a b) _
  have hnod : (l.mergeSort fun x y => decide (x ≤ y)).Nodup := (hperm.nodup_iff).2 hnd
  refine ⟨List.pairwise_map.2 ?_, fun k => ?_⟩
  · refine (hsort.and hnod).imp fun {a b} hab => ?_
    obtain ⟨h1, h2⟩ := hab
    have h1 : a ≤ b := by simpa using h1
    show (bk a).data.toList < (bk b).data.toList
    rw [bk_data, bk_data]
    by_cases q : a < b
    · exact q
    · exact absurd (List.le_antisymm h1 (List.not_lt.1 q)) h2
  · rw [List.mem_map]
    constructor
    · rintro ⟨x, hx, rfl⟩
      exact (hm x).1 ((hperm.mem_iff).1 hx)
    · intro hP
      exact ⟨k.data.toList, (hperm.mem_iff).2 ((hm _).2 (by rw [bk_of]; exact hP)), bk_of k⟩
/-- keys of the map as they come -/
structure Came1 (T : MT) (D0 : DataW Value) (n : Nat) : Prop where
  has : ∀ k : ByteArray, okS k → has D0 (lStr k) = (T k).isSome
  le : ∀ x ∈ strKeys D0, x.length ≤ maxLen
  len : (strKeys D0).length ≤ n
  nd : (strKeys D0).Nodup
theorem sorted_m {T : MT} {fr : ByteArray} {D0 : DataW Value} {n : Nat} {ys : List (List UInt8)} (hT : T.Ok) (h : Came1 T D0 n) (hp : ys.Perm (strKeys D0)) (hm : ∀ x, x ∈ ys ↔ Maps.has D0 (.string x) = true) :
    Rising (fun k => (T.val k).isSome = true ∧ ¬ k.data.toList < fr.data.toList) (((selM T fr ys).mergeSort fun x y => decide (x ≤ y)).map bk) := by
  refine sort_rising (((hp.nodup_iff).2 h.nd).filter _) fun x => ?_
  unfold selM
  rw [List.mem_filter]
  have hv : ∀ k, (T.val k).isSome = true ↔ ∃ y, T k = some y ∧ y.g = false := fun k => by
    unfold MT.val
    cases T k with
    | none => simp
    | some y => obtain ⟨a, g⟩ := y; cases g <;> simp
  constructor
  · rintro ⟨h1, h2⟩
    have hok : okS (bk x) := by
      have := h.le _ (hp.mem_iff.1 h1)
      show (bk x).size ≤ _
      rw [bk_size]; exact this
    unfold selB at h2
    rw [Bool.and_eq_true] at h2
    have hs : (T (bk x)).isSome = true := by rw [← h.has _ hok, bk_lit]; exact (hm _).1 h1
    refine ⟨(hv _).2 ?_, by rw [bk_data]; exact (notB_lt fr x).1 h2.1⟩
    have h3 := h2.2
    unfold atM at h3
    rw [if_pos hok] at h3
    cases hq : T (bk x) with
    | none => rw [hq] at hs; cases hs
    | some y => rw [hq] at h3; exact ⟨y, rfl, by simpa using h3⟩
  · rintro ⟨h1, h2⟩
    obtain ⟨y, hy, hg⟩ := (hv _).1 h1
    have hok : okS (bk x) := ok_okS hT (by rw [hy]; rfl)
    refine ⟨(hm _).2 ?_, ?_⟩
    · have := h.has _ hok
      rw [bk_lit, hy] at this
      exact this
    · unfold selB
      rw [Bool.and_eq_true]
      refine ⟨(notB_lt fr x).2 (by rw [bk_data] at h2; exact h2), ?_⟩
      unfold atM
      rw [if_pos hok, hy]
      simp [hg]
theorem MdAt.came {w : World} {x b n : Nat} {T : MT} (h : MdAt w x b n T) : ∃ D0, w.ownsMap Tryz.prog 9 hv b n D0 ∧ Came1 T D0 n := by
  obtain ⟨D0, hown, hat⟩ := h.m
  refine ⟨D0, hown, ⟨fun k hk => ?_, strKeys_le hown Tryz.underlying9, ?_, str_nodup hown⟩⟩
  · have := MAt.has hown ke_str.keyed Tryz.underlying42 (hd_zero w) (ke_str.key k hk) (hat k hk)
    rw [this]; exact hd_some _
  · have q := hown.size_le
    obtain ⟨es, rfl, _⟩ := hown.keysOf
    show (strKeys (DataW.map es)).length ≤ n
    simp only [strKeys, List.length_map]
    exact q
theorem strs_row {W : World} {B g m cap : Nat} {A : List (List UInt8)} (h : W.ownsRow B 9 1 (.slice (some ⟨g, 0, none⟩) m cap) m (A.map encStr)) (hm : A.length = m) (hp : 0 < m) (k : Nat) : StrsAt W (some ⟨g, 0, none⟩) ((A.map bk).take k) := by
  refine .inr ⟨g, 0, rfl, ?_, fun i s hs => ?_⟩
  · rcases h.2 with ⟨hv, _⟩ | ⟨g', cap', cur, hv, _, hg, _⟩
    · cases hv
    · cases hv; exact lt_of_block hg
  · rw [List.getElem?_take] at hs
    split at hs
    · rw [List.getElem?_map] at hs
      cases hA : A[i]? with
      | none => rw [hA] at hs; cases hs
      | some x =>
        rw [hA] at hs
        simp at hs
        have hi : i < A.length := (List.getElem?_eq_some_iff.1 hA).1
        rw [Nat.zero_add, h.cellAt i (by omega), List.getElem?_map, hA]
        show some (encStr x) = _
        rw [← hs]
        rfl
    · cases hs
end Go.Proofs.YtlpibpkbgmcclaaGreatDoor
namespace Go.Proofs.YtlpibpkbgmcclaaGreatDoor
open Go.RowKit Go.Maps Go.Sort Go.Shelf
set_option linter.unusedVariables false
attribute [local go_sem] Oper.semAt_some
structure LI (T : MT) (fr : ByteArray) (xb : Nat) (d : Int) (v : ByteArray) (w : World) (pre : List (List UInt8)) (W : World) : Prop where
  bel : Below w.heap.size w W
  size : w.heap.size + 5 ≤ W.heap.size
  b0 : Boxed W w.heap.size 24 (.pointer (some ⟨xb, 0, none⟩))
  rq : W.heap[w.heap.size + 1]? = some (.cells #[.int .i64 d, .string fr, .string v] 32 (0, 0))
  rs : RsB (w.heap.size + 2) 0 ⟨#[]⟩ none 0 0 W
  row : ∃ v, Boxed W (w.heap.size + 3) 35 v ∧ W.ownsRow (w.heap.size + 5) 9 1 v (selM T fr pre).length ((selM T fr pre).map encStr)
section
variable {T : MT} {fr : ByteArray} {xb : Nat} {d : Int} {v : ByteArray} {w : World}
theorem li_own (T : MT) (fr : ByteArray) (xb : Nat) (d : Int) (v : ByteArray) (w : World) : OwnFrom (w.heap.size + 5) (LI T fr xb d v w) := fun pre W W' row h hg hr => by
  have hk : ∀ k, k < w.heap.size + 5 → W'.heap[k]? = W.heap[k]? := fun k hk => hg.block k (by have := h.size; omega) fun e => by have := (hr k e.symm).1; omega
  obtain ⟨v, h3, h4⟩ := h.row
  exact ⟨below_grown h.bel hg (fun r e => (hr r e).1) (by omega) h.size, Nat.le_trans h.size hg.size, (hk _ (by omega)).trans h.b0, (hk _ (by omega)).trans h.rq, (hk _ (by omega)).trans h.rs, v, (hk _ (by omega)).trans h3, own_kept h4 hg (fun r e => (hr r e).2)⟩
theorem li_none {pre : List (List UInt8)} {W : World} (h : LI T fr xb d v w pre W) {x : List UInt8} (hx : selB T fr x = false) : LI T fr xb d v w (pre ++ [x]) W := by
  obtain ⟨v, h3, h4⟩ := h.row
  exact ⟨h.bel, h.size, h.b0, h.rq, h.rs, v, h3, by rw [selM_snoc, hx]; simpa using h4⟩
theorem li_push {pre : List (List UInt8)} {W w1 : World} (h : LI T fr xb d v w pre W) {x : List UInt8} (hx : selB T fr x = true) {u u' : Value} {tmp : Obj} (hv : Boxed W (w.heap.size + 3) 35 u) (hr : W.ownsRow (w.heap.size + 5) 9 1 u (selM T fr pre).length ((selM T fr pre).map encStr))
    (hown : w1.ownsRow (w.heap.size + 5) 9 1 u' ((selM T fr pre).length + 1) ((selM T fr pre).map encStr ++ [encStr x])) (hgrow : (W.alloc tmp).grownBy w1 u.ownBlock) :
    w1.frozen? ⟨w.heap.size + 3, 0, none⟩ = false ∧ w1.cell? ⟨w.heap.size + 3, 0, none⟩ = some u ∧ KeepsOthers W (w1.setCell ⟨w.heap.size + 3, 0, none⟩ u') ∧ KeepsWalks W (w1.setCell ⟨w.heap.size + 3, 0, none⟩ u') ∧ LI T fr xb d v w (pre ++ [x]) (w1.setCell ⟨w.heap.size + 3, 0, none⟩ u') := by
  obtain ⟨q1, q2, q3, q4⟩ := appd hv (by decide) hr hown hgrow
  have low : ∀ j, j < w.heap.size + 5 → j ≠ w.heap.size + 3 → (w1.setCell ⟨w.heap.size + 3, 0, none⟩ u').heap[j]? = W.heap[j]? := fun j hj h3 => q4.low hr h.size hj h3
  refine ⟨q1.frozen, q1.cell, q4.others, q4.others.walks, ⟨?_, Nat.le_trans h.size q4.size, (low _ (by omega) (by omega)).trans h.b0, (low _ (by omega) (by omega)).trans h.rq, (low _ (by omega) (by omega)).trans h.rs, u', q2, ?_⟩⟩
  · exact ⟨q4.os.trans h.bel.os, q4.tape.trans h.bel.tape, q4.output.trans h.bel.output, Nat.le_trans h.bel.size q4.size, fun j hj => (low j (by omega) (by omega)).trans (h.bel.block j hj)⟩
  · rw [selM_snoc, hx]
    simpa using q3
end
theorem ko_refl (W : World) : KeepsOthers W W ∧ KeepsWalks W W := by
  have h : KeepsOthers W W := KeepsOthers.of_grownBy (grown_none (Below.refl _ W)) (fun j o ej hj => by cases ej)
  exact ⟨h, h.walks⟩
def lW (w : World) (xb b : Nat) (d : Int) (fr v : ByteArray) : World := ((((w.alloc (.cells #[.pointer (some ⟨xb, 0, none⟩)] 24)).alloc (.cells #[.int .i64 d, .string fr, .string v] 32)).alloc (.cells #[.int .i64 0, .string ⟨#[]⟩, .slice none 0 0] 37)).alloc (.cells #[.slice none 0 0] 35)).alloc (.cells #[.map (some b)] 42)
theorem lW_size (w : World) (xb b : Nat) (d : Int) (fr v : ByteArray) : (lW w xb b d fr v).heap.size = w.heap.size + 5 := by unfold lW; simp only [World.size_alloc]
theorem lW_below (w : World) (xb b : Nat) (d : Int) (fr v : ByteArray) : Below w.heap.size w (lW w xb b d fr v) := by
  unfold lW
  exact (((((Below.refl _ w).alloc (Nat.le_refl _) _).alloc (by simp only [World.size_alloc]; omega) _).alloc (by simp only [World.size_alloc]; omega) _).alloc (by simp only [World.size_alloc]; omega) _).alloc (by simp only [World.size_alloc]; omega) _
theorem lW_4 (w : World) (xb b : Nat) (d : Int) (fr v : ByteArray) : (lW w xb b d fr v).cell? ⟨w.heap.size + 4, 0, none⟩ = some (.map (some b)) := by
  unfold lW; exact cell_of_block (c := #[.map (some b)]) (new_at _ _ (by simp only [World.size_alloc]))
theorem li_start (T : MT) (fr : ByteArray) (xb b : Nat) (d : Int) (v : ByteArray) (w : World) : LI T fr xb d v w [] (lW w xb b d fr v) :=
  ⟨lW_below _ _ _ _ _ _, by rw [lW_size]; exact Nat.le_refl _, by unfold lW; exact old_at _ (old_at _ (old_at _ (old_at _ (new_at w _ rfl)))), by unfold lW; exact old_at _ (old_at _ (old_at _ (new_at _ _ (by simp only [World.size_alloc])))), by unfold lW; exact old_at _ (old_at _ (new_at _ _ (by simp only [World.size_alloc]))), _, by unfold lW; exact old_at _ (new_at _ _ (by simp only [World.size_alloc])), World.ownsRow_nil _ _ _ _⟩
theorem rs_set3 {g : Nat} {c : Int} {v : ByteArray} {a : Option Addr} {n p : Nat} {W : World} (h : RsB g c v a n p W) (c' : Int) (v' : ByteArray) (a' : Option Addr) (n' p' : Nat) : RsB g c' v' a' n' p' (((W.setCell ⟨g, 0, none⟩ (.int .i64 c')).setCell ⟨g, 1, none⟩ (.string v')).setCell ⟨g, 2, none⟩ (.slice a' n' p')) :=
  block_setCell (i := 2) (.slice a' n' p') (block_setCell (i := 1) (.string v') (block_setCell (i := 0) (.int .i64 c') h))
theorem set3_other {g i : Nat} {W : World} (hn : i ≠ g) (x y z : Value) : (((W.setCell ⟨g, 0, none⟩ x).setCell ⟨g, 1, none⟩ y).setCell ⟨g, 2, none⟩ z).heap[i]? = W.heap[i]? :=
  (Below.heap_setCell _ _ _ _ hn).trans ((Below.heap_setCell _ _ _ _ hn).trans (Below.heap_setCell _ _ _ _ hn))
theorem set3_below {B g : Nat} {w0 W : World} (h : Below B w0 W) (hg : B ≤ g) (x y z : Value) : Below B w0 (((W.setCell ⟨g, 0, none⟩ x).setCell ⟨g, 1, none⟩ y).setCell ⟨g, 2, none⟩ z) :=
  ((h.setCell (p := ⟨g, 0, none⟩) hg x).setCell (p := ⟨g, 1, none⟩) hg y).setCell (p := ⟨g, 2, none⟩) hg z
/-- what list leaves -/
structure DidL (T : MT) (k : ByteArray) (w : World) (e : Ending) (w' : World) : Prop where
  ex : ∃ a c L, e = .returned (.agg (rsC 0 ByteArray.empty a L.length c)) ∧ L.length ≤ c ∧ L.length ≤ 16 ∧ StrsAt w' a L ∧ (∃ A, Rising (fun q => (T.val q).isSome = true ∧ ¬ q.data.toList < k.data.toList) A ∧ L = A.take 16) ∧ (a = none → c = 0) ∧ ∀ p, a = some p → w.heap.size ≤ p.block
  b : Below w.heap.size w w'
set_option maxRecDepth 100000 in
set_option maxHeartbeats 16000000 in
theorem md_list {w : World} {xb b n : Nat} {T : MT} (h : MdAt w xb b n T) (hn : n ≤ 1000000) (d : Int) (fr v : ByteArray) : Calls Tryz.prog 33 #[.pointer (some ⟨xb, 0, none⟩), .agg #[.int .i64 d, .string fr, .string v]] w (DidL T fr w) := by
  obtain ⟨D0, hown, hcame⟩ := h.came
  have HX := hide h
  have HCA := hide hcame
  have HOK := hide h.ok
  have HD := hide hown.size_le
  have hb0 := lW_below w xb b d fr v
  have hseq : SeqStops Fence.wide 4 Tryz.prog 39 #[.pointer (some ⟨w.heap.size + 4, 0, none⟩)] encStr (fun ss => ss.Perm (strKeys D0) ∧ ∀ x, x ∈ ss ↔ has D0 (.string x) = true) (fun pre => pre.Nodup ∧ ∀ x ∈ pre, has D0 (.string x) = true) (Maps.size D0) (lW w xb b d fr v) :=
    AnyZ.keys_stops (ρ := Tryz.keysH_ren) { Tryz.keysH with } Fence.wide _ trivial rfl (by omega) (w.heap.size + 4) b n D0 (R := hv) _ (by rw [lW_size]; omega) (lW_4 _ _ _ _ _ _) (by
      obtain ⟨es, clock, hb, Ft, hs, hD⟩ := hown
      exact ⟨es, clock, (hb0.block _ (lt_of_block hb)).trans hb, Ft, hs, hD⟩)
  have cK : ∀ mb W, CallsIn Fence.wide 4 Tryz.prog 24 #[.map mb] W fun e w' => e = .returned (.func (.func 39) #[] #[.pointer (some ⟨W.heap.size, 0, none⟩)]) ∧ w' = W.alloc (.cells #[.map mb] 42) := fun mb W => AnyZ.keys_in Tryz.keysH Fence.wide 4 trivial rfl mb W
  obtain ⟨i0, hi0, hz0, hz1, hz2⟩ := info_parts kstr_info
  have hc2 : ((((w.alloc (.cells #[.pointer (some ⟨xb, 0, none⟩)] 24)).alloc (.cells #[.int .i64 d, .string fr, .string v] 32)).alloc (.cells #[.int .i64 0, .string ⟨#[]⟩, .slice none 0 0] 37)).alloc (.cells #[.slice none 0 0] 35)).cell? ⟨xb, 0, none⟩ = some (.map (some b)) :=
    ((((Below.refl _ w).alloc (Nat.le_refl _) _).alloc (by simp only [World.size_alloc]; omega) _).alloc (by simp only [World.size_alloc]; omega) _ |>.alloc (by simp only [World.size_alloc]; omega) _).cell (p := ⟨xb, 0, none⟩) h.xlt |>.trans h.c0
  clear hown h hcame
  refine (callsIn_wide (n := 5)).1 ?_
  refine callsIn_of_wp_marks Tryz.func33 rfl trivial ?_ rfl
  simp only [Tryz.ntmps33, List.size_toArray, List.length_cons, List.length_nil, Nat.reduceAdd, Nat.reduceSub, Array.replicate_succ, Array.replicate_zero, List.push_toArray, List.append_toArray, List.nil_append, List.cons_append]
  have hfK : Fence.wide.fn 24 := trivial
  gi_wp2_with (first | (refine ⟨trivial, ?_⟩; gi_at_call 24; refine (cK _ _).mono ?_; rintro e w' ⟨rfl, rfl⟩) | (gi_at_call 24; refine (cK _ _).mono ?_; rintro e w' ⟨rfl, rfl⟩))
  rw [show ((((w.alloc (.cells #[.pointer (some ⟨xb, 0, none⟩)] 24)).alloc (.cells #[.int .i64 d, .string fr, .string v] 32)).alloc (.cells #[.int .i64 0, .string ⟨#[]⟩, .slice none 0 0] 37)).alloc (.cells #[.slice none 0 0] 35)).alloc (.cells #[.map (some b)] 42) = lW w xb b d fr v from rfl]
  have hsz := lW_size w xb b d fr v
  refine wpIn_rangeFunc_ownF (n := 5) (F := Fence.wide) rfl (by omega) (gf := 39) (lb := #[.pointer (some ⟨w.heap.size + 4, 0, none⟩)]) rfl trivial (enters_of Tryz.func39 (by kernel_rfl) rfl)
    (stops_k hseq) walksK_t (fun W l o o' hl => walksK_b W l o o' hl) (Below.refl _ _) (fun _ => rfl) (LI T fr xb d v w) (fun _ _ _ => False)
    (by have := li_own T fr xb d v w; rw [hsz]; exact this) (fun _ _ _ _ _ h _ _ => h) (li_start _ _ _ _ _ _ _) ?a1 ?assign ?body ?done ?stop
  case assign =>
    intro l x W K hK
    gi_wp2
    exact hK
  case body =>
    rintro lp pre x W hI hlt
    obtain ⟨ho, hw⟩ := ko_refl W
    have HO := hide ho
    have HW := hide hw
    obtain ⟨u, hv, hr⟩ := hI.row
    have hWs := hI.size
    have c0 := hI.b0.cell
    have c1 : W.cell? ⟨w.heap.size + 1, 1, none⟩ = some (.string fr) := cell_of_block hI.rq
    have cx := (HX.out.below hI.bel).c0
    have hl := HX.out.atM x hI.bel
    have HLN := hide (selM_len T fr pre)
    have hNone := fun q => li_none (x := x) hI q
    have HPush := hide (fun (w1 : World) (v' : Value) (tmp : Obj) q => li_push (w1 := w1) (u' := v') (tmp := tmp) hI (x := x) q hv hr)
    have hc := hv.cell
    have HR := hide hr
    have hdm := HD.out
    have hnb : notB fr x = !(Op.bytesLess x fr.toList) := rfl
    have hsel : selB T fr x = (notB fr x && !(atM T x).g) := rfl
    clear hI hv hr ho hw
    generalize hae : atM T x = ex at *
    obtain ⟨y1, y2⟩ := ex
    have hfl := hd_gone y1 y2
    simp only [hdV] at hl
    simp only at hsel
    cases hq : notB fr x with
    | true =>
      rw [hq] at hnb hsel
      replace hnb : Op.bytesLess x fr.toList = false := by simpa using hnb.symm
      cases y2 with
      | false =>
        have hs1 : selB T fr x = true := by rw [hsel]; rfl
        have HP := hide (fun (w1 : World) (v' : Value) (tmp : Obj) => HPush.out w1 v' tmp hs1)
        clear HPush hNone hq hsel hs1 hae
        gi_wp2_with (first | (gi_at_builtin; refine wpListIn_append_own _ rfl (.tmp 27) (.tmp 29) 35 rfl (w.heap.size + 5) 9 i0 (.string ByteArray.empty) 1 16 Tryz.underlying35 hi0 hz0 hz1 hz2 rfl (by decide) _ _ _ rfl (HR.out.alloc _) ⟨W.heap.size, 0, none⟩ 1 1 [encStr x] rfl rfl (cell_one_new _ _ _) (by simp [Value.oneCell']) (by have := HLN.out; unfold maxLen; omega) (by have := HLN.out; omega) (by rw [World.size_alloc]; omega) ?_; intro v' w1 hown' hgrow hn'; clear hn'; obtain ⟨g', cap', rfl⟩ := ownsRow_succ hown'; obtain ⟨hf1, hc1, r1, r2, r3⟩ := HP.out _ _ _ hown' hgrow; have HQ := hide (And.intro r1 (And.intro r2 r3)); clear hown' hgrow r1 r2 r3))
        exact ⟨HQ.out.1, HQ.out.2.1, HQ.out.2.2⟩
      | true =>
        have hs1 : selB T fr x = false := by rw [hsel]; rfl
        have HN := hide (hNone hs1)
        clear HPush hNone hq hsel hs1 hae
        gi_wp2
        exact ⟨HO.out, HW.out, HN.out⟩
    | false =>
      rw [hq] at hnb hsel
      replace hnb : Op.bytesLess x fr.toList = true := by simpa using hnb.symm
      have hs1 : selB T fr x = false := by rw [hsel]; rfl
      have HN := hide (hNone hs1)
      clear HPush hNone hq hsel hs1 hae
      gi_wp2
      exact ⟨HO.out, HW.out, HN.out⟩
  case done =>
    rintro Dd ys W hD ⟨hp, hm⟩ hI hK
    rw [hsz] at hD
    obtain ⟨u, hv, hrow⟩ := hI.row
    have hK1 := sorted_m (fr := fr) HOK.out HCA.out hp hm
    have hlen : (selM T fr ys).length ≤ n := by have := selM_len T fr ys; have := hp.length_eq; have := HCA.out.len; omega
    have hc := hv.cell
    have HK := hide hK
    have HSK := hide hK1
    have HLL := hide hlen
    have HB := hide hI.bel
    have HRS := hide hI.rs
    have r0 : W.cell? ⟨w.heap.size + 2, 0, none⟩ = some (.int .i64 0) := cell_of_block hI.rs
    have r1 : W.cell? ⟨w.heap.size + 2, 1, none⟩ = some (.string ⟨#[]⟩) := cell_of_block hI.rs
    have r2 : W.cell? ⟨w.heap.size + 2, 2, none⟩ = some (.slice none 0 0) := cell_of_block hI.rs
    have f0 := free_of_block (i := 0) hI.rs
    have f1 := free_of_block (i := 1) hI.rs
    have f2 := free_of_block (i := 2) hI.rs
    rcases hrow.2 with ⟨rfl, hz⟩ | ⟨gb, cap, cur, rfl, hbase, hgb, q1, q2, q3, q4⟩
    · have hss : selM T fr ys = [] := List.eq_nil_of_length_eq_zero hz
      clear hK1 hlen hI hp hm hv hrow hK
      gi_wp2
      refine ⟨trivial, (callsIn_wide.2 (Tryz.slices_Sort_string_none _ _ _)).mono ?_⟩
      rintro e w' ⟨rfl, rfl⟩
      gi_wp2
      have HKF : Hid ((((w'.setCell ⟨w.heap.size + 2, 0, none⟩ (.int .i64 0)).setCell ⟨w.heap.size + 2, 1, none⟩ (.string ⟨#[]⟩)).setCell ⟨w.heap.size + 2, 2, none⟩ (.slice none (min 0 16 : Int).toNat 0)).heap[Dd]? = some (.deferred (some []))) := (set3_other (by omega) _ _ _).trans HK.out
      have HRF := hide (rs_set3 HRS.out 0 ⟨#[]⟩ none (min 0 16 : Int).toNat 0)
      have HBF := hide (set3_below HB.out (g := w.heap.size + 2) (by omega) (.int .i64 0) (.string ⟨#[]⟩) (.slice none (min 0 16 : Int).toNat 0))
      refine ⟨by simp, .inl ⟨_, _, rfl, run_takeDeferred HKF.out, ?_⟩⟩
      refine ⟨_, res_rs rfl _ _ (w.heap.size + 2) 0 ⟨#[]⟩ none (min 0 16 : Int).toNat 0 rfl ((World.putObj_heap_other (by omega)).trans HRF.out), ?_⟩
      have he : ((selM T fr ys).mergeSort fun x y => decide (x ≤ y)).map bk = [] := by rw [hss]; simp
      have hsk := HSK.out
      rw [he] at hsk
      exact ⟨⟨none, 0, [], rfl, by simp, by simp, .inl rfl, ⟨[], hsk, by simp⟩, fun _ => rfl, fun p e => by cases e⟩, ⟨HBF.out.os, HBF.out.tape, HBF.out.output, by simpa using HBF.out.size, fun j hj => (World.putObj_heap_other (by omega)).trans (HBF.out.block j hj)⟩⟩
    · have hH : Holds encStr W gb 0 (selM T fr ys).toArray := holds_of_block hgb (by simpa using q4)
      have hgl : gb < W.heap.size := (Array.getElem?_eq_some_iff.1 hgb).1
      have hsz2 : (selM T fr ys).length < 4611686018427387904 := by omega
      have cS := Tryz.slices_Sort_string gb 0 cap (selM T fr ys) W hH hgl hsz2
      gi_wp2
      refine ⟨trivial, (callsIn_wide.2 cS).mono ?_⟩
      rintro e w' ⟨rfl, nn, os, rfl⟩
      have hgr := grownBy_sorted (w := W) (g := gb) (n := nn) (os := os) ((selM T fr ys).mergeSort fun x y => decide (x ≤ y)).toArray
      have hro := ownsRow_sorted (n := nn) (os := os) (ts := (selM T fr ys).mergeSort fun x y => decide (x ≤ y)) (by simp) hbase hgb q1 q2 q3
      generalize grow (putRow encStr (Sort.ahead W nn) gb 0 ((selM T fr ys).mergeSort fun x y => decide (x ≤ y)).toArray) os = W5 at *
      have hc5 : W5.cell? ⟨w.heap.size + 3, 0, none⟩ = some (.slice (some ⟨gb, 0, none⟩) (selM T fr ys).length cap) := (cell_of_block (hgr.block _ (by have := hI.size; omega) (by intro e; injection e; omega) |>.trans hv))
      have hrs5 : RsB (w.heap.size + 2) 0 ⟨#[]⟩ none 0 0 W5 := (hgr.block _ (by have := hI.size; omega) (by intro e; injection e; omega)).trans hI.rs
      have HK5 : Hid (W5.heap[Dd]? = some (.deferred (some []))) := (hgr.block _ ((Array.getElem?_eq_some_iff.1 hK).1) (by intro e; injection e with e; subst e; rw [hK] at hgb; cases hgb)).trans hK
      have HR5 := hide hro
      have HG5 := hide hgr
      have HRS5 := hide hrs5
      have s0 : W5.cell? ⟨w.heap.size + 2, 0, none⟩ = some (.int .i64 0) := cell_of_block hrs5
      have s1 : W5.cell? ⟨w.heap.size + 2, 1, none⟩ = some (.string ⟨#[]⟩) := cell_of_block hrs5
      have s2 : W5.cell? ⟨w.heap.size + 2, 2, none⟩ = some (.slice none 0 0) := cell_of_block hrs5
      have g0 := free_of_block (i := 0) hrs5
      have g1 := free_of_block (i := 1) hrs5
      have g2 := free_of_block (i := 2) hrs5
      have hcapI : ((selM T fr ys).length : Int) ≤ (cap : Int) := by omega
      clear hgr hro cS hH hc hI hv hrow hK hK1 hlen hp hm hrs5 r0 r1 r2 f0 f1 f2
      obtain ⟨m, hm⟩ : ∃ m, (selM T fr ys).length = m := ⟨_, rfl⟩
      have HM := hide hm
      rw [hm] at hc5 hcapI
      have hmin0 : (0 : Int) ≤ min (m : Int) 16 := by omega
      have hmin1 : min (m : Int) 16 ≤ (cap : Int) := by omega
      clear hm
      gi_wp2
      have hne2 : gb ≠ w.heap.size + 2 := by omega
      have hD2 : Dd ≠ w.heap.size + 2 := by omega
      have HKF : Hid ((((W5.setCell ⟨w.heap.size + 2, 0, none⟩ (.int .i64 0)).setCell ⟨w.heap.size + 2, 1, none⟩ (.string ⟨#[]⟩)).setCell ⟨w.heap.size + 2, 2, none⟩ (.slice (some ⟨gb, 0, none⟩) (min (m : Int) 16).toNat cap)).heap[Dd]? = some (.deferred (some []))) := (set3_other hD2 _ _ _).trans HK5.out
      have HRF := hide (rs_set3 HRS5.out 0 ⟨#[]⟩ (some ⟨gb, 0, none⟩) (min (m : Int) 16).toNat cap)
      have hb5 : Below w.heap.size w W5 := HB.out.grown HG5.out (by have := HRS5; omega) (fun j hj => by cases hj; omega)
      have HBF := hide (set3_below hb5 (g := w.heap.size + 2) (by omega) (.int .i64 0) (.string ⟨#[]⟩) (.slice (some ⟨gb, 0, none⟩) (min (m : Int) 16).toNat cap))
      refine ⟨by simp, .inl ⟨_, _, rfl, run_takeDeferred HKF.out, ?_⟩⟩
      refine ⟨_, res_rs rfl _ _ (w.heap.size + 2) 0 ⟨#[]⟩ (some ⟨gb, 0, none⟩) (min (m : Int) 16).toNat cap rfl ((World.putObj_heap_other (by omega)).trans HRF.out), ?_⟩
      have hlA : (((selM T fr ys).mergeSort fun x y => decide (x ≤ y)).map bk).length = m := by simp [HM.out]
      have hcut : ((((selM T fr ys).mergeSort fun x y => decide (x ≤ y)).map bk).take 16).length = (min (m : Int) 16).toNat := by rw [List.length_take, hlA]; omega
      have hrF := own_same HR5.out (W' := (((W5.setCell ⟨w.heap.size + 2, 0, none⟩ (.int .i64 0)).setCell ⟨w.heap.size + 2, 1, none⟩ (.string ⟨#[]⟩)).setCell ⟨w.heap.size + 2, 2, none⟩ (.slice (some ⟨gb, 0, none⟩) (min (m : Int) 16).toNat cap)).putObj Dd (.deferred none)) fun g cur t fr hg hc => (World.putObj_heap_other fun e => by rw [e, HK5.out] at hc; cases hc).trans (set3_other (by omega) _ _ _)
      refine ⟨⟨some ⟨gb, 0, none⟩, cap, (((selM T fr ys).mergeSort fun x y => decide (x ≤ y)).map bk).take 16, ?_, by rw [hcut]; omega, by rw [hcut]; omega, ?_, ⟨_, HSK.out, rfl⟩, (fun e => by cases e), fun p e => by cases e; show _ ≤ gb; omega⟩, ⟨HBF.out.os, HBF.out.tape, HBF.out.output, by simpa using HBF.out.size, fun j hj => (World.putObj_heap_other (by omega)).trans (HBF.out.block j hj)⟩⟩
      · rw [hcut]; rfl
      · by_cases hp : 0 < m
        · rw [HM.out] at hrF
          exact strs_row hrF (by simp [HM.out]) hp _
        · have : selM T fr ys = [] := List.eq_nil_of_length_eq_zero (by have := HM.out; omega)
          rw [this]
          exact .inl (by simp)
  case stop =>
    rintro Dd cc pre W hD _ h _
    exact h.elim
end Go.Proofs.YtlpibpkbgmcclaaGreatDoor
