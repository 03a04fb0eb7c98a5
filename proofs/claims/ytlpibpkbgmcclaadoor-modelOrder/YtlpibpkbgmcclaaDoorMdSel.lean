/- Which keys of a map a list tells; they are told in order. (Written by genml.py.) -/
import Derived.Test.YtlpibpkbgmcclaaDoorMdMem
import Derived.Test.YtlpibpkbgmcclaaDoorMdLong
import Derived.Test.YtlpibpkbgmcclaaDoorIter
import Derived.Test.YtlpibpkbgmcclaaDoorShelf
import Derived.Test.YtlpibpkbgmcclaaDoorRFun
import Derived.RangeFuncFrom
import Derived.Shelf.SlIter.Stops
import Derived.Sort.OwnSorted
namespace Go.Proofs.YtlpibpkbgmcclaaDoor
open Go.RowKit Go.Maps Go.Sort Go.Shelf
set_option linter.unusedVariables false
def bk (x : List UInt8) : ByteArray := ⟨x.toArray⟩
theorem bk_lit (x : List UInt8) : lStr (bk x) = .string x := by simp [lStr, bk]
theorem bk_of (k : ByteArray) : bk k.data.toList = k := by simp [bk]
theorem bk_size (x : List UInt8) : (bk x).size = x.length := by simp [bk, ByteArray.size]
/-- what a lookup of a text tells -/
def atM (T : MT) (x : List UInt8) : Hd := if okS (bk x) then (T (bk x)).getD hd0 else hd0
theorem MdAt.atM {n xb b : Nat} {w : World} {T : MT} (h : MdAt w xb b n T) (x : List UInt8) {W : World} (hb : Below w.heap.size w W) : (Instr.lookup 41 (.map (some b)) (encStr x) false).run Tryd.prog W = .ok (hdV (atM T x)) W := by
  unfold Proofs.YtlpibpkbgmcclaaDoor.atM
  by_cases hk : okS (bk x)
  · rw [if_pos hk]
    have := (h.m.below hb).look1 ke_str Tryd.underlying41 (hd_zero W) hk
    rw [hd_get] at this
    exact this
  · rw [if_neg hk]
    exact look1_long (h.m.below hb) Tryd.underlying41 (hd_zero W) (bk x) hk
theorem hd_gone (v : ByteArray) (g : Bool) (W : World) : (Instr.field 56 (.agg #[.string v, .bool g]) 1).run Tryd.prog W = .ok (.bool g) W := by kernel_rfl
theorem stops_k {α : Type} {F : Fence} {n : Nat} {P : Program} {g : Nat} {lb : Array Value} {enc : α → Value} {S Sp : List α → Prop} {N : Nat} {w : World} (h : SeqStops F n P g lb enc S Sp N w) : SeqStopsK F n P g lb (fun x => #[enc x]) KeepsWalks S Sp N w :=
  fun l J Jx W hW hJ hJx hY h0 => h l J Jx W hW hJ hJx hY h0
theorem kstr_info : (Tryd.prog.info? 9).map (fun i => (i.zero, i.size, i.bytes)) = some (some (.string ByteArray.empty), 1, 16) := by kernel_rfl
theorem own_mono2 {W : World} {B B' z n : Nat} {e : TypeId} {v : Value} {xs : List Value} (h : W.ownsRow B e z v n xs) (hb : B' ≤ B) : W.ownsRow B' e z v n xs := by
  obtain ⟨hl, ⟨rfl, rfl⟩ | ⟨g, cap, cur, rfl, hB, hg, hc, hm, hs, ht⟩⟩ := h
  · exact ⟨hl, .inl ⟨rfl, rfl⟩⟩
  · exact ⟨hl, .inr ⟨g, cap, cur, rfl, by omega, hg, hc, hm, hs, ht⟩⟩
theorem str_nodup {w : World} {b n : Nat} {D0 : DataW Value} (hown : w.ownsMap Tryd.prog 9 hv b n D0) : (strKeys D0).Nodup := by
  obtain ⟨es, hD, hpw, _⟩ := hown.entries ke_str.keyed
  obtain ⟨es', hD', hko⟩ := hown.keysOf
  obtain rfl : es = es' := by rw [hD] at hD'; simpa using hD'
  subst hD
  show (es.map fun p => strOf p.1).Nodup
  refine List.pairwise_map.2 (hpw.imp_of_mem fun {p q} hp' hq' hne e => hne ?_)
  obtain ⟨v1, h1⟩ := hko p hp'
  obtain ⟨v2, h2⟩ := hko q hq'
  obtain ⟨x1, _, e1, _⟩ := Maps.keyOf_str Tryd.underlying9 h1
  obtain ⟨x2, _, e2, _⟩ := Maps.keyOf_str Tryd.underlying9 h2
  rw [e1, e2] at e ⊢
  exact congrArg _ e
/-- a key is not below another one -/
def notB (fr : ByteArray) (x : List UInt8) : Bool := !(Op.bytesLess x fr.toList)
theorem notB_lt (fr : ByteArray) (x : List UInt8) : notB fr x = true ↔ ¬ x < fr.data.toList := by
  unfold notB
  rw [bytesLess_eq, Lib.toList_data]
  simp
/-- is a key told? -/
def selB (T : MT) (fr : ByteArray) (x : List UInt8) : Bool := notB fr x && !(atM T x).g
def selM (T : MT) (fr : ByteArray) (l : List (List UInt8)) : List (List UInt8) := l.filter (selB T fr)
theorem selM_snoc (T : MT) (fr : ByteArray) (l : List (List UInt8)) (x : List UInt8) : selM T fr (l ++ [x]) = selM T fr l ++ if selB T fr x = true then [x] else [] := by
  unfold selM; rw [List.filter_append]; congr 1; by_cases h : selB T fr x = true <;> simp [List.filter, h]
theorem selM_len (T : MT) (fr : ByteArray) (l : List (List UInt8)) : (selM T fr l).length ≤ l.length := List.length_filter_le _ _
theorem ok_okS {T : MT} (h : T.Ok) {k : ByteArray} (hs : (T k).isSome = true) : okS k := by
  cases hT : T k with
  | none => rw [hT] at hs; cases hs
  | some y => exact (show okS k by have := (h k y hT).1.2.1; unfold okS Go.maxLen; omega)
theorem bk_data (x : List UInt8) : (bk x).data.toList = x := by simp [bk]
theorem sort_rising {P : ByteArray → Prop} {l : List (List UInt8)} (hnd : l.Nodup) (hm : ∀ x, x ∈ l ↔ P (bk x)) : Rising P ((l.mergeSort fun x y => decide (x ≤ y)).map bk) := by
  have hperm := List.mergeSort_perm l (fun x y => decide (x ≤ y))
  have hsort : (l.mergeSort fun x y => decide (x ≤ y)).Pairwise (fun x y => decide (x ≤ y) = true) := List.pairwise_mergeSort (fun a b c h1 h2 => by simp at *; exact List.le_trans h1 h2) (fun a b => by simpa using List.le_total a b) _
  have hnod : (l.mergeSort fun x y => decide (x ≤ y)).Nodup := (hperm.nodup_iff).2 hnd
  refine ⟨List.pairwise_map.2 ?_, fun k => ?_⟩
  · refine (hsort.and hnod).imp fun {a b} hab => ?_
    obtain ⟨h1, h2⟩ := hab
    have h1 : a ≤ b := by simpa using h1
    show (bk a).data.toList < (bk b).data.toList
    rw [bk_data, bk_data]
    by_cases q : a < b
    · exact q
    · exact absurd (List.le_antisymm h1 (List.not_lt.1 q)) h2
  · rw [List.mem_map]
    constructor
    · rintro ⟨x, hx, rfl⟩
      exact (hm x).1 ((hperm.mem_iff).1 hx)
    · intro hP
      exact ⟨k.data.toList, (hperm.mem_iff).2 ((hm _).2 (by rw [bk_of]; exact hP)), bk_of k⟩
/-- keys of the map as they come -/
structure Came1 (T : MT) (D0 : DataW Value) (n : Nat) : Prop where
  has : ∀ k : ByteArray, okS k → has D0 (lStr k) = (T k).isSome
  le : ∀ x ∈ strKeys D0, x.length ≤ maxLen
  len : (strKeys D0).length ≤ n
  nd : (strKeys D0).Nodup
theorem sorted_m {T : MT} {fr : ByteArray} {D0 : DataW Value} {n : Nat} {ys : List (List UInt8)} (hT : T.Ok) (h : Came1 T D0 n) (hp : ys.Perm (strKeys D0)) (hm : ∀ x, x ∈ ys ↔ Maps.has D0 (.string x) = true) :
    Rising (fun k => (T.val k).isSome = true ∧ ¬ k.data.toList < fr.data.toList) (((selM T fr ys).mergeSort fun x y => decide (x ≤ y)).map bk) := by
  refine sort_rising (((hp.nodup_iff).2 h.nd).filter _) fun x => ?_
  unfold selM
  rw [List.mem_filter]
  have hv : ∀ k, (T.val k).isSome = true ↔ ∃ y, T k = some y ∧ y.g = false := fun k => by
    unfold MT.val
    cases T k with
    | none => simp
    | some y => obtain ⟨a, g⟩ := y; cases g <;> simp
  constructor
  · rintro ⟨h1, h2⟩
    have hok : okS (bk x) := by
      have := h.le _ (hp.mem_iff.1 h1)
      show (bk x).size ≤ _
      rw [bk_size]; exact this
    unfold selB at h2
    rw [Bool.and_eq_true] at h2
    have hs : (T (bk x)).isSome = true := by rw [← h.has _ hok, bk_lit]; exact (hm _).1 h1
    refine ⟨(hv _).2 ?_, by rw [bk_data]; exact (notB_lt fr x).1 h2.1⟩
    have h3 := h2.2
    unfold atM at h3
    rw [if_pos hok] at h3
    cases hq : T (bk x) with
    | none => rw [hq] at hs; cases hs
    | some y => rw [hq] at h3; exact ⟨y, rfl, by simpa using h3⟩
  · rintro ⟨h1, h2⟩
    obtain ⟨y, hy, hg⟩ := (hv _).1 h1
    have hok : okS (bk x) := ok_okS hT (by rw [hy]; rfl)
    refine ⟨(hm _).2 ?_, ?_⟩
    · have := h.has _ hok
      rw [bk_lit, hy] at this
      exact this
    · unfold selB
      rw [Bool.and_eq_true]
      refine ⟨(notB_lt fr x).2 (by rw [bk_data] at h2; exact h2), ?_⟩
      unfold atM
      rw [if_pos hok, hy]
      simp [hg]
theorem MdAt.came {w : World} {x b n : Nat} {T : MT} (h : MdAt w x b n T) : ∃ D0, w.ownsMap Tryd.prog 9 hv b n D0 ∧ Came1 T D0 n := by
  obtain ⟨D0, hown, hat⟩ := h.m
  refine ⟨D0, hown, ⟨fun k hk => ?_, strKeys_le hown Tryd.underlying9, ?_, str_nodup hown⟩⟩
  · have := MAt.has hown ke_str.keyed Tryd.underlying41 (hd_zero w) (ke_str.key k hk) (hat k hk)
    rw [this]; exact hd_some _
  · have q := hown.size_le
    obtain ⟨es, rfl, _⟩ := hown.keysOf
    show (strKeys (DataW.map es)).length ≤ n
    simp only [strKeys, List.length_map]
    exact q
theorem strs_row {W : World} {B g m cap : Nat} {A : List (List UInt8)} (h : W.ownsRow B 9 1 (.slice (some ⟨g, 0, none⟩) m cap) m (A.map encStr)) (hm : A.length = m) (hp : 0 < m) (k : Nat) : StrsAt W (some ⟨g, 0, none⟩) ((A.map bk).take k) := by
  refine .inr ⟨g, 0, rfl, ?_, fun i s hs => ?_⟩
  · rcases h.2 with ⟨hv, _⟩ | ⟨g', cap', cur, hv, _, hg, _⟩
    · cases hv
    · cases hv; exact lt_of_block hg
  · rw [List.getElem?_take] at hs
    split at hs
    · rw [List.getElem?_map] at hs
      cases hA : A[i]? with
      | none => rw [hA] at hs; cases hs
      | some x =>
        rw [hA] at hs
        simp at hs
        have hi : i < A.length := (List.getElem?_eq_some_iff.1 hA).1
        rw [Nat.zero_add, h.cellAt i (by omega), List.getElem?_map, hA]
        show some (encStr x) = _
        rw [← hs]
        rfl
    · cases hs
end Go.Proofs.YtlpibpkbgmcclaaDoor
