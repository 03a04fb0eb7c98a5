/- What List of the index answers: the keys that are there from one on, rising, and no more than so many. -/
import Derived.Test.YtonhmihmnkicdaaGreatIxKeys
import Derived.Test.YtonhmihmnkicdaaGreatShelf
import Derived.Sort.OwnSorted
namespace Go.Proofs.YtonhmihmnkicdaaGreat
open Go.RowKit Go.Maps Go.Sort Go.Shelf
set_option linter.unusedVariables false
attribute [local go_sem] Oper.semAt_some
/-- a key is not below another one -/
def notB (fr : ByteArray) (x : List UInt8) : Bool := !(Op.bytesLess x fr.toList)
theorem notB_lt (fr : ByteArray) (x : List UInt8) : notB fr x = true ↔ ¬ x < fr.data.toList := by
  unfold notB
  rw [bytesLess_eq, Lib.toList_data]
  simp
def selF (fr : ByteArray) (l : List (List UInt8)) : List (List UInt8) := l.filter (notB fr)
theorem selF_snoc (fr : ByteArray) (l : List (List UInt8)) (x : List UInt8) : selF fr (l ++ [x]) = selF fr l ++ if notB fr x = true then [x] else [] := by
  unfold selF; rw [List.filter_append]; congr 1; by_cases h : notB fr x = true <;> simp [List.filter, h]
theorem selF_len (fr : ByteArray) (l : List (List UInt8)) : (selF fr l).length ≤ l.length := List.length_filter_le _ _
structure LI (fr : ByteArray) (w : World) (pre : List (List UInt8)) (W : World) : Prop where
  bel : Below w.heap.size w W
  size : w.heap.size + 3 ≤ W.heap.size
  b0 : Boxed W w.heap.size 9 (.string fr)
  row : ∃ v, Boxed W (w.heap.size + 1) 23 v ∧ W.ownsRow (w.heap.size + 3) 9 1 v (selF fr pre).length ((selF fr pre).map encStr)
theorem li_own (fr : ByteArray) (w : World) : OwnFrom (w.heap.size + 3) (LI fr w) := fun pre W W' row h hg hr => by
  have hk : ∀ k, k < w.heap.size + 3 → W'.heap[k]? = W.heap[k]? := fun k hk => hg.block k (by have := h.size; omega) fun e => by have := (hr k e.symm).1; omega
  obtain ⟨v, h3, h4⟩ := h.row
  exact ⟨below_grown h.bel hg (fun r e => (hr r e).1) (by omega) h.size, Nat.le_trans h.size hg.size, (hk _ (by omega)).trans h.b0, v, (hk _ (by omega)).trans h3, own_kept h4 hg (fun r e => (hr r e).2)⟩
theorem li_drew {fr : ByteArray} {w : World} {pre : List (List UInt8)} {W : World} (h : LI fr w pre W) : LI fr w pre W.drew := by
  obtain ⟨v, h3, h4⟩ := h.row
  exact ⟨h.bel.trans ((Below.refl _ W).drew.mono h.bel.size), h.size, h.b0, v, h3, row_keep h4 (fun _ _ => rfl)⟩
theorem li_none {fr : ByteArray} {w : World} {pre : List (List UInt8)} {W : World} (h : LI fr w pre W) {x : List UInt8} (hx : notB fr x = false) : LI fr w (pre ++ [x]) W := by
  obtain ⟨v, h3, h4⟩ := h.row
  exact ⟨h.bel, h.size, h.b0, v, h3, by rw [selF_snoc, hx]; simpa using h4⟩
theorem li_push {fr : ByteArray} {w : World} {pre : List (List UInt8)} {W w1 : World} (h : LI fr w pre W) {x : List UInt8} (hx : notB fr x = true) {v v' : Value} {tmp : Obj} (hv : Boxed W (w.heap.size + 1) 23 v) (hr : W.ownsRow (w.heap.size + 3) 9 1 v (selF fr pre).length ((selF fr pre).map encStr))
    (hown : w1.ownsRow (w.heap.size + 3) 9 1 v' ((selF fr pre).length + 1) ((selF fr pre).map encStr ++ [encStr x])) (hgrow : (W.alloc tmp).grownBy w1 v.ownBlock) :
    w1.frozen? ⟨w.heap.size + 1, 0, none⟩ = false ∧ w1.cell? ⟨w.heap.size + 1, 0, none⟩ = some v ∧ KeepsOthers W (w1.setCell ⟨w.heap.size + 1, 0, none⟩ v') ∧ KeepsWalks W (w1.setCell ⟨w.heap.size + 1, 0, none⟩ v') ∧ LI fr w (pre ++ [x]) (w1.setCell ⟨w.heap.size + 1, 0, none⟩ v') := by
  obtain ⟨q1, q2, q3, q4⟩ := appd hv (by decide) hr hown hgrow
  have low : ∀ j, j < w.heap.size + 3 → j ≠ w.heap.size + 1 → (w1.setCell ⟨w.heap.size + 1, 0, none⟩ v').heap[j]? = W.heap[j]? := fun j hj h3 => q4.low hr h.size hj h3
  refine ⟨q1.frozen, q1.cell, q4.others, q4.others.walks, ⟨?_, Nat.le_trans h.size q4.size, (low _ (by omega) (by omega)).trans h.b0, v', q2, ?_⟩⟩
  · exact ⟨q4.os.trans h.bel.os, q4.tape.trans h.bel.tape, q4.output.trans h.bel.output, Nat.le_trans h.bel.size q4.size, fun j hj => (low j (by omega) (by omega)).trans (h.bel.block j hj)⟩
  · rw [selF_snoc, hx]
    simpa using q3
theorem ko_refl (W : World) : KeepsOthers W W ∧ KeepsWalks W W := by
  have h : KeepsOthers W W := KeepsOthers.of_grownBy (grown_none (Below.refl _ W)) (fun j o ej hj => by cases ej)
  exact ⟨h, h.walks⟩
def lW (w : World) (fr : ByteArray) (mt : Nat) : World := ((w.alloc (.cells #[.string fr] 9)).alloc (.cells #[.slice none 0 0] 23)).alloc (.cells #[.map (some mt)] 65)
theorem lW_size (w : World) (fr : ByteArray) (mt : Nat) : (lW w fr mt).heap.size = w.heap.size + 3 := by unfold lW; simp only [World.size_alloc]
theorem lW_below (w : World) (fr : ByteArray) (mt : Nat) : Below w.heap.size w (lW w fr mt) := by
  unfold lW
  exact (((Below.refl _ w).alloc (Nat.le_refl _) _).alloc (by simp only [World.size_alloc]; omega) _).alloc (by simp only [World.size_alloc]; omega) _
theorem lW_2 (w : World) (fr : ByteArray) (mt : Nat) : (lW w fr mt).cell? ⟨w.heap.size + 2, 0, none⟩ = some (.map (some mt)) := by
  unfold lW; exact cell_of_block (c := #[.map (some mt)]) (new_at _ _ (by simp only [World.size_alloc]))
theorem li_start (fr : ByteArray) (mt : Nat) (w : World) : LI fr w [] (lW w fr mt) :=
  ⟨lW_below _ _ _, by rw [lW_size]; exact Nat.le_refl _, by unfold lW; exact old_at _ (old_at _ (new_at w _ rfl)), _, by unfold lW; exact old_at _ (new_at _ _ (by simp only [World.size_alloc])), World.ownsRow_nil _ _ _ _⟩
/-- all keys that are there from one on, rising -/
def SortedK (T : ByteArray → Option En) (fr : ByteArray) (A : List ByteArray) : Prop :=
  A.Pairwise (fun a b => a.data.toList < b.data.toList) ∧ ∀ k, k ∈ A ↔ okS k ∧ (T k).isSome = true ∧ ¬ k.data.toList < fr.data.toList
def cutL (many : Int) (m : Nat) : Nat := (max 0 (min many m)).toNat
theorem cutL_le (many : Int) (m : Nat) : cutL many m ≤ m := by unfold cutL; omega
/-- what List tells -/
def ListIs (T : ByteArray → Option En) (fr : ByteArray) (many : Int) (L : List ByteArray) : Prop := ∃ A, SortedK T fr A ∧ L = A.take (cutL many A.length)
theorem sorted_k {T : ByteArray → Option En} {fr : ByteArray} {D0 : DataW Value} {ys : List (List UInt8)} (hH : ∀ k : ByteArray, okS k → has D0 (lStr k) = (T k).isSome) (hle : ∀ x ∈ strKeys D0, x.length ≤ maxLen) (hnd : (strKeys D0).Nodup) (hp : ys.Perm (strKeys D0)) (hm : ∀ x, x ∈ ys ↔ has D0 (.string x) = true) :
    SortedK T fr (((selF fr ys).mergeSort fun x y => decide (x ≤ y)).map bk) := by
  have hperm := List.mergeSort_perm (selF fr ys) (fun x y => decide (x ≤ y))
  have hsort : ((selF fr ys).mergeSort fun x y => decide (x ≤ y)).Pairwise (fun x y => decide (x ≤ y) = true) := List.pairwise_mergeSort (fun a b c h1 h2 => by simp at *; exact List.le_trans h1 h2) (fun a b => by simpa using List.le_total a b) _
  have hnod : ((selF fr ys).mergeSort fun x y => decide (x ≤ y)).Nodup := (hperm.nodup_iff).2 (((hp.nodup_iff).2 hnd).filter _)
  refine ⟨List.pairwise_map.2 ?_, fun k => ?_⟩
  · have := hsort.and hnod
    refine this.imp fun {a b} hab => ?_
    obtain ⟨h1, h2⟩ := hab
    have h1 : a ≤ b := by simpa using h1
    show (bk a).data.toList < (bk b).data.toList
    have e1 : (bk a).data.toList = a := by simp [bk]
    have e2 : (bk b).data.toList = b := by simp [bk]
    rw [e1, e2]
    by_cases q : a < b
    · exact q
    · exact absurd (List.le_antisymm h1 (List.not_lt.1 q)) h2
  · have hsz : k.data.toList.length = k.size := by rw [Array.length_toList]; rfl
    rw [List.mem_map]
    constructor
    · rintro ⟨x, hx, rfl⟩
      have hx := (hperm.mem_iff).1 hx
      unfold selF at hx
      obtain ⟨h1, h2⟩ := List.mem_filter.1 hx
      have e : (bk x).data.toList = x := by simp [bk]
      have hok : okS (bk x) := by
        have := hle _ (hp.mem_iff.1 h1)
        show (bk x).size ≤ _
        rw [bk_size]; exact this
      refine ⟨hok, ?_, ?_⟩
      · rw [← hH _ hok, bk_lit]; exact (hm _).1 h1
      · rw [e]; exact (notB_lt fr x).1 h2
    · rintro ⟨hok, hT, hlt⟩
      refine ⟨k.data.toList, (hperm.mem_iff).2 (List.mem_filter.2 ⟨(hm _).2 ?_, (notB_lt _ _).2 hlt⟩), bk_of k⟩
      have := hH k hok
      rw [hT] at this
      exact this
theorem strs_row {W : World} {B g m cap : Nat} {A : List (List UInt8)} (h : W.ownsRow B 9 1 (.slice (some ⟨g, 0, none⟩) m cap) m (A.map encStr)) (hm : A.length = m) (hp : 0 < m) (k : Nat) : StrsAt W (some ⟨g, 0, none⟩) ((A.map bk).take k) := by
  refine .inr ⟨g, 0, rfl, ?_, fun i s hs => ?_⟩
  · rcases h.2 with ⟨hv, _⟩ | ⟨g', cap', cur, hv, _, hg, _⟩
    · cases hv
    · cases hv; exact lt_of_block hg
  · rw [List.getElem?_take] at hs
    split at hs
    · rw [List.getElem?_map] at hs
      cases hA : A[i]? with
      | none => rw [hA] at hs; cases hs
      | some x =>
        rw [hA] at hs
        simp at hs
        have hi : i < A.length := (List.getElem?_eq_some_iff.1 hA).1
        rw [Nat.zero_add, h.cellAt i (by omega), List.getElem?_map, hA]
        show some (encStr x) = _
        rw [← hs]
        rfl
    · cases hs
def Listed (T : ByteArray → Option En) (fr : ByteArray) (many : Int) (n : Nat) (w : World) (e : Ending) (w' : World) : Prop :=
  ∃ a c L, e = .returned (.slice a L.length c) ∧ L.length ≤ c ∧ L.length ≤ n ∧ StrsAt w' a L ∧ ListIs T fr many L ∧ Below w.heap.size w w'
set_option maxRecDepth 100000 in
set_option maxHeartbeats 16000000 in
theorem ix_list {B n : Nat} {I : Ix} {X : FX} {w : World} (h : IxAt B w I n X) (hn : n ≤ 1000000) (fr : ByteArray) (many : Int) : Calls Tryz.prog 46 #[.pointer (some ⟨I.xb, 0, none⟩), .string fr, .int .i64 many] w (Listed X.T fr many n w) := by
  obtain ⟨D0, hown, hat⟩ := h.t
  have HX := hide h
  have hHas : ∀ k : ByteArray, okS k → has D0 (lStr k) = (X.T k).isSome := fun k hk => by
    have := MAt.has hown ke_str.keyed Tryz.underlying65 (en_zero w) (ke_str.key k hk) (hat k hk)
    rw [this]; show ((X.T k).map enV).isSome = _; cases X.T k <;> rfl
  have HH := hide hHas
  have HD := hide hown.size_le
  have HLe := hide (strKeys_le hown Tryz.underlying9)
  have HLen : Hid ((strKeys D0).length ≤ n) := by
    have q := hown.size_le
    obtain ⟨es, rfl, _⟩ := hown.keysOf
    show (strKeys (DataW.map es)).length ≤ n
    simp only [strKeys, List.length_map]
    exact q
  have HNd : Hid (strKeys D0).Nodup := str_nodup hown
  have hb0 := lW_below w fr I.mt
  have hseq : SeqStops Fence.wide 4 Tryz.prog 86 #[.pointer (some ⟨w.heap.size + 2, 0, none⟩)] encStr (fun ss => ss.Perm (strKeys D0) ∧ ∀ x, x ∈ ss ↔ has D0 (.string x) = true) (fun pre => pre.Nodup ∧ ∀ x ∈ pre, has D0 (.string x) = true) (Maps.size D0) (lW w fr I.mt) :=
    AnyZ.keys_stops (ρ := Tryz.keysE_ren) { Tryz.keysE with } Fence.wide _ trivial rfl (by omega) (w.heap.size + 2) I.mt n D0 (R := hv) _ (by rw [lW_size]; omega) (lW_2 _ _ _) (by
      obtain ⟨es, clock, hb, Ft, hs, hD⟩ := hown
      exact ⟨es, clock, (hb0.block _ (lt_of_block hb)).trans hb, Ft, hs, hD⟩)
  have cK : ∀ mb W, CallsIn Fence.wide 4 Tryz.prog 75 #[.map mb] W fun e w' => e = .returned (.func (.func 86) #[] #[.pointer (some ⟨W.heap.size, 0, none⟩)]) ∧ w' = W.alloc (.cells #[.map mb] 65) := fun mb W => AnyZ.keys_in Tryz.keysE Fence.wide 4 trivial rfl mb W
  obtain ⟨i0, hi0, hz0, hz1, hz2⟩ := info_parts kstr_info
  have hc2 : ((w.alloc (.cells #[.string fr] 9)).alloc (.cells #[.slice none 0 0] 23)).cell? ⟨I.xb, 0, none⟩ = some (.map (some I.mt)) :=
    (((Below.refl _ w).alloc (Nat.le_refl _) _).alloc (by simp only [World.size_alloc]; omega) _).cell (p := ⟨I.xb, 0, none⟩) (h.lt (.inl rfl)) |>.trans h.cells.1
  clear hHas
  clear hat hown h
  refine (callsIn_wide (n := 5)).1 ?_
  refine callsIn_of_wp_marks Tryz.func46 rfl trivial ?_ rfl
  simp only [Tryz.ntmps46, List.size_toArray, List.length_cons, List.length_nil, Nat.reduceAdd, Nat.reduceSub, Array.replicate_succ, Array.replicate_zero, List.push_toArray, List.append_toArray, List.nil_append, List.cons_append]
  have hfK : Fence.wide.fn 75 := trivial
  gi_wp2_with (first | (refine ⟨trivial, ?_⟩; gi_at_call 75; refine (cK _ _).mono ?_; rintro e w' ⟨rfl, rfl⟩) | (gi_at_call 75; refine (cK _ _).mono ?_; rintro e w' ⟨rfl, rfl⟩))
  rw [show ((w.alloc (.cells #[.string fr] 9)).alloc (.cells #[.slice none 0 0] 23)).alloc (.cells #[.map (some I.mt)] 65) = lW w fr I.mt from rfl]
  have hsz := lW_size w fr I.mt
  refine wpIn_rangeFunc_ownF (n := 5) (F := Fence.wide) rfl (by omega) (gf := 86) (lb := #[.pointer (some ⟨w.heap.size + 2, 0, none⟩)]) rfl trivial (enters_of Tryz.func86 (by kernel_rfl) rfl)
    (stops_k hseq) walksK_t (fun W l o o' hl => walksK_b W l o o' hl) (Below.refl _ _) (fun _ => rfl) (LI fr w) (fun _ _ _ => False)
    (by have := li_own fr w; rw [hsz]; exact this) (fun _ _ _ _ _ h _ _ => h) (li_start _ _ _) ?a1 ?assign ?body ?done ?stop
  case assign =>
    intro l x W K hK
    gi_wp2
    exact hK
  case body =>
    rintro lp pre x W hI hlt
    obtain ⟨ho, hw⟩ := ko_refl W
    have HO := hide ho
    have HW := hide hw
    obtain ⟨v, hv, hr⟩ := hI.row
    have hWs := hI.size
    have c0 := hI.b0.cell
    have HLN := hide (selF_len fr pre)
    have hNone := fun q => li_none (x := x) hI q
    have HPush := hide (fun (w1 : World) (v' : Value) (tmp : Obj) q => li_push (w1 := w1) (v' := v') (tmp := tmp) hI (x := x) q hv hr)
    have hc := hv.cell
    have HR := hide hr
    have hdm := HD.out
    have hnb : notB fr x = !(Op.bytesLess x fr.toList) := rfl
    clear hI hv hr ho hw
    cases hq : notB fr x with
    | true =>
      rw [hq] at hnb
      replace hnb : Op.bytesLess x fr.toList = false := by simpa using hnb.symm
      have HP := hide (fun (w1 : World) (v' : Value) (tmp : Obj) => HPush.out w1 v' tmp hq)
      clear HPush hNone hq
      gi_wp2_with (first | (gi_at_builtin; refine wpListIn_append_own _ rfl (.tmp 20) (.tmp 22) 23 rfl (w.heap.size + 3) 9 i0 (.string ByteArray.empty) 1 16 Tryz.underlying23 hi0 hz0 hz1 hz2 rfl (by decide) _ _ _ rfl (HR.out.alloc _) ⟨W.heap.size, 0, none⟩ 1 1 [encStr x] rfl rfl (cell_one_new _ _ _) (by simp [Value.oneCell']) (by have := HLN.out; unfold maxLen; omega) (by have := HLN.out; omega) (by rw [World.size_alloc]; omega) ?_; intro v' w1 hown' hgrow hn'; clear hn'; obtain ⟨g', cap', rfl⟩ := ownsRow_succ hown'; obtain ⟨hf1, hc1, r1, r2, r3⟩ := HP.out _ _ _ hown' hgrow; have HQ := hide (And.intro r1 (And.intro r2 r3)); clear hown' hgrow r1 r2 r3))
      exact ⟨HQ.out.1, HQ.out.2.1, HQ.out.2.2⟩
    | false =>
      rw [hq] at hnb
      replace hnb : Op.bytesLess x fr.toList = true := by simpa using hnb.symm
      have HN := hide (hNone hq)
      clear HPush hNone hq
      gi_wp2
      exact ⟨HO.out, HW.out, HN.out⟩
  case done =>
    rintro Dd ys W hD ⟨hp, hm⟩ hI hK
    rw [hsz] at hD
    obtain ⟨v, hv, hrow⟩ := hI.row
    have hK1 := sorted_k (T := X.T) (fr := fr) HH.out HLe.out HNd.out hp hm
    have hlen : (selF fr ys).length ≤ n := by have := selF_len fr ys; have := hp.length_eq; have := HLen.out; omega
    have hc := hv.cell
    have HK := hide hK
    have HSK := hide hK1
    have HLL := hide hlen
    have HB := hide hI.bel
    rcases hrow.2 with ⟨rfl, hz⟩ | ⟨gb, cap, cur, rfl, hbase, hgb, r1, r2, r3, r4⟩
    · have hss : selF fr ys = [] := List.eq_nil_of_length_eq_zero hz
      clear hK1 hlen hI hp hm hv hrow hK
      gi_wp2
      refine ⟨trivial, (callsIn_wide.2 (Tryz.slices_Sort_string_none _ _ _)).mono ?_⟩
      rintro e w' ⟨rfl, rfl⟩
      gi_wp2
      refine ⟨by simp, .inl ⟨_, _, rfl, run_takeDeferred HK.out, ?_⟩⟩
      refine ⟨_, results_tmp rfl _ _ _, ?_⟩
      have he : ((selF fr ys).mergeSort fun x y => decide (x ≤ y)).map bk = [] := by rw [hss]; simp
      have hsk := HSK.out
      rw [he] at hsk
      have hz0' : (max 0 (min many 0)).toNat = 0 := by omega
      refine ⟨none, 0, [], ?_, by simp, by simp, .inl rfl, ⟨[], hsk, by simp⟩, ⟨HB.out.os, HB.out.tape, HB.out.output, by simpa using HB.out.size, fun j hj => (World.putObj_heap_other (by omega)).trans (HB.out.block j hj)⟩⟩
      show Ending.returned (Value.slice none (max 0 (min many 0)).toNat 0) = _
      rw [hz0']
      rfl
    · have hH : Holds encStr W gb 0 (selF fr ys).toArray := holds_of_block hgb (by simpa using r4)
      have hgl : gb < W.heap.size := (Array.getElem?_eq_some_iff.1 hgb).1
      have hsz2 : (selF fr ys).length < 4611686018427387904 := by omega
      have cS := Tryz.slices_Sort_string gb 0 cap (selF fr ys) W hH hgl hsz2
      have hgr := grownBy_sorted (w := W) (g := gb) (n := 0) (os := #[]) #[]
      clear hgr
      gi_wp2
      refine ⟨trivial, (callsIn_wide.2 cS).mono ?_⟩
      rintro e w' ⟨rfl, nn, os, rfl⟩
      have hgr := grownBy_sorted (w := W) (g := gb) (n := nn) (os := os) ((selF fr ys).mergeSort fun x y => decide (x ≤ y)).toArray
      have hro := ownsRow_sorted (n := nn) (os := os) (ts := (selF fr ys).mergeSort fun x y => decide (x ≤ y)) (by simp) hbase hgb r1 r2 r3
      generalize grow (putRow encStr (Sort.ahead W nn) gb 0 ((selF fr ys).mergeSort fun x y => decide (x ≤ y)).toArray) os = W5 at *
      have hc5 : W5.cell? ⟨w.heap.size + 1, 0, none⟩ = some (.slice (some ⟨gb, 0, none⟩) (selF fr ys).length cap) := (cell_of_block (hgr.block _ (by have := hI.size; omega) (by intro e; injection e; omega) |>.trans hv))
      have HK5 : Hid (W5.heap[Dd]? = some (.deferred (some []))) := (hgr.block _ ((Array.getElem?_eq_some_iff.1 hK).1) (by intro e; injection e with e; subst e; rw [hK] at hgb; cases hgb)).trans hK
      have HR5 := hide hro
      have HG5 := hide hgr
      clear hgr hro cS hH hc hI hv hrow hK hK1 hlen hp hm
      gi_wp2
      refine ⟨by simp, .inl ⟨_, _, rfl, run_takeDeferred HK5.out, ?_⟩⟩
      refine ⟨_, results_tmp rfl _ _ _, ?_⟩
      have hlA : (((selF fr ys).mergeSort fun x y => decide (x ≤ y)).map bk).length = (selF fr ys).length := by simp
      have hcu := cutL_le many (selF fr ys).length
      have hcut : ((((selF fr ys).mergeSort fun x y => decide (x ≤ y)).map bk).take (cutL many (selF fr ys).length)).length = cutL many (selF fr ys).length := by rw [List.length_take, hlA]; omega
      have hb5 : Below w.heap.size w W5 := HB.out.grown HG5.out HB.out.size (fun j hj => by cases hj; omega)
      have hbF : Below w.heap.size w (W5.putObj Dd (.deferred none)) := ⟨hb5.os, hb5.tape, hb5.output, by simpa using hb5.size, fun j hj => (World.putObj_heap_other (by omega)).trans (hb5.block j hj)⟩
      have hrF := own_same HR5.out (W' := W5.putObj Dd (.deferred none)) fun g cur t fr hg hc => World.putObj_heap_other fun e => by rw [e, HK5.out] at hc; cases hc
      refine ⟨some ⟨gb, 0, none⟩, cap, (((selF fr ys).mergeSort fun x y => decide (x ≤ y)).map bk).take (cutL many (selF fr ys).length), ?_, by rw [hcut]; omega, by rw [hcut]; have := HLL.out; omega, ?_, ⟨_, HSK.out, by rw [hlA]⟩, hbF⟩
      · rw [hcut]; rfl
      · by_cases hp : 0 < (selF fr ys).length
        · exact strs_row hrF (by simp) hp _
        · have : selF fr ys = [] := List.eq_nil_of_length_eq_zero (by omega)
          rw [this]
          exact .inl (by simp)
  case stop =>
    rintro Dd cc pre W hD _ h _
    exact h.elim
end Go.Proofs.YtonhmihmnkicdaaGreat
