/- What list of a model answers: the keys that are there from one on, rising, and no more than sixteen. (Written by genml2.py.) -/
import Derived.Test.YtlpibpkbgmcclaaDoorMdSel
import Derived.Test.YtlpibpkbgmcclaaDoorMdValue
namespace Go.Proofs.YtlpibpkbgmcclaaDoor
open Go.RowKit Go.Maps Go.Sort Go.Shelf
set_option linter.unusedVariables false
attribute [local go_sem] Oper.semAt_some
structure LI (T : MT) (fr : ByteArray) (xb : Nat) (d : Int) (v : ByteArray) (w : World) (pre : List (List UInt8)) (W : World) : Prop where
  bel : Below w.heap.size w W
  size : w.heap.size + 5 ≤ W.heap.size
  b0 : Boxed W w.heap.size 27 (.pointer (some ⟨xb, 0, none⟩))
  rq : W.heap[w.heap.size + 1]? = some (.cells #[.int .i64 d, .string fr, .string v] 24 (0, 0))
  rs : RsB (w.heap.size + 2) 0 ⟨#[]⟩ none 0 0 W
  row : ∃ v, Boxed W (w.heap.size + 3) 30 v ∧ W.ownsRow (w.heap.size + 5) 9 1 v (selM T fr pre).length ((selM T fr pre).map encStr)
section
variable {T : MT} {fr : ByteArray} {xb : Nat} {d : Int} {v : ByteArray} {w : World}
theorem li_own (T : MT) (fr : ByteArray) (xb : Nat) (d : Int) (v : ByteArray) (w : World) : OwnFrom (w.heap.size + 5) (LI T fr xb d v w) := fun pre W W' row h hg hr => by
  have hk : ∀ k, k < w.heap.size + 5 → W'.heap[k]? = W.heap[k]? := fun k hk => hg.block k (by have := h.size; omega) fun e => by have := (hr k e.symm).1; omega
  obtain ⟨v, h3, h4⟩ := h.row
  exact ⟨below_grown h.bel hg (fun r e => (hr r e).1) (by omega) h.size, Nat.le_trans h.size hg.size, (hk _ (by omega)).trans h.b0, (hk _ (by omega)).trans h.rq, (hk _ (by omega)).trans h.rs, v, (hk _ (by omega)).trans h3, own_kept h4 hg (fun r e => (hr r e).2)⟩
theorem li_none {pre : List (List UInt8)} {W : World} (h : LI T fr xb d v w pre W) {x : List UInt8} (hx : selB T fr x = false) : LI T fr xb d v w (pre ++ [x]) W := by
  obtain ⟨v, h3, h4⟩ := h.row
  exact ⟨h.bel, h.size, h.b0, h.rq, h.rs, v, h3, by rw [selM_snoc, hx]; simpa using h4⟩
theorem li_push {pre : List (List UInt8)} {W w1 : World} (h : LI T fr xb d v w pre W) {x : List UInt8} (hx : selB T fr x = true) {u u' : Value} {tmp : Obj} (hv : Boxed W (w.heap.size + 3) 30 u) (hr : W.ownsRow (w.heap.size + 5) 9 1 u (selM T fr pre).length ((selM T fr pre).map encStr))
    (hown : w1.ownsRow (w.heap.size + 5) 9 1 u' ((selM T fr pre).length + 1) ((selM T fr pre).map encStr ++ [encStr x])) (hgrow : (W.alloc tmp).grownBy w1 u.ownBlock) :
    w1.frozen? ⟨w.heap.size + 3, 0, none⟩ = false ∧ w1.cell? ⟨w.heap.size + 3, 0, none⟩ = some u ∧ KeepsOthers W (w1.setCell ⟨w.heap.size + 3, 0, none⟩ u') ∧ KeepsWalks W (w1.setCell ⟨w.heap.size + 3, 0, none⟩ u') ∧ LI T fr xb d v w (pre ++ [x]) (w1.setCell ⟨w.heap.size + 3, 0, none⟩ u') := by
  obtain ⟨q1, q2, q3, q4⟩ := appd hv (by decide) hr hown hgrow
  have low : ∀ j, j < w.heap.size + 5 → j ≠ w.heap.size + 3 → (w1.setCell ⟨w.heap.size + 3, 0, none⟩ u').heap[j]? = W.heap[j]? := fun j hj h3 => q4.low hr h.size hj h3
  refine ⟨q1.frozen, q1.cell, q4.others, q4.others.walks, ⟨?_, Nat.le_trans h.size q4.size, (low _ (by omega) (by omega)).trans h.b0, (low _ (by omega) (by omega)).trans h.rq, (low _ (by omega) (by omega)).trans h.rs, u', q2, ?_⟩⟩
  · exact ⟨q4.os.trans h.bel.os, q4.tape.trans h.bel.tape, q4.output.trans h.bel.output, Nat.le_trans h.bel.size q4.size, fun j hj => (low j (by omega) (by omega)).trans (h.bel.block j hj)⟩
  · rw [selM_snoc, hx]
    simpa using q3
end
theorem ko_refl (W : World) : KeepsOthers W W ∧ KeepsWalks W W := by
  have h : KeepsOthers W W := KeepsOthers.of_grownBy (grown_none (Below.refl _ W)) (fun j o ej hj => by cases ej)
  exact ⟨h, h.walks⟩
def lW (w : World) (xb b : Nat) (d : Int) (fr v : ByteArray) : World := ((((w.alloc (.cells #[.pointer (some ⟨xb, 0, none⟩)] 27)).alloc (.cells #[.int .i64 d, .string fr, .string v] 24)).alloc (.cells #[.int .i64 0, .string ⟨#[]⟩, .slice none 0 0] 32)).alloc (.cells #[.slice none 0 0] 30)).alloc (.cells #[.map (some b)] 41)
theorem lW_size (w : World) (xb b : Nat) (d : Int) (fr v : ByteArray) : (lW w xb b d fr v).heap.size = w.heap.size + 5 := by unfold lW; simp only [World.size_alloc]
theorem lW_below (w : World) (xb b : Nat) (d : Int) (fr v : ByteArray) : Below w.heap.size w (lW w xb b d fr v) := by
  unfold lW
  exact (((((Below.refl _ w).alloc (Nat.le_refl _) _).alloc (by simp only [World.size_alloc]; omega) _).alloc (by simp only [World.size_alloc]; omega) _).alloc (by simp only [World.size_alloc]; omega) _).alloc (by simp only [World.size_alloc]; omega) _
theorem lW_4 (w : World) (xb b : Nat) (d : Int) (fr v : ByteArray) : (lW w xb b d fr v).cell? ⟨w.heap.size + 4, 0, none⟩ = some (.map (some b)) := by
  unfold lW; exact cell_of_block (c := #[.map (some b)]) (new_at _ _ (by simp only [World.size_alloc]))
theorem li_start (T : MT) (fr : ByteArray) (xb b : Nat) (d : Int) (v : ByteArray) (w : World) : LI T fr xb d v w [] (lW w xb b d fr v) :=
  ⟨lW_below _ _ _ _ _ _, by rw [lW_size]; exact Nat.le_refl _, by unfold lW; exact old_at _ (old_at _ (old_at _ (old_at _ (new_at w _ rfl)))), by unfold lW; exact old_at _ (old_at _ (old_at _ (new_at _ _ (by simp only [World.size_alloc])))), by unfold lW; exact old_at _ (old_at _ (new_at _ _ (by simp only [World.size_alloc]))), _, by unfold lW; exact old_at _ (new_at _ _ (by simp only [World.size_alloc])), World.ownsRow_nil _ _ _ _⟩
theorem rs_set3 {g : Nat} {c : Int} {v : ByteArray} {a : Option Addr} {n p : Nat} {W : World} (h : RsB g c v a n p W) (c' : Int) (v' : ByteArray) (a' : Option Addr) (n' p' : Nat) : RsB g c' v' a' n' p' (((W.setCell ⟨g, 0, none⟩ (.int .i64 c')).setCell ⟨g, 1, none⟩ (.string v')).setCell ⟨g, 2, none⟩ (.slice a' n' p')) :=
  block_setCell (i := 2) (.slice a' n' p') (block_setCell (i := 1) (.string v') (block_setCell (i := 0) (.int .i64 c') h))
theorem set3_other {g i : Nat} {W : World} (hn : i ≠ g) (x y z : Value) : (((W.setCell ⟨g, 0, none⟩ x).setCell ⟨g, 1, none⟩ y).setCell ⟨g, 2, none⟩ z).heap[i]? = W.heap[i]? :=
  (Below.heap_setCell _ _ _ _ hn).trans ((Below.heap_setCell _ _ _ _ hn).trans (Below.heap_setCell _ _ _ _ hn))
theorem set3_below {B g : Nat} {w0 W : World} (h : Below B w0 W) (hg : B ≤ g) (x y z : Value) : Below B w0 (((W.setCell ⟨g, 0, none⟩ x).setCell ⟨g, 1, none⟩ y).setCell ⟨g, 2, none⟩ z) :=
  ((h.setCell (p := ⟨g, 0, none⟩) hg x).setCell (p := ⟨g, 1, none⟩) hg y).setCell (p := ⟨g, 2, none⟩) hg z
/-- what list leaves -/
structure DidL (T : MT) (k : ByteArray) (w : World) (e : Ending) (w' : World) : Prop where
  ex : ∃ a c L, e = .returned (.agg (rsC 0 ByteArray.empty a L.length c)) ∧ L.length ≤ c ∧ L.length ≤ 16 ∧ StrsAt w' a L ∧ (∃ A, Rising (fun q => (T.val q).isSome = true ∧ ¬ q.data.toList < k.data.toList) A ∧ L = A.take 16) ∧ (a = none → c = 0) ∧ ∀ p, a = some p → w.heap.size ≤ p.block
  b : Below w.heap.size w w'
set_option maxRecDepth 100000 in
set_option maxHeartbeats 16000000 in
theorem md_list {w : World} {xb b n : Nat} {T : MT} (h : MdAt w xb b n T) (hn : n ≤ 1000000) (d : Int) (fr v : ByteArray) : Calls Tryd.prog 30 #[.pointer (some ⟨xb, 0, none⟩), .agg #[.int .i64 d, .string fr, .string v]] w (DidL T fr w) := by
  obtain ⟨D0, hown, hcame⟩ := h.came
  have HX := hide h
  have HCA := hide hcame
  have HOK := hide h.ok
  have HD := hide hown.size_le
  have hb0 := lW_below w xb b d fr v
  have hseq : SeqStops Fence.wide 4 Tryd.prog 33 #[.pointer (some ⟨w.heap.size + 4, 0, none⟩)] encStr (fun ss => ss.Perm (strKeys D0) ∧ ∀ x, x ∈ ss ↔ has D0 (.string x) = true) (fun pre => pre.Nodup ∧ ∀ x ∈ pre, has D0 (.string x) = true) (Maps.size D0) (lW w xb b d fr v) :=
    AnyZ.keys_stops (ρ := Tryd.keysH_ren) { Tryd.keysH with } Fence.wide _ trivial rfl (by omega) (w.heap.size + 4) b n D0 (R := hv) _ (by rw [lW_size]; omega) (lW_4 _ _ _ _ _ _) (by
      obtain ⟨es, clock, hb, Ft, hs, hD⟩ := hown
      exact ⟨es, clock, (hb0.block _ (lt_of_block hb)).trans hb, Ft, hs, hD⟩)
  have cK : ∀ mb W, CallsIn Fence.wide 4 Tryd.prog 19 #[.map mb] W fun e w' => e = .returned (.func (.func 33) #[] #[.pointer (some ⟨W.heap.size, 0, none⟩)]) ∧ w' = W.alloc (.cells #[.map mb] 41) := fun mb W => AnyZ.keys_in Tryd.keysH Fence.wide 4 trivial rfl mb W
  obtain ⟨i0, hi0, hz0, hz1, hz2⟩ := info_parts kstr_info
  have hc2 : ((((w.alloc (.cells #[.pointer (some ⟨xb, 0, none⟩)] 27)).alloc (.cells #[.int .i64 d, .string fr, .string v] 24)).alloc (.cells #[.int .i64 0, .string ⟨#[]⟩, .slice none 0 0] 32)).alloc (.cells #[.slice none 0 0] 30)).cell? ⟨xb, 0, none⟩ = some (.map (some b)) :=
    ((((Below.refl _ w).alloc (Nat.le_refl _) _).alloc (by simp only [World.size_alloc]; omega) _).alloc (by simp only [World.size_alloc]; omega) _ |>.alloc (by simp only [World.size_alloc]; omega) _).cell (p := ⟨xb, 0, none⟩) h.xlt |>.trans h.c0
  clear hown h hcame
  refine (callsIn_wide (n := 5)).1 ?_
  refine callsIn_of_wp_marks Tryd.func30 rfl trivial ?_ rfl
  simp only [Tryd.ntmps30, List.size_toArray, List.length_cons, List.length_nil, Nat.reduceAdd, Nat.reduceSub, Array.replicate_succ, Array.replicate_zero, List.push_toArray, List.append_toArray, List.nil_append, List.cons_append]
  have hfK : Fence.wide.fn 19 := trivial
  gi_wp2_with (first | (refine ⟨trivial, ?_⟩; gi_at_call 19; refine (cK _ _).mono ?_; rintro e w' ⟨rfl, rfl⟩) | (gi_at_call 19; refine (cK _ _).mono ?_; rintro e w' ⟨rfl, rfl⟩))
  rw [show ((((w.alloc (.cells #[.pointer (some ⟨xb, 0, none⟩)] 27)).alloc (.cells #[.int .i64 d, .string fr, .string v] 24)).alloc (.cells #[.int .i64 0, .string ⟨#[]⟩, .slice none 0 0] 32)).alloc (.cells #[.slice none 0 0] 30)).alloc (.cells #[.map (some b)] 41) = lW w xb b d fr v from rfl]
  have hsz := lW_size w xb b d fr v
  refine wpIn_rangeFunc_ownF (n := 5) (F := Fence.wide) rfl (by omega) (gf := 33) (lb := #[.pointer (some ⟨w.heap.size + 4, 0, none⟩)]) rfl trivial (enters_of Tryd.func33 (by kernel_rfl) rfl)
    (stops_k hseq) walksK_t (fun W l o o' hl => walksK_b W l o o' hl) (Below.refl _ _) (fun _ => rfl) (LI T fr xb d v w) (fun _ _ _ => False)
    (by have := li_own T fr xb d v w; rw [hsz]; exact this) (fun _ _ _ _ _ h _ _ => h) (li_start _ _ _ _ _ _ _) ?a1 ?assign ?body ?done ?stop
  case assign =>
    intro l x W K hK
    gi_wp2
    exact hK
  case body =>
    rintro lp pre x W hI hlt
    obtain ⟨ho, hw⟩ := ko_refl W
    have HO := hide ho
    have HW := hide hw
    obtain ⟨u, hv, hr⟩ := hI.row
    have hWs := hI.size
    have c0 := hI.b0.cell
    have c1 : W.cell? ⟨w.heap.size + 1, 1, none⟩ = some (.string fr) := cell_of_block hI.rq
    have cx := (HX.out.below hI.bel).c0
    have hl := HX.out.atM x hI.bel
    have HLN := hide (selM_len T fr pre)
    have hNone := fun q => li_none (x := x) hI q
    have HPush := hide (fun (w1 : World) (v' : Value) (tmp : Obj) q => li_push (w1 := w1) (u' := v') (tmp := tmp) hI (x := x) q hv hr)
    have hc := hv.cell
    have HR := hide hr
    have hdm := HD.out
    have hnb : notB fr x = !(Op.bytesLess x fr.toList) := rfl
    have hsel : selB T fr x = (notB fr x && !(atM T x).g) := rfl
    clear hI hv hr ho hw
    generalize hae : atM T x = ex at *
    obtain ⟨y1, y2⟩ := ex
    have hfl := hd_gone y1 y2
    simp only [hdV] at hl
    simp only at hsel
    cases hq : notB fr x with
    | true =>
      rw [hq] at hnb hsel
      replace hnb : Op.bytesLess x fr.toList = false := by simpa using hnb.symm
      cases y2 with
      | false =>
        have hs1 : selB T fr x = true := by rw [hsel]; rfl
        have HP := hide (fun (w1 : World) (v' : Value) (tmp : Obj) => HPush.out w1 v' tmp hs1)
        clear HPush hNone hq hsel hs1 hae
        gi_wp2_with (first | (gi_at_builtin; refine wpListIn_append_own _ rfl (.tmp 27) (.tmp 29) 30 rfl (w.heap.size + 5) 9 i0 (.string ByteArray.empty) 1 16 Tryd.underlying30 hi0 hz0 hz1 hz2 rfl (by decide) _ _ _ rfl (HR.out.alloc _) ⟨W.heap.size, 0, none⟩ 1 1 [encStr x] rfl rfl (cell_one_new _ _ _) (by simp [Value.oneCell']) (by have := HLN.out; unfold maxLen; omega) (by have := HLN.out; omega) (by rw [World.size_alloc]; omega) ?_; intro v' w1 hown' hgrow hn'; clear hn'; obtain ⟨g', cap', rfl⟩ := ownsRow_succ hown'; obtain ⟨hf1, hc1, r1, r2, r3⟩ := HP.out _ _ _ hown' hgrow; have HQ := hide (And.intro r1 (And.intro r2 r3)); clear hown' hgrow r1 r2 r3))
        exact ⟨HQ.out.1, HQ.out.2.1, HQ.out.2.2⟩
      | true =>
        have hs1 : selB T fr x = false := by rw [hsel]; rfl
        have HN := hide (hNone hs1)
        clear HPush hNone hq hsel hs1 hae
        gi_wp2
        exact ⟨HO.out, HW.out, HN.out⟩
    | false =>
      rw [hq] at hnb hsel
      replace hnb : Op.bytesLess x fr.toList = true := by simpa using hnb.symm
      have hs1 : selB T fr x = false := by rw [hsel]; rfl
      have HN := hide (hNone hs1)
      clear HPush hNone hq hsel hs1 hae
      gi_wp2
      exact ⟨HO.out, HW.out, HN.out⟩
  case done =>
    rintro Dd ys W hD ⟨hp, hm⟩ hI hK
    rw [hsz] at hD
    obtain ⟨u, hv, hrow⟩ := hI.row
    have hK1 := sorted_m (fr := fr) HOK.out HCA.out hp hm
    have hlen : (selM T fr ys).length ≤ n := by have := selM_len T fr ys; have := hp.length_eq; have := HCA.out.len; omega
    have hc := hv.cell
    have HK := hide hK
    have HSK := hide hK1
    have HLL := hide hlen
    have HB := hide hI.bel
    have HRS := hide hI.rs
    have r0 : W.cell? ⟨w.heap.size + 2, 0, none⟩ = some (.int .i64 0) := cell_of_block hI.rs
    have r1 : W.cell? ⟨w.heap.size + 2, 1, none⟩ = some (.string ⟨#[]⟩) := cell_of_block hI.rs
    have r2 : W.cell? ⟨w.heap.size + 2, 2, none⟩ = some (.slice none 0 0) := cell_of_block hI.rs
    have f0 := free_of_block (i := 0) hI.rs
    have f1 := free_of_block (i := 1) hI.rs
    have f2 := free_of_block (i := 2) hI.rs
    rcases hrow.2 with ⟨rfl, hz⟩ | ⟨gb, cap, cur, rfl, hbase, hgb, q1, q2, q3, q4⟩
    · have hss : selM T fr ys = [] := List.eq_nil_of_length_eq_zero hz
      clear hK1 hlen hI hp hm hv hrow hK
      gi_wp2
      refine ⟨trivial, (callsIn_wide.2 (Tryd.slices_Sort_string_none _ _ _)).mono ?_⟩
      rintro e w' ⟨rfl, rfl⟩
      gi_wp2
      have HKF : Hid ((((w'.setCell ⟨w.heap.size + 2, 0, none⟩ (.int .i64 0)).setCell ⟨w.heap.size + 2, 1, none⟩ (.string ⟨#[]⟩)).setCell ⟨w.heap.size + 2, 2, none⟩ (.slice none (min 0 16 : Int).toNat 0)).heap[Dd]? = some (.deferred (some []))) := (set3_other (by omega) _ _ _).trans HK.out
      have HRF := hide (rs_set3 HRS.out 0 ⟨#[]⟩ none (min 0 16 : Int).toNat 0)
      have HBF := hide (set3_below HB.out (g := w.heap.size + 2) (by omega) (.int .i64 0) (.string ⟨#[]⟩) (.slice none (min 0 16 : Int).toNat 0))
      refine ⟨by simp, .inl ⟨_, _, rfl, run_takeDeferred HKF.out, ?_⟩⟩
      refine ⟨_, res_rs rfl _ _ (w.heap.size + 2) 0 ⟨#[]⟩ none (min 0 16 : Int).toNat 0 rfl ((World.putObj_heap_other (by omega)).trans HRF.out), ?_⟩
      have he : ((selM T fr ys).mergeSort fun x y => decide (x ≤ y)).map bk = [] := by rw [hss]; simp
      have hsk := HSK.out
      rw [he] at hsk
      exact ⟨⟨none, 0, [], rfl, by simp, by simp, .inl rfl, ⟨[], hsk, by simp⟩, fun _ => rfl, fun p e => by cases e⟩, ⟨HBF.out.os, HBF.out.tape, HBF.out.output, by simpa using HBF.out.size, fun j hj => (World.putObj_heap_other (by omega)).trans (HBF.out.block j hj)⟩⟩
    · have hH : Holds encStr W gb 0 (selM T fr ys).toArray := holds_of_block hgb (by simpa using q4)
      have hgl : gb < W.heap.size := (Array.getElem?_eq_some_iff.1 hgb).1
      have hsz2 : (selM T fr ys).length < 4611686018427387904 := by omega
      have cS := Tryd.slices_Sort_string gb 0 cap (selM T fr ys) W hH hgl hsz2
      gi_wp2
      refine ⟨trivial, (callsIn_wide.2 cS).mono ?_⟩
      rintro e w' ⟨rfl, nn, os, rfl⟩
      have hgr := grownBy_sorted (w := W) (g := gb) (n := nn) (os := os) ((selM T fr ys).mergeSort fun x y => decide (x ≤ y)).toArray
      have hro := ownsRow_sorted (n := nn) (os := os) (ts := (selM T fr ys).mergeSort fun x y => decide (x ≤ y)) (by simp) hbase hgb q1 q2 q3
      generalize grow (putRow encStr (Sort.ahead W nn) gb 0 ((selM T fr ys).mergeSort fun x y => decide (x ≤ y)).toArray) os = W5 at *
      have hc5 : W5.cell? ⟨w.heap.size + 3, 0, none⟩ = some (.slice (some ⟨gb, 0, none⟩) (selM T fr ys).length cap) := (cell_of_block (hgr.block _ (by have := hI.size; omega) (by intro e; injection e; omega) |>.trans hv))
      have hrs5 : RsB (w.heap.size + 2) 0 ⟨#[]⟩ none 0 0 W5 := (hgr.block _ (by have := hI.size; omega) (by intro e; injection e; omega)).trans hI.rs
      have HK5 : Hid (W5.heap[Dd]? = some (.deferred (some []))) := (hgr.block _ ((Array.getElem?_eq_some_iff.1 hK).1) (by intro e; injection e with e; subst e; rw [hK] at hgb; cases hgb)).trans hK
      have HR5 := hide hro
      have HG5 := hide hgr
      have HRS5 := hide hrs5
      have s0 : W5.cell? ⟨w.heap.size + 2, 0, none⟩ = some (.int .i64 0) := cell_of_block hrs5
      have s1 : W5.cell? ⟨w.heap.size + 2, 1, none⟩ = some (.string ⟨#[]⟩) := cell_of_block hrs5
      have s2 : W5.cell? ⟨w.heap.size + 2, 2, none⟩ = some (.slice none 0 0) := cell_of_block hrs5
      have g0 := free_of_block (i := 0) hrs5
      have g1 := free_of_block (i := 1) hrs5
      have g2 := free_of_block (i := 2) hrs5
      have hcapI : ((selM T fr ys).length : Int) ≤ (cap : Int) := by omega
      clear hgr hro cS hH hc hI hv hrow hK hK1 hlen hp hm hrs5 r0 r1 r2 f0 f1 f2
      obtain ⟨m, hm⟩ : ∃ m, (selM T fr ys).length = m := ⟨_, rfl⟩
      have HM := hide hm
      rw [hm] at hc5 hcapI
      have hmin0 : (0 : Int) ≤ min (m : Int) 16 := by omega
      have hmin1 : min (m : Int) 16 ≤ (cap : Int) := by omega
      clear hm
      gi_wp2
      have hne2 : gb ≠ w.heap.size + 2 := by omega
      have hD2 : Dd ≠ w.heap.size + 2 := by omega
      have HKF : Hid ((((W5.setCell ⟨w.heap.size + 2, 0, none⟩ (.int .i64 0)).setCell ⟨w.heap.size + 2, 1, none⟩ (.string ⟨#[]⟩)).setCell ⟨w.heap.size + 2, 2, none⟩ (.slice (some ⟨gb, 0, none⟩) (min (m : Int) 16).toNat cap)).heap[Dd]? = some (.deferred (some []))) := (set3_other hD2 _ _ _).trans HK5.out
      have HRF := hide (rs_set3 HRS5.out 0 ⟨#[]⟩ (some ⟨gb, 0, none⟩) (min (m : Int) 16).toNat cap)
      have hb5 : Below w.heap.size w W5 := HB.out.grown HG5.out (by have := HRS5; omega) (fun j hj => by cases hj; omega)
      have HBF := hide (set3_below hb5 (g := w.heap.size + 2) (by omega) (.int .i64 0) (.string ⟨#[]⟩) (.slice (some ⟨gb, 0, none⟩) (min (m : Int) 16).toNat cap))
      refine ⟨by simp, .inl ⟨_, _, rfl, run_takeDeferred HKF.out, ?_⟩⟩
      refine ⟨_, res_rs rfl _ _ (w.heap.size + 2) 0 ⟨#[]⟩ (some ⟨gb, 0, none⟩) (min (m : Int) 16).toNat cap rfl ((World.putObj_heap_other (by omega)).trans HRF.out), ?_⟩
      have hlA : (((selM T fr ys).mergeSort fun x y => decide (x ≤ y)).map bk).length = m := by simp [HM.out]
      have hcut : ((((selM T fr ys).mergeSort fun x y => decide (x ≤ y)).map bk).take 16).length = (min (m : Int) 16).toNat := by rw [List.length_take, hlA]; omega
      have hrF := own_same HR5.out (W' := (((W5.setCell ⟨w.heap.size + 2, 0, none⟩ (.int .i64 0)).setCell ⟨w.heap.size + 2, 1, none⟩ (.string ⟨#[]⟩)).setCell ⟨w.heap.size + 2, 2, none⟩ (.slice (some ⟨gb, 0, none⟩) (min (m : Int) 16).toNat cap)).putObj Dd (.deferred none)) fun g cur t fr hg hc => (World.putObj_heap_other fun e => by rw [e, HK5.out] at hc; cases hc).trans (set3_other (by omega) _ _ _)
      refine ⟨⟨some ⟨gb, 0, none⟩, cap, (((selM T fr ys).mergeSort fun x y => decide (x ≤ y)).map bk).take 16, ?_, by rw [hcut]; omega, by rw [hcut]; omega, ?_, ⟨_, HSK.out, rfl⟩, (fun e => by cases e), fun p e => by cases e; show _ ≤ gb; omega⟩, ⟨HBF.out.os, HBF.out.tape, HBF.out.output, by simpa using HBF.out.size, fun j hj => (World.putObj_heap_other (by omega)).trans (HBF.out.block j hj)⟩⟩
      · rw [hcut]; rfl
      · by_cases hp : 0 < m
        · rw [HM.out] at hrF
          exact strs_row hrF (by simp [HM.out]) hp _
        · have : selM T fr ys = [] := List.eq_nil_of_length_eq_zero (by have := HM.out; omega)
          rw [this]
          exact .inl (by simp)
  case stop =>
    rintro Dd cc pre W hD _ h _
    exact h.elim
end Go.Proofs.YtlpibpkbgmcclaaDoor
