/- The keys that are there, rising, as the document chooses them: one least key after another. What List of the document's index answers. -/
import Derived.Test.YtonhmihmnkicdaaGreatKxGet
import Derived.Test.YtonhmihmnkicdaaGreatIxList
namespace Go.Proofs.YtonhmihmnkicdaaGreat
open Go.RowKit Go.Sort
set_option linter.unusedVariables false
theorem bl_is (a b : ByteArray) : Op.bytesLess a.toList b.toList = decide (a.data.toList < b.data.toList) := by rw [bytesLess_eq, Lib.toList_data, Lib.toList_data]
def leB (x y : ByteArray) : Bool := decide (x.data.toList ≤ y.data.toList)
def fromB (fr x : ByteArray) : Bool := !decide (x.data.toList < fr.data.toList)
def SL (E : List En) (fr : ByteArray) : List ByteArray := ((E.map En.key).filter (fromB fr)).mergeSort leB
theorem sl_len (E : List En) (fr : ByteArray) : (SL E fr).length ≤ E.length := by
  unfold SL
  rw [List.length_mergeSort]
  exact Nat.le_trans (List.length_filter_le _ _) (by rw [List.length_map]; exact Nat.le_refl _)
theorem ba_ext {a b : ByteArray} (h : a.data.toList = b.data.toList) : a = b := by
  cases a; cases b; simp at h; rw [h]
theorem sl_sorted {S : KS} {X : FX} (hr : Rel S X) (hi : X.Inv) (fr : ByteArray) : SortedK X.T fr (SL S.E fr) := by
  have hperm := List.mergeSort_perm ((S.E.map En.key).filter (fromB fr)) leB
  have hsort : (SL S.E fr).Pairwise (fun x y => leB x y = true) := List.pairwise_mergeSort (fun a b c h1 h2 => by unfold leB at *; simp at *; exact List.le_trans h1 h2) (fun a b => by unfold leB; simpa using List.le_total a.data.toList b.data.toList) _
  have hnd : (S.E.map En.key).Nodup := List.pairwise_map.2 hr.ke
  have hnod : (SL S.E fr).Nodup := (hperm.nodup_iff).2 (hnd.filter _)
  refine ⟨(hsort.and hnod).imp fun {a b} hab => ?_, fun k => ?_⟩
  · obtain ⟨h1, h2⟩ := hab
    have h1 : a.data.toList ≤ b.data.toList := by simpa [leB] using h1
    by_cases q : a.data.toList < b.data.toList
    · exact q
    · exact absurd (ba_ext (List.le_antisymm h1 (List.not_lt.1 q))) h2
  · show k ∈ SL S.E fr ↔ _
    unfold SL
    rw [hperm.mem_iff, List.mem_filter, List.mem_map]
    constructor
    · rintro ⟨⟨e, he, rfl⟩, h2⟩
      have hT := hr.ofE he
      exact ⟨(hi.t _ _ hT).1, by rw [hT]; rfl, by simpa [fromB] using h2⟩
    · rintro ⟨_, h2, h3⟩
      cases hT : X.T k with
      | none => rw [hT] at h2; cases h2
      | some e =>
        obtain ⟨he, hk⟩ := hr.memE hT
        exact ⟨⟨e, he, hk⟩, by simpa [fromB] using h3⟩
/-- a key that may come next -/
def Cand (A : List ByteArray) (j : Nat) (fr k : ByteArray) : Prop := ¬ k.data.toList < fr.data.toList ∧ (j = 0 ∨ ∃ p, A[j - 1]? = some p ∧ p.data.toList < k.data.toList)
section
variable {T : ByteArray → Option En} {fr : ByteArray} {A : List ByteArray} {j : Nat}
theorem sorted_at (hA : SortedK T fr A) {i q : Nat} {a b : ByteArray} (ha : A[i]? = some a) (hb : A[q]? = some b) (h : i < q) : a.data.toList < b.data.toList := by
  obtain ⟨h1, e1⟩ := List.getElem?_eq_some_iff.1 ha
  obtain ⟨h2, e2⟩ := List.getElem?_eq_some_iff.1 hb
  have := List.pairwise_iff_getElem.1 hA.1 i q h1 h2 h
  rw [e1, e2] at this
  exact this
theorem cand_in (hA : SortedK T fr A) {k : ByteArray} (hk : okS k) (hT : (T k).isSome = true) (hc : Cand A j fr k) : ∃ i, j ≤ i ∧ A[i]? = some k := by
  obtain ⟨i, hi, e⟩ := List.getElem_of_mem ((hA.2 k).2 ⟨hk, hT, hc.1⟩)
  have hik : A[i]? = some k := by rw [List.getElem?_eq_getElem hi, e]
  refine ⟨i, ?_, hik⟩
  rcases hc.2 with q | ⟨p, hp, hlt⟩
  · omega
  · by_cases hle : j ≤ i
    · exact hle
    · exfalso
      by_cases he : i = j - 1
      · rw [he, hp] at hik; cases hik; exact List.lt_irrefl _ hlt
      · have := sorted_at hA hik hp (by omega)
        exact List.lt_irrefl _ (List.lt_trans this hlt)
theorem at_cand (hA : SortedK T fr A) {k : ByteArray} (hk : A[j]? = some k) : Cand A j fr k ∧ (T k).isSome = true := by
  obtain ⟨h1, h2, h3⟩ := (hA.2 k).1 (List.mem_of_getElem? hk)
  refine ⟨⟨h3, ?_⟩, h2⟩
  by_cases q : j = 0
  · exact .inl q
  · have hl := (List.getElem?_eq_some_iff.1 hk).1
    refine .inr ⟨A[j - 1]'(by omega), List.getElem?_eq_getElem (by omega), sorted_at hA (List.getElem?_eq_getElem (by omega)) hk (by omega)⟩
/-- the least of the keys that may come next, of the first i -/
def BestIs (E : List En) (A : List ByteArray) (j : Nat) (fr : ByteArray) (i : Nat) (r : Int) : Prop :=
  (r = -1 ∧ ∀ q e, q < i → E[q]? = some e → ¬ Cand A j fr e.key) ∨ ∃ (b : Nat) (e : En), r = (b : Int) ∧ b < i ∧ E[b]? = some e ∧ Cand A j fr e.key ∧ ∀ q e', q < i → E[q]? = some e' → Cand A j fr e'.key → ¬ e'.key.data.toList < e.key.data.toList
variable {E : List En} {i : Nat} {r : Int} {e : En}
theorem best_start : BestIs E A j fr 0 (-1) := .inl ⟨rfl, fun q e h => absurd h (Nat.not_lt_zero _)⟩
theorem best_skip (h : BestIs E A j fr i r) (he : E[i]? = some e) (hc : ¬ Cand A j fr e.key) : BestIs E A j fr (i + 1) r := by
  rcases h with ⟨h1, h2⟩ | ⟨b, eb, h1, h2, h3, h4, h5⟩
  · refine .inl ⟨h1, fun q e' hq hq' => ?_⟩
    by_cases x : q = i
    · subst x; rw [he] at hq'; cases hq'; exact hc
    · exact h2 q e' (by omega) hq'
  · refine .inr ⟨b, eb, h1, by omega, h3, h4, fun q e' hq hq' hc' => ?_⟩
    by_cases x : q = i
    · subst x; rw [he] at hq'; cases hq'; exact absurd hc' hc
    · exact h5 q e' (by omega) hq' hc'
theorem best_first (h : BestIs E A j fr i r) (hr : r < 0) (he : E[i]? = some e) (hc : Cand A j fr e.key) : BestIs E A j fr (i + 1) (i : Int) := by
  rcases h with ⟨h1, h2⟩ | ⟨b, eb, h1, _⟩
  · refine .inr ⟨i, e, rfl, by omega, he, hc, fun q e' hq hq' hc' => ?_⟩
    by_cases x : q = i
    · subst x; rw [he] at hq'; cases hq'; exact List.lt_irrefl _
    · exact absurd hc' (h2 q e' (by omega) hq')
  · omega
theorem best_less {b : Nat} {eb : En} (h : BestIs E A j fr i (b : Int)) (hb : E[b]? = some eb) (he : E[i]? = some e) (hc : Cand A j fr e.key) (hl : e.key.data.toList < eb.key.data.toList) : BestIs E A j fr (i + 1) (i : Int) := by
  rcases h with ⟨h1, h2⟩ | ⟨b', eb', h1, h2, h3, h4, h5⟩
  · omega
  · have : b' = b := by omega
    subst this
    rw [hb] at h3; cases h3
    refine .inr ⟨i, e, rfl, by omega, he, hc, fun q e' hq hq' hc' => ?_⟩
    by_cases x : q = i
    · subst x; rw [he] at hq'; cases hq'; exact List.lt_irrefl _
    · intro hlt
      exact h5 q e' (by omega) hq' hc' (List.lt_trans hlt hl)
theorem best_keep {b : Nat} {eb : En} (h : BestIs E A j fr i (b : Int)) (hb : E[b]? = some eb) (he : E[i]? = some e) (hl : ¬ e.key.data.toList < eb.key.data.toList) : BestIs E A j fr (i + 1) (b : Int) := by
  rcases h with ⟨h1, h2⟩ | ⟨b', eb', h1, h2, h3, h4, h5⟩
  · omega
  · have : b' = b := by omega
    subst this
    rw [hb] at h3; cases h3
    refine .inr ⟨b', eb, rfl, by omega, hb, h4, fun q e' hq hq' hc' => ?_⟩
    by_cases x : q = i
    · subst x; rw [he] at hq'; cases hq'; exact hl
    · exact h5 q e' (by omega) hq' hc'
theorem best_some (h : BestIs E A j fr i r) (hr : 0 ≤ r) : ∃ (b : Nat) (eb : En), r = (b : Int) ∧ b < i ∧ E[b]? = some eb := by
  rcases h with ⟨h1, h2⟩ | ⟨b, eb, h1, h2, h3, _⟩
  · omega
  · exact ⟨b, eb, h1, h2, h3⟩
theorem best_ge (h : BestIs E A j fr i r) : -1 ≤ r := by
  rcases h with ⟨h1, h2⟩ | ⟨b, eb, h1, h2, h3, _⟩ <;> omega
theorem best_end {S : KS} {X : FX} (hr : Rel S X) (hA : SortedK X.T fr A) (h : BestIs S.E A j fr S.E.length r) (hlt : r < 0) (hj : j ≤ A.length) : j = A.length := by
  rcases h with ⟨h1, h2⟩ | ⟨b, eb, h1, _⟩
  · by_cases q : j = A.length
    · exact q
    · exfalso
      have hk : A[j]? = some (A[j]'(by omega)) := List.getElem?_eq_getElem (by omega)
      obtain ⟨c1, c2⟩ := at_cand hA hk
      cases hT : X.T (A[j]'(by omega)) with
      | none => rw [hT] at c2; cases c2
      | some e =>
        obtain ⟨he, hek⟩ := hr.memE hT
        obtain ⟨q', hq', e'⟩ := List.getElem_of_mem he
        refine h2 q' e hq' (by rw [List.getElem?_eq_getElem hq', e']) ?_
        rw [hek]; exact c1
  · omega
theorem best_next {S : KS} {X : FX} (hr : Rel S X) (hi : X.Inv) (hA : SortedK X.T fr A) {b : Nat} {eb : En} (h : BestIs S.E A j fr S.E.length (b : Int)) (hb : S.E[b]? = some eb) : A[j]? = some eb.key := by
  rcases h with ⟨h1, h2⟩ | ⟨b', eb', h1, h2, h3, h4, h5⟩
  · omega
  · have : b' = b := by omega
    subst this
    rw [hb] at h3; cases h3
    have hT := hr.ofE (List.mem_of_getElem? hb)
    obtain ⟨q, hq, hqk⟩ := cand_in hA (hi.t _ _ hT).1 (by rw [hT]; rfl) h4
    by_cases e : q = j
    · rw [← e]; exact hqk
    · exfalso
      have hl := (List.getElem?_eq_some_iff.1 hqk).1
      have hk : A[j]? = some (A[j]'(by omega)) := List.getElem?_eq_getElem (by omega)
      obtain ⟨c1, c2⟩ := at_cand hA hk
      have hlt := sorted_at hA hk hqk (by omega)
      cases hTj : X.T (A[j]'(by omega)) with
      | none => rw [hTj] at c2; cases c2
      | some e2 =>
        obtain ⟨he, hek⟩ := hr.memE hTj
        obtain ⟨q', hq', e'⟩ := List.getElem_of_mem he
        refine h5 q' e2 hq' (by rw [List.getElem?_eq_getElem hq', e']) (by rw [hek]; exact c1) (by rw [hek]; exact hlt)
theorem take_list {many : Int} (hA : SortedK T fr A) (hj : j ≤ A.length) (hm : j = 0 ∨ (j : Int) ≤ many) (he : j = A.length ∧ (j : Int) ≤ many ∨ many ≤ (j : Int)) : ListIs T fr many (A.take j) := by
  refine ⟨A, hA, ?_⟩
  have : cutL many A.length = j := by unfold cutL; omega
  rw [this]
end
end Go.Proofs.YtonhmihmnkicdaaGreat
namespace Go.Proofs.YtonhmihmnkicdaaGreat
open Go.RowKit
set_option linter.unusedVariables false
/-- one row of one's own grows: who changes what -/
theorem growM {B base z n : Nat} {W w1 : World} {e : TypeId} {v : Value} {xs : List Value} {o : Obj} (hne : e ≠ 84) (hB : B ≤ base) (hBW : B ≤ W.heap.size) (hrow : W.ownsRow base e z v n xs) (hgr : (W.alloc o).grownBy w1 v.ownBlock) : Mds B (fun i => v.ownBlock = some i) W (fun _ => False) w1 := by
  have hb : ∀ i, i < W.heap.size → v.ownBlock ≠ some i → w1.heap[i]? = W.heap[i]? := fun i hi hn => (hgr.block i (by rw [World.size_alloc]; omega) (fun e => hn e.symm)).trans (Below.heap_alloc _ _ _ hi)
  have hsz : W.heap.size ≤ w1.heap.size := by have := hgr.size; rw [World.size_alloc] at this; omega
  refine ⟨⟨hgr.os, hgr.tape, hgr.output, hsz, fun k hk => hb k (by omega) (fun e => by have := (own_at hrow e).1; omega)⟩, hsz, fun i hi hn => hb i hi hn, fun i cur fr hc => hb i (lt_of_block hc) (fun e => ?_), fun i hi => hi.elim⟩
  obtain ⟨_, _, cur2, hc2⟩ := own_at hrow e
  rw [hc2] at hc; injection hc with hc; injection hc with _ q; exact hne q
theorem cell_one_str (w : World) (v : Value) (t : TypeId) : ∀ j u, [v][j]? = some u → (w.alloc (.cells #[v] t)).cell? ((⟨w.heap.size, 0, none⟩ : Addr).add j) = some u := by
  intro j u hj
  rw [add_plain, cell_of_block (heap_alloc_new w (.cells #[v] t)), Nat.zero_add]
  match j, hj with
  | 0, hj => exact hj
def lenV : Value → Nat | .slice _ n _ => n | _ => 0
theorem strs_ks {w : World} {B : Nat} {a : Option Addr} {c : Nat} {L : List ByteArray} (h : w.ownsRow B 9 1 (.slice a L.length c) L.length (ksS L)) : StrsAt w a L := by
  rcases row_form h with ⟨h1, h2⟩ | ⟨g, c', h1, h2, h3⟩
  · exact .inl (List.length_eq_zero_iff.1 h2)
  · injection h1 with e1 e2 e3
    subst e1
    exact .inr ⟨g, 0, rfl, h3, fun i s hs => by rw [Nat.zero_add]; exact row_cell (a := none) h (by unfold ksS; rw [List.getElem?_map, hs]; rfl)⟩
structure LO (A : List ByteArray) (many : Int) (w : World) (j : Nat) (v : Value) (wr : World) : Prop where
  le : j ≤ A.length
  mn : j = 0 ∨ (j : Int) ≤ many
  row : wr.ownsRow w.heap.size 9 1 v j (ksS (A.take j))
  bel : Below w.heap.size w wr
theorem LO.push {A : List ByteArray} {many : Int} {w wr w1 : World} {j : Nat} {v v' : Value} {k : ByteArray} {o : Obj} (h : LO A many w j v wr) (hk : A[j]? = some k) (hm : (j : Int) < many) (hown : w1.ownsRow w.heap.size 9 1 v' (j + 1) (ksS (A.take j) ++ [.string k])) (hgr : (wr.alloc o).grownBy w1 v.ownBlock) : LO A many w (j + 1) v' w1 := by
  have m := growM (B := w.heap.size) (by decide) (Nat.le_refl _) h.bel.size h.row hgr
  refine ⟨(List.getElem?_eq_some_iff.1 hk).1, .inr (by omega), ?_, h.bel.trans m.bel⟩
  rw [List.take_add_one, hk]
  show w1.ownsRow _ _ _ _ _ (ksS (A.take j ++ [k]))
  rw [ksS_snoc]; exact hown
set_option maxRecDepth 100000 in
set_option maxHeartbeats 16000000 in
theorem kx_list {B : Nat} {w : World} {K : Kx} {S : KS} {X : FX} (h : KxAt B w K S) (hr : Rel S X) (hi : X.Inv) (hn : S.E.length ≤ 100000) (fr : ByteArray) (many : Int) : Calls Tryz.prog 47 #[.pointer (some ⟨K.kb, 0, none⟩), .string fr, .int .i64 many] w (Listed X.T fr many S.E.length w) := by
  obtain ⟨A, hAe⟩ : ∃ A, SL S.E fr = A := ⟨_, rfl⟩
  have hA := sl_sorted hr hi fr
  have hAl := sl_len S.E fr
  rw [hAe] at hA hAl
  have HA := hide hA
  have HRL := hide hr
  have HIV := hide hi
  have HX := hide h
  have HKL := hide (lt_of_block h.box)
  obtain ⟨i0, hi0, hz0, hz1, hz2⟩ := info_parts kstr_info
  have HI := hide hi0
  have HI0 := hide hz0
  have HI1 := hide hz1
  have HI2 := hide hz2
  obtain ⟨m, hm⟩ : ∃ m, S.E.length = m := ⟨_, rfl⟩
  have HM := hide hm
  rw [hm] at hn hAl
  have HAL := hide hAl
  have HEX : Hid (∃ a c, K.vE = .slice a m c ∧ m ≤ c) := by
    obtain ⟨a, c, h1, h2, _⟩ := own_slice h.e
    rw [hm] at h1 h2
    exact ⟨a, c, h1, h2⟩
  obtain ⟨ea, ec, hve, hec⟩ := HEX.out
  have HVE := hide hve
  have HC0 := hide h.cells.1
  clear h hr hi hA hAe hm hi0 hz0 hz1 hz2 hve HEX
  go_enter Tryz.func47, Tryz.ntmps47
  go_wp2_with fail
  go_loopw [7] (fun v wr => ∃ j : Nat, Hid (LO A many w j v wr)) (fun v _ => A.length - lenV v)
  case atStart => exact ⟨0, hide ⟨Nat.zero_le _, .inl rfl, World.ownsRow_nil _ _ _ _, Below.refl _ _⟩⟩
  case round =>
    obtain ⟨j, HO⟩ := hrel
    obtain ⟨W, hW⟩ : ∃ W, W = wr := ⟨_, rfl⟩
    subst hW
    have hjA := HO.out.le
    have HOS := hide (own_slice HO.out.row)
    obtain ⟨a, c, rfl, hjc, _⟩ := own_slice HO.out.row
    have hj100 : j ≤ 100000 := by have := HAL.out; omega
    have hc0 : W.cell? ⟨K.kb, 0, none⟩ = some (.slice ea m ec) := by
      rw [← HVE.out]
      exact (HO.out.bel.cell (p := ⟨K.kb, 0, none⟩) HKL.out).trans HC0.out
    clear HOS
    by_cases hlt : (j : Int) < many
    · have hd : decide ((j : Int) < many) = true := by simpa using hlt
      have HXW := hide (HX.out.below HO.out.bel)
      have HHL := hide hlt
      have HJA := hide hjA
      clear hlt hjA
      go_wp2_with fail
      go_loopw [8, 9] (fun r y wi => ∃ (i : Nat) (b : Int), i ≤ m ∧ y = .int .i64 (i : Int) ∧ r = .int .i64 b ∧ Hid (BestIs S.E A j fr i b) ∧ W = wi) (fun r y _ => m - (kIx y).toNat)
      case atStart => exact ⟨0, -1, by omega, rfl, rfl, hide best_start, rfl⟩
      case round =>
        obtain ⟨i, b, hi, rfl, rfl, HB, rfl⟩ := hrel
        by_cases him : i < m
        · have hd1 : decide ((i : Int) < (m : Int)) = true := by simp; omega
          have hi1 : (i : Int) < (m : Int) := by omega
          have hi2 : (0 : Int) ≤ (i : Int) := by omega
          obtain ⟨e, he⟩ : ∃ e, S.E[i]? = some e := ⟨_, List.getElem?_eq_getElem (by have := HM.out; omega)⟩
          obtain ⟨g, gc, hv, _, hgl, _⟩ := kx_slice HXW.out he
          rw [HVE.out, HM.out] at hv
          injection hv with hv1 hv2 hv3
          subst hv1
          subst hv3
          have ck := (kx_cells HXW.out HM.out HVE.out he).1
          have HE := hide he
          obtain ⟨k, hk⟩ : ∃ k, e.key = k := ⟨_, rfl⟩
          rw [hk] at ck
          have HK := hide hk
          clear he hk hv2
          by_cases h1 : k.data.toList < fr.data.toList
          · have g1 : Op.bytesLess k.toList fr.toList = true := by rw [bl_is]; simpa using h1
            have HN := hide (best_skip HB.out HE.out (fun q => q.1 (by rw [HK.out]; exact h1)))
            clear h1
            go_wp2_with fail
            all_goals exact ⟨⟨i + 1, b, by omega, by go_num, rfl, HN, trivial⟩, by simp [kIx]; omega⟩
          · have g1 : Op.bytesLess k.toList fr.toList = false := by rw [bl_is]; simpa using h1
            have HF1 := hide h1
            clear h1
            have hbge := best_ge HB.out
            by_cases hj0 : j = 0
            · subst hj0
              have HCD : Hid (Cand A 0 fr e.key) := ⟨by rw [HK.out]; exact HF1.out, .inl rfl⟩
              by_cases hb0 : b < 0
              · have hdb : decide (b < (0 : Int)) = true := by simpa using hb0
                have HN := hide (best_first HB.out hb0 HE.out HCD.out)
                clear hb0 hbge
                go_wp2_with fail
                all_goals exact ⟨⟨i + 1, i, by omega, by go_num, rfl, HN, trivial⟩, by simp [kIx]; omega⟩
              · have hdb : decide (b < (0 : Int)) = false := by simpa using hb0
                obtain ⟨bn, eb, rfl, hbi, heb⟩ := best_some HB.out (by omega)
                have cb := (kx_cells HXW.out HM.out HVE.out heb).1
                have hbm : (bn : Int) < (m : Int) := by omega
                have hb2 : (0 : Int) ≤ (bn : Int) := by omega
                have HEB := hide heb
                obtain ⟨kb, hkb⟩ : ∃ kb, eb.key = kb := ⟨_, rfl⟩
                rw [hkb] at cb
                have HKB := hide hkb
                clear heb hkb hb0 hbge
                by_cases h3 : k.data.toList < kb.data.toList
                · have g3 : Op.bytesLess k.toList kb.toList = true := by rw [bl_is]; simpa using h3
                  have HN := hide (best_less HB.out HEB.out HE.out HCD.out (by rw [HK.out, HKB.out]; exact h3))
                  clear h3
                  go_wp2_with fail
                  all_goals exact ⟨⟨i + 1, i, by omega, by go_num, rfl, HN, trivial⟩, by simp [kIx]; omega⟩
                · have g3 : Op.bytesLess k.toList kb.toList = false := by rw [bl_is]; simpa using h3
                  have HN := hide (best_keep HB.out HEB.out HE.out (by rw [HK.out, HKB.out]; exact h3))
                  clear h3
                  go_wp2_with fail
                  all_goals exact ⟨⟨i + 1, bn, by omega, by go_num, rfl, HN, trivial⟩, by simp [kIx]; omega⟩
            · have hje : ((j : Int) == 0) = false := by simp; omega
              have hj7 : ((j - 1 : Nat) : Int) < (j : Int) := by omega
              have hj8 : (0 : Int) ≤ ((j - 1 : Nat) : Int) := by omega
              have hj6 : IntKind.i64.wrap ((j : Int) - 1) = ((j - 1 : Nat) : Int) := by rw [IntKind.wrap_i64]; omega
              obtain ⟨p, hp⟩ : ∃ p, A[j - 1]? = some p := ⟨_, List.getElem?_eq_getElem (by have := HJA.out; omega)⟩
              have hrow := HO.out.row
              rcases row_form hrow with ⟨_, h0⟩ | ⟨og, oc, hov, _, hogl⟩
              · omega
              · injection hov with ho1 ho2 ho3
                subst ho1
                subst ho3
                have cp := row_cell (a := none) hrow (p := j - 1) (v := .string p) (by unfold ksS; rw [List.getElem?_map, List.getElem?_take, if_pos (by omega), hp]; rfl)
                have HP := hide hp
                clear hrow hp ho2
                by_cases h2 : p.data.toList < k.data.toList
                · have g2 : Op.bytesLess k.toList p.toList = false := by rw [bl_is]; simpa using fun q => List.lt_irrefl _ (List.lt_trans q h2)
                  have g2b : (k.toList == p.toList) = false := str_ne (fun e => by rw [e] at h2; exact List.lt_irrefl _ h2)
                  have HCD : Hid (Cand A j fr e.key) := ⟨by rw [HK.out]; exact HF1.out, .inr ⟨p, HP.out, by rw [HK.out]; exact h2⟩⟩
                  clear h2
                  by_cases hb0 : b < 0
                  · have hdb : decide (b < (0 : Int)) = true := by simpa using hb0
                    have HN := hide (best_first HB.out hb0 HE.out HCD.out)
                    clear hb0 hbge
                    generalize j - 1 = jm at *
                    go_wp2_with fail
                    all_goals exact ⟨⟨i + 1, i, by omega, by go_num, rfl, HN, trivial⟩, by simp [kIx]; omega⟩
                  · have hdb : decide (b < (0 : Int)) = false := by simpa using hb0
                    obtain ⟨bn, eb, rfl, hbi, heb⟩ := best_some HB.out (by omega)
                    have cb := (kx_cells HXW.out HM.out HVE.out heb).1
                    have hbm : (bn : Int) < (m : Int) := by omega
                    have hb2 : (0 : Int) ≤ (bn : Int) := by omega
                    have HEB := hide heb
                    obtain ⟨kb, hkb⟩ : ∃ kb, eb.key = kb := ⟨_, rfl⟩
                    rw [hkb] at cb
                    have HKB := hide hkb
                    clear heb hkb hb0 hbge
                    by_cases h3 : k.data.toList < kb.data.toList
                    · have g3 : Op.bytesLess k.toList kb.toList = true := by rw [bl_is]; simpa using h3
                      have HN := hide (best_less HB.out HEB.out HE.out HCD.out (by rw [HK.out, HKB.out]; exact h3))
                      clear h3
                      generalize j - 1 = jm at *
                      go_wp2_with fail
                      all_goals exact ⟨⟨i + 1, i, by omega, by go_num, rfl, HN, trivial⟩, by simp [kIx]; omega⟩
                    · have g3 : Op.bytesLess k.toList kb.toList = false := by rw [bl_is]; simpa using h3
                      have HN := hide (best_keep HB.out HEB.out HE.out (by rw [HK.out, HKB.out]; exact h3))
                      clear h3
                      generalize j - 1 = jm at *
                      go_wp2_with fail
                      all_goals exact ⟨⟨i + 1, bn, by omega, by go_num, rfl, HN, trivial⟩, by simp [kIx]; omega⟩
                · have HN := hide (best_skip HB.out HE.out (fun q => by
                    rcases q.2 with x | ⟨p', hp', hl⟩
                    · exact hj0 x
                    · rw [HP.out] at hp'; cases hp'; rw [HK.out] at hl; exact h2 hl))
                  by_cases h4 : k.data.toList < p.data.toList
                  · have g2 : Op.bytesLess k.toList p.toList = true := by rw [bl_is]; simpa using h4
                    clear h2 h4 hbge
                    generalize j - 1 = jm at *
                    go_wp2_with fail
                    all_goals exact ⟨⟨i + 1, b, by omega, by go_num, rfl, HN, trivial⟩, by simp [kIx]; omega⟩
                  · have g2 : Op.bytesLess k.toList p.toList = false := by rw [bl_is]; simpa using h4
                    have g2b : (k.toList == p.toList) = true := str_eq (ba_ext (List.le_antisymm (List.not_lt.1 h2) (List.not_lt.1 h4)))
                    clear h2 h4 hbge
                    generalize j - 1 = jm at *
                    go_wp2_with fail
                    all_goals exact ⟨⟨i + 1, b, by omega, by go_num, rfl, HN, trivial⟩, by simp [kIx]; omega⟩
        · have hd1 : decide ((i : Int) < (m : Int)) = false := by simp; omega
          obtain rfl : i = m := by omega
          have HBE : Hid (BestIs S.E A j fr S.E.length b) := by have := HB.out; rw [← HM.out] at this; exact this
          by_cases hb0 : b < 0
          · have hdb : decide (b < (0 : Int)) = true := by simpa using hb0
            have hje := best_end HRL.out HA.out HBE.out hb0 HJA.out
            have HLI := hide (take_list HA.out HO.out.le HO.out.mn (.inl ⟨hje, by have := HHL.out; omega⟩))
            have hal := HAL.out
            have HST : Hid (StrsAt W a (A.take j) ∧ (A.take j).length = j) := by
              have hl : (A.take j).length = j := by rw [List.length_take]; have := HO.out.le; omega
              have := HO.out.row
              refine ⟨strs_ks (B := w.heap.size) (c := c) (by rw [hl]; exact this), hl⟩
            have HJE := hide hje
            clear hb0 hje
            go_wp2_with fail
            try go_ret
            exact ⟨a, c, A.take j, by rw [HST.out.2]; rfl, by rw [HST.out.2]; exact hjc, by rw [HST.out.2, HM.out, HJE.out]; exact HAL.out, HST.out.1, HLI.out, HO.out.bel⟩
          · have hdb : decide (b < (0 : Int)) = false := by simpa using hb0
            obtain ⟨bn, eb, rfl, hbi, heb⟩ := best_some HB.out (by omega)
            obtain ⟨g, gc, hv, _, hgl, _⟩ := kx_slice HXW.out heb
            rw [HVE.out, HM.out] at hv
            injection hv with hv1 hv2 hv3
            subst hv1
            subst hv3
            have cb := (kx_cells HXW.out HM.out HVE.out heb).1
            have hbm : (bn : Int) < (i : Int) := by omega
            have hb2 : (0 : Int) ≤ (bn : Int) := by omega
            have HNX := hide (best_next HRL.out HIV.out HA.out HBE.out heb)
            obtain ⟨kb, hkb⟩ : ∃ kb, eb.key = kb := ⟨_, rfl⟩
            rw [hkb] at cb HNX
            have hnx := (List.getElem?_eq_some_iff.1 HNX.out).1
            have HNXL := hide hnx
            clear heb hkb hb0 hv2 hnx
            have hsz : w.heap.size ≤ W.heap.size := HO.out.bel.size
            go_wp2_with (first | (at_builtin; refine wpList_append_own _ rfl (.tmp 70) (.tmp 79) 23 rfl w.heap.size 9 i0 (.string ByteArray.empty) 1 16 Tryz.underlying23 HI.out HI0.out HI1.out HI2.out rfl (by decide) (.slice a j c) j (ksS (A.take j)) rfl (own_alloc HO.out.row _) ⟨W.heap.size, 0, none⟩ 1 1 [.string kb] rfl rfl (cell_one_str W (.string kb) 9) (by simp [Value.oneCell']) (by unfold maxLen; omega) (by omega) (by rw [World.size_alloc]; omega) ?_; intro v' w6 hown hgr hnil; clear hnil; have HOP := hide (LO.push HO.out HNX.out HHL.out hown hgr); have hl6 : lenV v' = j + 1 := (by obtain ⟨a6, c6, rfl, _⟩ := own_slice hown; rfl); clear hown hgr))
            exact ⟨⟨j + 1, HOP⟩, by rw [hl6]; have := HNXL.out; simp [lenV]; omega⟩
    · have hd : decide ((j : Int) < many) = false := by simpa using hlt
      have HLI := hide (take_list HA.out HO.out.le HO.out.mn (.inr (by omega)))
      have HST : Hid (StrsAt W a (A.take j) ∧ (A.take j).length = j) := by
        have hl : (A.take j).length = j := by rw [List.length_take]; omega
        have := HO.out.row
        refine ⟨strs_ks (B := w.heap.size) (c := c) (by rw [hl]; exact this), hl⟩
      have HJA := hide hjA
      clear hlt hjA
      go_wp2_with fail
      try go_ret
      exact ⟨a, c, A.take j, by rw [HST.out.2]; rfl, by rw [HST.out.2]; exact hjc, by rw [HST.out.2, HM.out]; have := HJA.out; have := HAL.out; omega, HST.out.1, HLI.out, HO.out.bel⟩
end Go.Proofs.YtonhmihmnkicdaaGreat
