/- The document's index as it is told: lists; what the two have in common. The document's index in memory: four rows behind a struct. (Written by genkx.py.) What the document's index tells: had, entry, Known, Get, place, Volume, Volumes. What Get and Volume of the document's index answer. -/
import Derived.Test.YtonhmihmnkicdaaGreatIxApply
import Derived.Test.YtonhmihmnkicdaaGreatIxGet
import Derived.Test.YtonhmihmnkicdaaGreatGvRow
import Derived.Test.YtonhmihmnkicdaaGreatIxVols
namespace Go.Proofs.YtonhmihmnkicdaaGreat
open Go.RowKit
set_option linter.unusedVariables false
structure KS where
  E : List En
  G : List ByteArray
  V : List VD
  H : List Int
def KS.nil : KS := ⟨[], [], [], []⟩
def isK (k : ByteArray) (e : En) : Bool := decide (e.key = k)
def isV (id : Int) (v : VD) : Bool := decide (v.id = id)
/-- the lists tell what the functions tell -/
structure Rel (S : KS) (X : FX) : Prop where
  t : ∀ k, X.T k = S.E.find? (isK k)
  g : ∀ k, X.G k = true ↔ k ∈ S.G
  v : ∀ id, X.V id = S.V.find? (isV id)
  h : ∀ id, X.H id = true ↔ id ∈ S.H
  ke : S.E.Pairwise (fun a b => a.key ≠ b.key)
  kv : S.V.Pairwise (fun a b => a.id < b.id)
theorem rel_nil : Rel KS.nil FX.nil := ⟨fun _ => rfl, fun k => ⟨fun h => (by cases h), fun h => (by simp [KS.nil] at h)⟩, fun _ => rfl, fun k => ⟨fun h => (by cases h), fun h => (by simp [KS.nil] at h)⟩, List.Pairwise.nil, List.Pairwise.nil⟩
theorem find_key {E : List En} (h : E.Pairwise (fun a b => a.key ≠ b.key)) {e : En} (he : e ∈ E) : E.find? (isK e.key) = some e := by
  induction E with
  | nil => simp at he
  | cons x E ih =>
    obtain ⟨h1, h2⟩ := List.pairwise_cons.1 h
    rcases List.mem_cons.1 he with q | q
    · subst q; simp [isK]
    · rw [List.find?_cons_of_neg (by simp [isK]; exact h1 e q)]
      exact ih h2 q
theorem find_vol {V : List VD} (h : V.Pairwise (fun a b => a.id < b.id)) {v : VD} (hv : v ∈ V) : V.find? (isV v.id) = some v := by
  induction V with
  | nil => simp at hv
  | cons x V ih =>
    obtain ⟨h1, h2⟩ := List.pairwise_cons.1 h
    rcases List.mem_cons.1 hv with q | q
    · subst q; simp [isV]
    · rw [List.find?_cons_of_neg (by have := h1 v q; simp [isV]; omega)]
      exact ih h2 q
/-- the place of a key's, -1: it is not there -/
def EntIs (E : List En) (k : ByteArray) (r : Int) : Prop := (r = -1 ∧ ∀ e ∈ E, e.key ≠ k) ∨ ∃ (i : Nat) (e : En), r = (i : Int) ∧ E[i]? = some e ∧ e.key = k
def PlaceIs (V : List VD) (id : Int) (r : Int) : Prop := (r = -1 ∧ ∀ v ∈ V, v.id ≠ id) ∨ ∃ (i : Nat) (v : VD), r = (i : Int) ∧ V[i]? = some v ∧ v.id = id
section
variable {S : KS} {X : FX}
theorem Rel.ent (h : Rel S X) {k : ByteArray} {r : Int} (hr : EntIs S.E k r) : (r = -1 ∧ X.T k = none) ∨ ∃ (i : Nat) (e : En), r = (i : Int) ∧ S.E[i]? = some e ∧ X.T k = some e ∧ e.key = k := by
  rcases hr with ⟨h1, h2⟩ | ⟨i, e, h1, h2, h3⟩
  · refine .inl ⟨h1, ?_⟩
    rw [h.t, List.find?_eq_none]
    intro e he
    simpa [isK] using h2 e he
  · refine .inr ⟨i, e, h1, h2, ?_, h3⟩
    rw [h.t, ← h3]
    exact find_key h.ke (List.mem_of_getElem? h2)
theorem Rel.place (h : Rel S X) {id : Int} {r : Int} (hr : PlaceIs S.V id r) : (r = -1 ∧ X.V id = none) ∨ ∃ (i : Nat) (v : VD), r = (i : Int) ∧ S.V[i]? = some v ∧ X.V id = some v ∧ v.id = id := by
  rcases hr with ⟨h1, h2⟩ | ⟨i, v, h1, h2, h3⟩
  · refine .inl ⟨h1, ?_⟩
    rw [h.v, List.find?_eq_none]
    intro e he
    simpa [isV] using h2 e he
  · refine .inr ⟨i, v, h1, h2, ?_, h3⟩
    rw [h.v, ← h3]
    exact find_vol h.kv (List.mem_of_getElem? h2)
theorem Rel.memE (h : Rel S X) {k : ByteArray} {e : En} (hT : X.T k = some e) : e ∈ S.E ∧ e.key = k := by
  rw [h.t] at hT
  exact ⟨List.mem_of_find?_eq_some hT, by simpa [isK] using List.find?_some hT⟩
theorem Rel.memV (h : Rel S X) {id : Int} {v : VD} (hV : X.V id = some v) : v ∈ S.V ∧ v.id = id := by
  rw [h.v] at hV
  exact ⟨List.mem_of_find?_eq_some hV, by simpa [isV] using List.find?_some hV⟩
theorem Rel.ofE (h : Rel S X) {e : En} (he : e ∈ S.E) : X.T e.key = some e := by rw [h.t]; exact find_key h.ke he
theorem Rel.ofV (h : Rel S X) {v : VD} (hv : v ∈ S.V) : X.V v.id = some v := by rw [h.v]; exact find_vol h.kv hv
end
/-! what the document's calls make of the lists -/
def layV : List VD → VD → List VD
  | [], v => [v]
  | x :: l, v => if v.id < x.id then v :: x :: l else x :: layV l v
def witV (l : List VD) (id : Int) : List VD := l.filter fun v => decide (v.id ≠ id)
theorem find_layV : ∀ (l : List VD) (v : VD), (∀ x ∈ l, x.id ≠ v.id) → ∀ id, (layV l v).find? (isV id) = if id = v.id then some v else l.find? (isV id)
  | [], v, _, id => by
    unfold layV
    rw [List.find?_cons]
    by_cases e : id = v.id
    · rw [if_pos e, show isV id v = true by simp [isV, e]]
    · rw [if_neg e, show isV id v = false by simp [isV]; exact fun q => e q.symm]
  | x :: l, v, h, id => by
    unfold layV
    split
    · rw [List.find?_cons]
      by_cases e : id = v.id
      · simp [isV, e]
      · rw [show isV id v = false by simp [isV]; exact fun q => e q.symm, if_neg e]
    · rw [List.find?_cons, List.find?_cons]
      have ih := find_layV l v (fun y hy => h y (by simp [hy])) id
      by_cases e : isV id x = true
      · rw [e]
        have : id ≠ v.id := fun q => h x (by simp) (by have : x.id = id := by simpa [isV] using e
                                                       rw [this, q])
        rw [if_neg this]
      · rw [show isV id x = false by simpa using e]
        exact ih
theorem mem_layV : ∀ (l : List VD) (v x : VD), x ∈ layV l v ↔ x = v ∨ x ∈ l
  | [], v, x => by simp [layV]
  | y :: l, v, x => by
    unfold layV
    split
    · simp
    · rw [List.mem_cons, mem_layV l v x, List.mem_cons]
      constructor
      · rintro (q | q | q)
        · exact .inr (.inl q)
        · exact .inl q
        · exact .inr (.inr q)
      · rintro (q | q | q)
        · exact .inr (.inl q)
        · exact .inl q
        · exact .inr (.inr q)
theorem sorted_layV : ∀ (l : List VD) (v : VD), l.Pairwise (fun a b => a.id < b.id) → (∀ x ∈ l, x.id ≠ v.id) → (layV l v).Pairwise (fun a b => a.id < b.id)
  | [], v, _, _ => List.pairwise_singleton _ _
  | x :: l, v, h, hn => by
    obtain ⟨h1, h2⟩ := List.pairwise_cons.1 h
    unfold layV
    split
    · rename_i hlt
      refine List.pairwise_cons.2 ⟨fun y hy => ?_, h⟩
      rcases List.mem_cons.1 hy with q | q
      · rw [q]; exact hlt
      · have := h1 y q; omega
    · rename_i hlt
      refine List.pairwise_cons.2 ⟨fun y hy => ?_, sorted_layV l v h2 (fun y hy => hn y (by simp [hy]))⟩
      rcases (mem_layV l v y).1 hy with q | q
      · rw [q]; have := hn x (by simp); omega
      · exact h1 y q
theorem find_witV (l : List VD) (i id : Int) : (witV l i).find? (isV id) = if id = i then none else l.find? (isV id) := by
  induction l with
  | nil => simp [witV]
  | cons x l ih =>
    unfold witV at ih ⊢
    rw [List.filter_cons]
    by_cases e : x.id = i
    · rw [if_neg (by simp [e])]
      rw [ih]
      by_cases q : id = i
      · rw [if_pos q, if_pos q]
      · rw [if_neg q, if_neg q, List.find?_cons, show isV id x = false by simp [isV]; omega]
    · rw [if_pos (by simp [e])]
      rw [List.find?_cons, List.find?_cons, ih]
      by_cases q : id = i
      · rw [if_pos q, if_pos q, show isV id x = false by simp [isV]; omega]
      · rw [if_neg q, if_neg q]
theorem sorted_witV {l : List VD} (h : l.Pairwise (fun a b => a.id < b.id)) (i : Int) : (witV l i).Pairwise (fun a b => a.id < b.id) := h.filter _
def remE (E : List En) (k : ByteArray) : List En := E.filter fun e => decide (e.key ≠ k)
theorem find_remE (E : List En) (k k' : ByteArray) : (remE E k).find? (isK k') = if k' = k then none else E.find? (isK k') := by
  induction E with
  | nil => simp [remE]
  | cons x E ih =>
    unfold remE at ih ⊢
    rw [List.filter_cons]
    by_cases e : x.key = k
    · rw [if_neg (by simp [e])]
      rw [ih]
      by_cases q : k' = k
      · rw [if_pos q, if_pos q]
      · rw [if_neg q, if_neg q, List.find?_cons, show isK k' x = false by simp [isK, e]; exact fun r => q r.symm]
    · rw [if_pos (by simp [e])]
      rw [List.find?_cons, List.find?_cons, ih]
      by_cases q : k' = k
      · rw [if_pos q, if_pos q, show isK k' x = false by simp [isK, q]; exact e]
      · rw [if_neg q, if_neg q]
def movV (V : List VD) (v : VD) : List VD := V.map fun x => if x.id = v.id then v else x
theorem find_movV (V : List VD) (v : VD) (id : Int) : (movV V v).find? (isV id) = if id = v.id then (V.find? (isV id)).map (fun _ => v) else V.find? (isV id) := by
  induction V with
  | nil => simp [movV]
  | cons x V ih =>
    unfold movV at ih ⊢
    rw [List.map_cons, List.find?_cons, List.find?_cons]
    by_cases e : x.id = v.id
    · rw [if_pos e]
      by_cases q : id = v.id
      · rw [if_pos q, show isV id v = true by simp [isV, q], show isV id x = true by simp [isV, e, q]]; rfl
      · rw [if_neg q, show isV id v = false by simp [isV]; exact fun r => q r.symm, show isV id x = false by simp [isV, e]; exact fun r => q r.symm]
        rw [ih, if_neg q]
    · rw [if_neg e]
      by_cases q : id = v.id
      · rw [if_pos q, show isV id x = false by simp [isV, q]; exact e, ih, if_pos q]
      · rw [if_neg q, ih, if_neg q]
theorem sorted_movV {V : List VD} (h : V.Pairwise (fun a b => a.id < b.id)) (v : VD) : (movV V v).Pairwise (fun a b => a.id < b.id) := by
  unfold movV
  refine List.pairwise_map.2 (h.imp fun {a b} hab => ?_)
  have h1 : (if a.id = v.id then v else a).id = a.id := by split; omega; rfl
  have h2 : (if b.id = v.id then v else b).id = b.id := by split; omega; rfl
  rw [h1, h2]; exact hab
/-- merge, as the document does it: To first -/
def mrgEd (e : En) (f t id d : Int) : En := if e.vol = t then ⟨e.key, id, e.off + d, e.len, e.dig⟩ else if e.vol = f then ⟨e.key, id, e.off, e.len, e.dig⟩ else e
theorem mrgEd_is (e : En) {f t : Int} (h : f ≠ t) (id d : Int) : mrgEd e f t id d = mrgEn e f t id d := by
  unfold mrgEd mrgEn
  by_cases h1 : e.vol = f
  · rw [if_pos h1, if_neg (by rw [h1]; exact h), if_pos h1]
  · rw [if_neg h1, if_neg h1]
theorem mrgEd_key (e : En) (f t id d : Int) : (mrgEd e f t id d).key = e.key := by
  unfold mrgEd
  split
  · rfl
  · split <;> rfl
theorem find_mapE (E : List En) (g : En → En) (hg : ∀ e, (g e).key = e.key) (k : ByteArray) : (E.map g).find? (isK k) = (E.find? (isK k)).map g := by
  induction E with
  | nil => rfl
  | cons x E ih =>
    rw [List.map_cons, List.find?_cons, List.find?_cons]
    have : isK k (g x) = isK k x := by unfold isK; rw [hg]
    rw [this, ih]
    cases isK k x <;> rfl
end Go.Proofs.YtonhmihmnkicdaaGreat
namespace Go.Proofs.YtonhmihmnkicdaaGreat
open Go.RowKit
set_option linter.unusedVariables false
structure Kx where
  kb : Nat
  vE : Value
  vG : Value
  vV : Value
  vH : Value
/-- what is written in place: the struct, three of the rows -/
def Kx.own (K : Kx) (i : Nat) : Prop := i = K.kb ∨ K.vE.ownBlock = some i ∨ K.vG.ownBlock = some i ∨ K.vH.ownBlock = some i
def enC (e : En) : List Value := [.string e.key, .int .i64 e.vol, .int .i64 e.off, .int .i64 e.len, .string e.dig]
def enL (l : List En) : List Value := l.flatMap enC
theorem enL_snoc (l : List En) (e : En) : enL (l ++ [e]) = enL l ++ enC e := by simp [enL]
theorem enL_at : ∀ {l : List En} {i : Nat} {x : En}, l[i]? = some x → ∀ j v, (enC x)[j]? = some v → (enL l)[i * 5 + j]? = some v
  | y :: l, 0, x, h, j, v, hj => by
    simp at h; subst h
    have hl : j < 5 := by have := (List.getElem?_eq_some_iff.1 hj).1; simpa [enC] using this
    simp only [enL, List.flatMap_cons]
    rw [List.getElem?_append_left (by simp [enC]; omega)]
    simpa using hj
  | y :: l, i + 1, x, h, j, v, hj => by
    have := enL_at (l := l) (i := i) (by simpa using h) j v hj
    simp only [enL, List.flatMap_cons]
    rw [List.getElem?_append_right (by simp [enC]; omega)]
    rw [show (i + 1) * 5 + j - (enC y).length = i * 5 + j by simp [enC]; omega]
    exact this
def ksS (l : List ByteArray) : List Value := l.map Value.string
theorem ksS_snoc (l : List ByteArray) (x : ByteArray) : ksS (l ++ [x]) = ksS l ++ [.string x] := by simp [ksS]
def kiS (l : List Int) : List Value := l.map (Value.int .i64)
theorem kiS_snoc (l : List Int) (x : Int) : kiS (l ++ [x]) = kiS l ++ [.int .i64 x] := by simp [kiS]
structure KxAt (B : Nat) (w : World) (K : Kx) (S : KS) : Prop where
  box : w.heap[K.kb]? = some (.cells #[K.vE, K.vG, K.vV, K.vH] 32 (0, 0))
  e : w.ownsRow B 38 5 K.vE S.E.length (enL S.E)
  g : w.ownsRow B 9 1 K.vG S.G.length (ksS S.G)
  v : RowV B w K.vV S.V
  h : w.ownsRow B 3 1 K.vH S.H.length (kiS S.H)
  lb : B ≤ K.kb
section
variable {B n : Nat} {w w' w1 : World} {K : Kx} {S : KS} {I : Ix} {X : FX}
theorem KxAt.typed (h : KxAt B w K S) {i : Nat} (hi : K.own i) : B ≤ i ∧ i < w.heap.size ∧ ∃ cur t, w.heap[i]? = some (.cells cur t (0, 0)) ∧ (t = 32 ∨ t = 38 ∨ t = 9 ∨ t = 3) := by
  rcases hi with q | q | q | q
  · rw [q]; exact ⟨h.lb, lt_of_block h.box, _, _, h.box, .inl rfl⟩
  · obtain ⟨a, b, c, d⟩ := own_at h.e q; exact ⟨a, b, c, _, d, .inr (.inl rfl)⟩
  · obtain ⟨a, b, c, d⟩ := own_at h.g q; exact ⟨a, b, c, _, d, .inr (.inr (.inl rfl))⟩
  · obtain ⟨a, b, c, d⟩ := own_at h.h q; exact ⟨a, b, c, _, d, .inr (.inr (.inr rfl))⟩
/-- a block of another type is none of these -/
theorem KxAt.other (h : KxAt B w K S) {b : Nat} {cur : Array Value} {t : TypeId} {fr : Nat × Nat} (hb : w.heap[b]? = some (.cells cur t fr)) (ht : t ≠ 32 ∧ t ≠ 38 ∧ t ≠ 9 ∧ t ≠ 3) : ¬ K.own b := fun q => by
  obtain ⟨_, _, c, t', hc, k⟩ := h.typed q
  rw [hb] at hc
  have e := (Obj.cells.inj (Option.some.inj hc)).2.1
  subst e
  rcases k with k | k | k | k
  · exact ht.1 k
  · exact ht.2.1 k
  · exact ht.2.2.1 k
  · exact ht.2.2.2 k
theorem KxAt.vblk (h : KxAt B w K S) {i : Nat} (hi : K.vV.ownBlock = some i) : ¬ K.own i := by
  obtain ⟨_, _, cur, hc⟩ := h.v.at hi
  exact h.other hc (by decide)
/-- the program's index is none of these, and these are none of its -/
theorem KxAt.apart (h : KxAt B w K S) (hi : IxAt B w I n X) {i : Nat} (q : I.own i) : ¬ K.own i := by
  intro hk
  obtain ⟨_, _, c, t', hc, k⟩ := h.typed hk
  by_cases hx : i = I.xb
  · rw [hx, hi.box] at hc
    have e := (Obj.cells.inj (Option.some.inj hc)).2.1
    rw [← e] at k
    exact absurd k (by decide)
  · rcases q with q | q
    · exact hx q
    · obtain ⟨es, cl, hm⟩ := hi.is_map q
      rw [hm] at hc; cases hc
theorem KxAt.apartV (h : KxAt B w K S) (hi : IxAt B w I n X) {i : Nat} (hv : K.vV.ownBlock = some i) : ¬ I.own i := by
  intro q
  obtain ⟨_, _, cur, hc⟩ := h.v.at hv
  by_cases hx : i = I.xb
  · rw [hx, hi.box] at hc
    exact absurd (Obj.cells.inj (Option.some.inj hc)).2.1 (by decide)
  · rcases q with q | q
    · exact hx q
    · obtain ⟨es, cl, hm⟩ := hi.is_map q
      rw [hm] at hc; cases hc
theorem KxAt.mod {A A' : Nat → Prop} (h : KxAt B w K S) (m : Mds B A w A' w') (hs : ∀ i, K.own i → ¬ A i) (hv : ∀ i, K.vV.ownBlock = some i → ¬ A i) : KxAt B w' K S :=
  ⟨(m.blk _ (lt_of_block h.box) (hs _ (.inl rfl))).trans h.box, row_keep h.e fun i hi => m.blk i (own_at h.e hi).2.1 (hs i (.inr (.inl hi))), row_keep h.g fun i hi => m.blk i (own_at h.g hi).2.1 (hs i (.inr (.inr (.inl hi)))), h.v.mod m hv, row_keep h.h fun i hi => m.blk i (own_at h.h hi).2.1 (hs i (.inr (.inr (.inr hi)))), h.lb⟩
theorem KxAt.below (h : KxAt B w K S) (hb : Below w.heap.size w w') : KxAt B w' K S :=
  ⟨(hb.block _ (lt_of_block h.box)).trans h.box, own_below h.e hb, own_below h.g hb, h.v.below hb, own_below h.h hb, h.lb⟩
theorem KxAt.ixmod (h : KxAt B w K S) (hi : IxAt B w I n X) (m : Mds B I.own w I.own w') : KxAt B w' K S := h.mod m (fun i hk q => h.apart hi q hk) (fun i hv q => h.apartV hi hv q)
theorem IxAt.kxmod (hi : IxAt B w I n X) (h : KxAt B w K S) {A' : Nat → Prop} (m : Mds B K.own w A' w') : IxAt B w' I n X := hi.mod m (fun i q => h.apart hi q)
theorem KxAt.Bw (h : KxAt B w K S) : B ≤ w.heap.size := by have := h.lb; have := lt_of_block h.box; omega
theorem KxAt.cells (h : KxAt B w K S) : w.cell? ⟨K.kb, 0, none⟩ = some K.vE ∧ w.cell? ⟨K.kb, 1, none⟩ = some K.vG ∧ w.cell? ⟨K.kb, 2, none⟩ = some K.vV ∧ w.cell? ⟨K.kb, 3, none⟩ = some K.vH :=
  ⟨cell_of_block h.box, cell_of_block h.box, cell_of_block h.box, cell_of_block h.box⟩
theorem mds_kb (h : w.heap[K.kb]? = some (.cells #[K.vE, K.vG, K.vV, K.vH] 32 (0, 0))) (hB : B ≤ K.kb) (p : Nat) (v : Value) : Mds B (fun i => i = K.kb) w (fun i => i = K.kb) (w.setCell ⟨K.kb, p, none⟩ v) :=
  ⟨(Below.refl _ _).setCell (p := ⟨K.kb, p, none⟩) hB _, by simp [World.setCell], fun i _ hn => Below.heap_setCell _ _ _ _ hn, fun i cur fr hc => Below.heap_setCell _ _ _ _ (fun e => by
    rw [e, h] at hc; exact absurd (Obj.cells.inj (Option.some.inj hc)).2.1 (by decide)), fun i hi => .inl hi⟩
/-- E is another row now: behind what changed its block alone -/
theorem KxAt.setE {w0 : World} {A0 A1 : Nat → Prop} (h : KxAt B w K S) (M0 : Mds B A0 w0 A1 w) (hA : ∀ i, K.own i → A1 i) {v : Value} {L : List En} (m : Mds B (fun i => K.vE.ownBlock = some i) w (fun _ => False) w1) (hr : w1.ownsRow B 38 5 v L.length (enL L)) (hv : ∀ i, v.ownBlock = some i → A1 i ∨ w.heap.size ≤ i) :
    (w1.cell? ⟨K.kb, 0, none⟩ = some K.vE ∧ w1.frozen? ⟨K.kb, 0, none⟩ = false) ∧ KxAt B (w1.setCell ⟨K.kb, 0, none⟩ v) ⟨K.kb, v, K.vG, K.vV, K.vH⟩ ⟨L, S.G, S.V, S.H⟩ ∧ Mds B A0 w0 (Kx.own ⟨K.kb, v, K.vG, K.vV, K.vH⟩) (w1.setCell ⟨K.kb, 0, none⟩ v) := by
  have hne : ∀ i, K.vE.ownBlock = some i → ∃ cur, w.heap[i]? = some (.cells cur 38 (0, 0)) := fun i hi => (own_at h.e hi).2.2
  have nt : ∀ i cur t fr, w.heap[i]? = some (.cells cur t fr) → t ≠ 38 → ¬ K.vE.ownBlock = some i := fun i cur t fr hc ht q => by
    obtain ⟨c2, h2⟩ := hne i q
    rw [hc] at h2
    exact ht (Obj.cells.inj (Option.some.inj h2)).2.1
  have hkb : w1.heap[K.kb]? = some (.cells #[K.vE, K.vG, K.vV, K.vH] 32 (0, 0)) := (m.blk _ (lt_of_block h.box) (nt _ _ _ _ h.box (by decide))).trans h.box
  have hset : ∀ i, i ≠ K.kb → (w1.setCell ⟨K.kb, 0, none⟩ v).heap[i]? = w1.heap[i]? := fun i hi => Below.heap_setCell _ _ _ _ hi
  have mk := mds_kb (B := B) hkb h.lb 0 v
  have nk : ∀ i cur t, w1.heap[i]? = some (.cells cur t (0, 0)) → t ≠ 32 → i ≠ K.kb := fun i cur t hc ht e => by
    rw [e, hkb] at hc
    exact ht (Obj.cells.inj (Option.some.inj hc)).2.1.symm
  refine ⟨⟨cell_of_block hkb, free_of_block hkb⟩, ⟨block_setCell (c := #[K.vE, K.vG, K.vV, K.vH]) v hkb, row_keep hr fun i hi => hset i (by obtain ⟨_, _, c, hc⟩ := own_at hr hi; exact nk i c _ hc (by decide)), row_keep h.g fun i hi => by obtain ⟨_, hlt, c, hc⟩ := own_at h.g hi; have k1 := m.blk i hlt (nt i _ _ _ hc (by decide)); exact (hset i (nk i c _ (k1.trans hc) (by decide))).trans k1, (h.v.mod m (fun i hi => by obtain ⟨_, _, c, hc⟩ := h.v.at hi; exact nt i _ _ _ hc (by decide))).mod mk (fun i hi => by obtain ⟨_, hlt, c, hc⟩ := h.v.at hi; exact nk i c _ ((m.blk i hlt (nt i _ _ _ hc (by decide))).trans hc) (by decide)), row_keep h.h fun i hi => by obtain ⟨_, hlt, c, hc⟩ := own_at h.h hi; have k1 := m.blk i hlt (nt i _ _ _ hc (by decide)); exact (hset i (nk i c _ (k1.trans hc) (by decide))).trans k1, h.lb⟩, ?_⟩
  have hlt0 := M0.size
  refine ⟨(M0.bel.trans m.bel).trans mk.bel, Nat.le_trans (Nat.le_trans M0.size m.size) mk.size, fun i hi hn => ?_, fun i cur fr hc => ?_, fun i hi => ?_⟩
  · have e1 : i ≠ K.kb := fun e => by rcases M0.own i (hA i (.inl e)) with q | q; exact hn q; omega
    have e2 : ¬ (fun i => K.vE.ownBlock = some i) i := fun e => by rcases M0.own i (hA i (.inr (.inl e))) with q | q; exact hn q; omega
    exact (hset i e1).trans ((m.blk i (Nat.lt_of_lt_of_le hi hlt0) e2).trans (M0.blk i hi hn))
  · exact (mk.loc i cur fr ((m.loc i cur fr ((M0.loc i cur fr hc).trans hc)).trans ((M0.loc i cur fr hc).trans hc))).trans ((m.loc i cur fr ((M0.loc i cur fr hc).trans hc)).trans (M0.loc i cur fr hc))
  · rcases hi with q | q | q | q
    · exact M0.own i (hA i (.inl q))
    · rcases hv i q with r | r
      · exact M0.own i r
      · exact .inr (by omega)
    · exact M0.own i (hA i (.inr (.inr (.inl q))))
    · exact M0.own i (hA i (.inr (.inr (.inr q))))
/-- G is another row now: behind what changed its block alone -/
theorem KxAt.setG {w0 : World} {A0 A1 : Nat → Prop} (h : KxAt B w K S) (M0 : Mds B A0 w0 A1 w) (hA : ∀ i, K.own i → A1 i) {v : Value} {L : List ByteArray} (m : Mds B (fun i => K.vG.ownBlock = some i) w (fun _ => False) w1) (hr : w1.ownsRow B 9 1 v L.length (ksS L)) (hv : ∀ i, v.ownBlock = some i → A1 i ∨ w.heap.size ≤ i) :
    (w1.cell? ⟨K.kb, 1, none⟩ = some K.vG ∧ w1.frozen? ⟨K.kb, 1, none⟩ = false) ∧ KxAt B (w1.setCell ⟨K.kb, 1, none⟩ v) ⟨K.kb, K.vE, v, K.vV, K.vH⟩ ⟨S.E, L, S.V, S.H⟩ ∧ Mds B A0 w0 (Kx.own ⟨K.kb, K.vE, v, K.vV, K.vH⟩) (w1.setCell ⟨K.kb, 1, none⟩ v) := by
  have hne : ∀ i, K.vG.ownBlock = some i → ∃ cur, w.heap[i]? = some (.cells cur 9 (0, 0)) := fun i hi => (own_at h.g hi).2.2
  have nt : ∀ i cur t fr, w.heap[i]? = some (.cells cur t fr) → t ≠ 9 → ¬ K.vG.ownBlock = some i := fun i cur t fr hc ht q => by
    obtain ⟨c2, h2⟩ := hne i q
    rw [hc] at h2
    exact ht (Obj.cells.inj (Option.some.inj h2)).2.1
  have hkb : w1.heap[K.kb]? = some (.cells #[K.vE, K.vG, K.vV, K.vH] 32 (0, 0)) := (m.blk _ (lt_of_block h.box) (nt _ _ _ _ h.box (by decide))).trans h.box
  have hset : ∀ i, i ≠ K.kb → (w1.setCell ⟨K.kb, 1, none⟩ v).heap[i]? = w1.heap[i]? := fun i hi => Below.heap_setCell _ _ _ _ hi
  have mk := mds_kb (B := B) hkb h.lb 1 v
  have nk : ∀ i cur t, w1.heap[i]? = some (.cells cur t (0, 0)) → t ≠ 32 → i ≠ K.kb := fun i cur t hc ht e => by
    rw [e, hkb] at hc
    exact ht (Obj.cells.inj (Option.some.inj hc)).2.1.symm
  refine ⟨⟨cell_of_block hkb, free_of_block hkb⟩, ⟨block_setCell (c := #[K.vE, K.vG, K.vV, K.vH]) v hkb, row_keep h.e fun i hi => by obtain ⟨_, hlt, c, hc⟩ := own_at h.e hi; have k1 := m.blk i hlt (nt i _ _ _ hc (by decide)); exact (hset i (nk i c _ (k1.trans hc) (by decide))).trans k1, row_keep hr fun i hi => hset i (by obtain ⟨_, _, c, hc⟩ := own_at hr hi; exact nk i c _ hc (by decide)), (h.v.mod m (fun i hi => by obtain ⟨_, _, c, hc⟩ := h.v.at hi; exact nt i _ _ _ hc (by decide))).mod mk (fun i hi => by obtain ⟨_, hlt, c, hc⟩ := h.v.at hi; exact nk i c _ ((m.blk i hlt (nt i _ _ _ hc (by decide))).trans hc) (by decide)), row_keep h.h fun i hi => by obtain ⟨_, hlt, c, hc⟩ := own_at h.h hi; have k1 := m.blk i hlt (nt i _ _ _ hc (by decide)); exact (hset i (nk i c _ (k1.trans hc) (by decide))).trans k1, h.lb⟩, ?_⟩
  have hlt0 := M0.size
  refine ⟨(M0.bel.trans m.bel).trans mk.bel, Nat.le_trans (Nat.le_trans M0.size m.size) mk.size, fun i hi hn => ?_, fun i cur fr hc => ?_, fun i hi => ?_⟩
  · have e1 : i ≠ K.kb := fun e => by rcases M0.own i (hA i (.inl e)) with q | q; exact hn q; omega
    have e2 : ¬ (fun i => K.vG.ownBlock = some i) i := fun e => by rcases M0.own i (hA i (.inr (.inr (.inl e)))) with q | q; exact hn q; omega
    exact (hset i e1).trans ((m.blk i (Nat.lt_of_lt_of_le hi hlt0) e2).trans (M0.blk i hi hn))
  · exact (mk.loc i cur fr ((m.loc i cur fr ((M0.loc i cur fr hc).trans hc)).trans ((M0.loc i cur fr hc).trans hc))).trans ((m.loc i cur fr ((M0.loc i cur fr hc).trans hc)).trans (M0.loc i cur fr hc))
  · rcases hi with q | q | q | q
    · exact M0.own i (hA i (.inl q))
    · exact M0.own i (hA i (.inr (.inl q)))
    · rcases hv i q with r | r
      · exact M0.own i r
      · exact .inr (by omega)
    · exact M0.own i (hA i (.inr (.inr (.inr q))))
/-- V is another row now: behind what changed its block alone -/
theorem KxAt.setV {w0 : World} {A0 A1 : Nat → Prop} (h : KxAt B w K S) (M0 : Mds B A0 w0 A1 w) (hA : ∀ i, K.own i → A1 i) {v : Value} {L : List VD} (m : Mds B (fun _ => False) w (fun _ => False) w1) (hr : RowV B w1 v L) :
    (w1.cell? ⟨K.kb, 2, none⟩ = some K.vV ∧ w1.frozen? ⟨K.kb, 2, none⟩ = false) ∧ KxAt B (w1.setCell ⟨K.kb, 2, none⟩ v) ⟨K.kb, K.vE, K.vG, v, K.vH⟩ ⟨S.E, S.G, L, S.H⟩ ∧ Mds B A0 w0 (Kx.own ⟨K.kb, K.vE, K.vG, v, K.vH⟩) (w1.setCell ⟨K.kb, 2, none⟩ v) := by
  have nt : ∀ (i : Nat) (cur : Array Value) (t : TypeId) (fr : Nat × Nat), w.heap[i]? = some (.cells cur t fr) → t ≠ (1000000 : TypeId) → ¬ False := fun _ _ _ _ _ _ q => q
  have hkb : w1.heap[K.kb]? = some (.cells #[K.vE, K.vG, K.vV, K.vH] 32 (0, 0)) := (m.blk _ (lt_of_block h.box) (nt _ _ _ _ h.box (by decide))).trans h.box
  have hset : ∀ i, i ≠ K.kb → (w1.setCell ⟨K.kb, 2, none⟩ v).heap[i]? = w1.heap[i]? := fun i hi => Below.heap_setCell _ _ _ _ hi
  have mk := mds_kb (B := B) hkb h.lb 2 v
  have nk : ∀ i cur t, w1.heap[i]? = some (.cells cur t (0, 0)) → t ≠ 32 → i ≠ K.kb := fun i cur t hc ht e => by
    rw [e, hkb] at hc
    exact ht (Obj.cells.inj (Option.some.inj hc)).2.1.symm
  refine ⟨⟨cell_of_block hkb, free_of_block hkb⟩, ⟨block_setCell (c := #[K.vE, K.vG, K.vV, K.vH]) v hkb, row_keep h.e fun i hi => by obtain ⟨_, hlt, c, hc⟩ := own_at h.e hi; have k1 := m.blk i hlt (nt i _ _ _ hc (by decide)); exact (hset i (nk i c _ (k1.trans hc) (by decide))).trans k1, row_keep h.g fun i hi => by obtain ⟨_, hlt, c, hc⟩ := own_at h.g hi; have k1 := m.blk i hlt (nt i _ _ _ hc (by decide)); exact (hset i (nk i c _ (k1.trans hc) (by decide))).trans k1, hr.mod mk (fun i hi => by obtain ⟨_, _, c, hc⟩ := hr.at hi; exact nk i c _ hc (by decide)), row_keep h.h fun i hi => by obtain ⟨_, hlt, c, hc⟩ := own_at h.h hi; have k1 := m.blk i hlt (nt i _ _ _ hc (by decide)); exact (hset i (nk i c _ (k1.trans hc) (by decide))).trans k1, h.lb⟩, ?_⟩
  have hlt0 := M0.size
  refine ⟨(M0.bel.trans m.bel).trans mk.bel, Nat.le_trans (Nat.le_trans M0.size m.size) mk.size, fun i hi hn => ?_, fun i cur fr hc => ?_, fun i hi => ?_⟩
  · have e1 : i ≠ K.kb := fun e => by rcases M0.own i (hA i (.inl e)) with q | q; exact hn q; omega
    have e2 : ¬ (fun _ => False) i := fun e => by exact e
    exact (hset i e1).trans ((m.blk i (Nat.lt_of_lt_of_le hi hlt0) e2).trans (M0.blk i hi hn))
  · exact (mk.loc i cur fr ((m.loc i cur fr ((M0.loc i cur fr hc).trans hc)).trans ((M0.loc i cur fr hc).trans hc))).trans ((m.loc i cur fr ((M0.loc i cur fr hc).trans hc)).trans (M0.loc i cur fr hc))
  · rcases hi with q | q | q | q
    · exact M0.own i (hA i (.inl q))
    · exact M0.own i (hA i (.inr (.inl q)))
    · exact M0.own i (hA i (.inr (.inr (.inl q))))
    · exact M0.own i (hA i (.inr (.inr (.inr q))))
/-- H is another row now: behind what changed its block alone -/
theorem KxAt.setH {w0 : World} {A0 A1 : Nat → Prop} (h : KxAt B w K S) (M0 : Mds B A0 w0 A1 w) (hA : ∀ i, K.own i → A1 i) {v : Value} {L : List Int} (m : Mds B (fun i => K.vH.ownBlock = some i) w (fun _ => False) w1) (hr : w1.ownsRow B 3 1 v L.length (kiS L)) (hv : ∀ i, v.ownBlock = some i → A1 i ∨ w.heap.size ≤ i) :
    (w1.cell? ⟨K.kb, 3, none⟩ = some K.vH ∧ w1.frozen? ⟨K.kb, 3, none⟩ = false) ∧ KxAt B (w1.setCell ⟨K.kb, 3, none⟩ v) ⟨K.kb, K.vE, K.vG, K.vV, v⟩ ⟨S.E, S.G, S.V, L⟩ ∧ Mds B A0 w0 (Kx.own ⟨K.kb, K.vE, K.vG, K.vV, v⟩) (w1.setCell ⟨K.kb, 3, none⟩ v) := by
  have hne : ∀ i, K.vH.ownBlock = some i → ∃ cur, w.heap[i]? = some (.cells cur 3 (0, 0)) := fun i hi => (own_at h.h hi).2.2
  have nt : ∀ i cur t fr, w.heap[i]? = some (.cells cur t fr) → t ≠ 3 → ¬ K.vH.ownBlock = some i := fun i cur t fr hc ht q => by
    obtain ⟨c2, h2⟩ := hne i q
    rw [hc] at h2
    exact ht (Obj.cells.inj (Option.some.inj h2)).2.1
  have hkb : w1.heap[K.kb]? = some (.cells #[K.vE, K.vG, K.vV, K.vH] 32 (0, 0)) := (m.blk _ (lt_of_block h.box) (nt _ _ _ _ h.box (by decide))).trans h.box
  have hset : ∀ i, i ≠ K.kb → (w1.setCell ⟨K.kb, 3, none⟩ v).heap[i]? = w1.heap[i]? := fun i hi => Below.heap_setCell _ _ _ _ hi
  have mk := mds_kb (B := B) hkb h.lb 3 v
  have nk : ∀ i cur t, w1.heap[i]? = some (.cells cur t (0, 0)) → t ≠ 32 → i ≠ K.kb := fun i cur t hc ht e => by
    rw [e, hkb] at hc
    exact ht (Obj.cells.inj (Option.some.inj hc)).2.1.symm
  refine ⟨⟨cell_of_block hkb, free_of_block hkb⟩, ⟨block_setCell (c := #[K.vE, K.vG, K.vV, K.vH]) v hkb, row_keep h.e fun i hi => by obtain ⟨_, hlt, c, hc⟩ := own_at h.e hi; have k1 := m.blk i hlt (nt i _ _ _ hc (by decide)); exact (hset i (nk i c _ (k1.trans hc) (by decide))).trans k1, row_keep h.g fun i hi => by obtain ⟨_, hlt, c, hc⟩ := own_at h.g hi; have k1 := m.blk i hlt (nt i _ _ _ hc (by decide)); exact (hset i (nk i c _ (k1.trans hc) (by decide))).trans k1, (h.v.mod m (fun i hi => by obtain ⟨_, _, c, hc⟩ := h.v.at hi; exact nt i _ _ _ hc (by decide))).mod mk (fun i hi => by obtain ⟨_, hlt, c, hc⟩ := h.v.at hi; exact nk i c _ ((m.blk i hlt (nt i _ _ _ hc (by decide))).trans hc) (by decide)), row_keep hr fun i hi => hset i (by obtain ⟨_, _, c, hc⟩ := own_at hr hi; exact nk i c _ hc (by decide)), h.lb⟩, ?_⟩
  have hlt0 := M0.size
  refine ⟨(M0.bel.trans m.bel).trans mk.bel, Nat.le_trans (Nat.le_trans M0.size m.size) mk.size, fun i hi hn => ?_, fun i cur fr hc => ?_, fun i hi => ?_⟩
  · have e1 : i ≠ K.kb := fun e => by rcases M0.own i (hA i (.inl e)) with q | q; exact hn q; omega
    have e2 : ¬ (fun i => K.vH.ownBlock = some i) i := fun e => by rcases M0.own i (hA i (.inr (.inr (.inr e)))) with q | q; exact hn q; omega
    exact (hset i e1).trans ((m.blk i (Nat.lt_of_lt_of_le hi hlt0) e2).trans (M0.blk i hi hn))
  · exact (mk.loc i cur fr ((m.loc i cur fr ((M0.loc i cur fr hc).trans hc)).trans ((M0.loc i cur fr hc).trans hc))).trans ((m.loc i cur fr ((M0.loc i cur fr hc).trans hc)).trans (M0.loc i cur fr hc))
  · rcases hi with q | q | q | q
    · exact M0.own i (hA i (.inl q))
    · exact M0.own i (hA i (.inr (.inl q)))
    · exact M0.own i (hA i (.inr (.inr (.inl q))))
    · rcases hv i q with r | r
      · exact M0.own i r
      · exact .inr (by omega)
end
end Go.Proofs.YtonhmihmnkicdaaGreat
namespace Go.Proofs.YtonhmihmnkicdaaGreat
open Go.RowKit
set_option linter.unusedVariables false
theorem row_cell {W : World} {B z n g c : Nat} {e : TypeId} {xs : List Value} {a : Option Addr} (h : W.ownsRow B e z (.slice (some ⟨g, 0, none⟩) n c) n xs) {p : Nat} {v : Value} (hp : xs[p]? = some v) : W.cell? ⟨g, p, none⟩ = some v := by
  obtain ⟨hl, ⟨hv, _⟩ | ⟨g', cap, cur, hv, hB, hg, hc, hm, hs, ht⟩⟩ := h
  · cases hv
  · cases hv
    rw [cell_of_block hg]
    rw [← ht, List.getElem?_take] at hp
    split at hp
    · rw [← hp, Array.getElem?_toList]
    · cases hp
theorem row_form {W : World} {B z n : Nat} {e : TypeId} {v : Value} {xs : List Value} (h : W.ownsRow B e z v n xs) : (v = .slice none 0 0 ∧ n = 0) ∨ ∃ g c, v = .slice (some ⟨g, 0, none⟩) n c ∧ n ≤ c ∧ g < W.heap.size := by
  obtain ⟨hl, ⟨hv, h0⟩ | ⟨g', cap, cur, hv, hB, hg, hc, hm, hs, ht⟩⟩ := h
  · exact .inl ⟨hv, h0⟩
  · exact .inr ⟨g', cap, hv, hc, lt_of_block hg⟩
def kIx : Value → Int | .int _ q => q | _ => 0
set_option maxRecDepth 100000 in
set_option maxHeartbeats 4000000 in
theorem kx_entry {B : Nat} {w : World} {K : Kx} {S : KS} (h : KxAt B w K S) (hn : S.E.length ≤ 100000) (k : ByteArray) : Calls Tryz.prog 33 #[.pointer (some ⟨K.kb, 0, none⟩), .string k] w fun e w' => ∃ r, e = .returned (.int .i64 r) ∧ EntIs S.E k r ∧ w = w' := by
  obtain ⟨c0, -, -, -⟩ := h.cells
  have HE := hide h.e
  obtain ⟨m, hm⟩ : ∃ m, S.E.length = m := ⟨_, rfl⟩
  rw [hm] at hn
  have HM := hide hm
  obtain ⟨a, c, hv, _, _⟩ := own_slice h.e
  rw [hv, hm] at c0
  have HV := hide hv
  clear h hv hm
  go_enter Tryz.func33, Tryz.ntmps33
  go_wp2_with fail
  go_loopw [5] (fun y wr => ∃ j : Nat, j ≤ m ∧ y = .int .i64 j ∧ (∀ i e, i < j → S.E[i]? = some e → e.key ≠ k) ∧ w = wr) (fun y _ => m - (kIx y).toNat)
  case atStart => exact ⟨0, by omega, rfl, fun i e hi => by omega, rfl⟩
  case round =>
    obtain ⟨j, hj, rfl, hno, rfl⟩ := hrel
    have HNO := hide hno
    clear hno
    by_cases hlt : j < m
    · have hd : decide ((j : Int) < (m : Int)) = true := by simp; omega
      have hdi : (j : Int) < (m : Int) := by omega
      have hd0 : (0 : Int) ≤ (j : Int) := by omega
      obtain ⟨e, he⟩ : ∃ e, S.E[j]? = some e := ⟨_, List.getElem?_eq_getElem (by have := HM.out; omega)⟩
      have hrow := HE.out
      rw [HV.out, HM.out] at hrow
      rcases row_form hrow with ⟨_, h0⟩ | ⟨g, c', hv', _, hgl⟩
      · omega
      · cases hv'
        have cc := row_cell (a := none) hrow (enL_at he 0 _ rfl)
        rw [Nat.add_zero] at cc
        have HEE := hide he
        clear hrow he
        by_cases hq : e.key = k
        · have g3 := str_eq hq
          have HQ := hide hq
          clear hq
          go_wp2_with fail
          try go_ret
          exact ⟨_, rfl, .inr ⟨j, e, rfl, HEE.out, HQ.out⟩, rfl⟩
        · have g3 := str_ne hq
          have HN : Hid (∀ i e, i < j + 1 → S.E[i]? = some e → e.key ≠ k) := fun i e' hi he' => by
            by_cases q : i = j
            · subst q; rw [HEE.out] at he'; cases he'; exact hq
            · exact HNO.out i e' (by omega) he'
          clear hq
          go_wp2_with fail
          exact ⟨⟨j + 1, by omega, by go_num, HN.out, trivial⟩, by simp [kIx]; omega⟩
    · have hd : decide ((j : Int) < (m : Int)) = false := by simp; omega
      have HF : Hid (EntIs S.E k (-1)) := .inl ⟨rfl, fun e he => by
        obtain ⟨i, hi, q⟩ := List.getElem_of_mem he
        exact HNO.out i e (by have := HM.out; omega) (by rw [List.getElem?_eq_getElem hi, q])⟩
      go_wp2_with fail
      try go_ret
      exact ⟨_, rfl, HF.out, rfl⟩
set_option maxRecDepth 100000 in
set_option maxHeartbeats 4000000 in
theorem kx_place {B : Nat} {w : World} {K : Kx} {S : KS} (h : KxAt B w K S) (hn : S.V.length ≤ 100000) (id : Int) : Calls Tryz.prog 34 #[.pointer (some ⟨K.kb, 0, none⟩), .int .i64 id] w fun e w' => ∃ r, e = .returned (.int .i64 r) ∧ PlaceIs S.V id r ∧ w = w' := by
  obtain ⟨-, -, c2, -⟩ := h.cells
  obtain ⟨a, c, hv, _, _, hvos⟩ := h.v.form
  obtain ⟨m, hm⟩ : ∃ m, S.V.length = m := ⟨_, rfl⟩
  rw [hm] at hn
  rw [hv, hm] at c2
  have HM := hide hm
  have HV := hide hvos
  clear h hv hm hvos
  go_enter Tryz.func34, Tryz.ntmps34
  go_wp2_with fail
  go_loopw [5] (fun y wr => ∃ j : Nat, j ≤ m ∧ y = .int .i64 j ∧ (∀ i v, i < j → S.V[i]? = some v → v.id ≠ id) ∧ w = wr) (fun y _ => m - (kIx y).toNat)
  case atStart => exact ⟨0, by omega, rfl, fun i e hi => by omega, rfl⟩
  case round =>
    obtain ⟨j, hj, rfl, hno, rfl⟩ := hrel
    have HNO := hide hno
    clear hno
    by_cases hlt : j < m
    · have hd : decide ((j : Int) < (m : Int)) = true := by simp; omega
      have hdi : (j : Int) < (m : Int) := by omega
      have hd0 : (0 : Int) ≤ (j : Int) := by omega
      obtain ⟨v, he⟩ : ∃ e, S.V[j]? = some e := ⟨_, List.getElem?_eq_getElem (by have := HM.out; omega)⟩
      obtain ⟨vb, vo, xa, xc, rfl, hvb, hvat, _⟩ := HV.out.nth he
      have cc := hvat.c0
      simp only at cc
      have HEE := hide he
      obtain ⟨vi, hvi⟩ : ∃ vi, v.id = vi := ⟨_, rfl⟩
      rw [hvi] at cc
      have HVI := hide hvi
      clear he hvat hvi
      by_cases hq : vi = id
      · have g3 : (vi == id) = true := by simpa using hq
        have HQ := hide hq
        clear hq
        go_wp2_with fail
        try go_ret
        exact ⟨_, rfl, .inr ⟨j, v, rfl, HEE.out, by rw [HVI.out]; exact HQ.out⟩, rfl⟩
      · have g3 : (vi == id) = false := by simpa using hq
        have HN : Hid (∀ i e, i < j + 1 → S.V[i]? = some e → e.id ≠ id) := fun i e' hi he' => by
          by_cases q : i = j
          · subst q; rw [HEE.out] at he'; cases he'; rw [HVI.out]; exact hq
          · exact HNO.out i e' (by omega) he'
        clear hq
        go_wp2_with fail
        exact ⟨⟨j + 1, by omega, by go_num, HN.out, trivial⟩, by simp [kIx]; omega⟩
    · have hd : decide ((j : Int) < (m : Int)) = false := by simp; omega
      have HF : Hid (PlaceIs S.V id (-1)) := .inl ⟨rfl, fun e he => by
        obtain ⟨i, hi, q⟩ := List.getElem_of_mem he
        exact HNO.out i e (by have := HM.out; omega) (by rw [List.getElem?_eq_getElem hi, q])⟩
      go_wp2_with fail
      try go_ret
      exact ⟨_, rfl, HF.out, rfl⟩
open Classical in
set_option maxRecDepth 100000 in
set_option maxHeartbeats 4000000 in
theorem kx_had {B : Nat} {w : World} {K : Kx} {S : KS} (h : KxAt B w K S) (hn : S.H.length ≤ 100000) (id : Int) : Calls Tryz.prog 32 #[.pointer (some ⟨K.kb, 0, none⟩), .int .i64 id] w fun e w' => e = .returned (.bool (decide (id ∈ S.H))) ∧ w = w' := by
  obtain ⟨-, -, -, c3⟩ := h.cells
  have HE := hide h.h
  obtain ⟨m, hm⟩ : ∃ m, S.H.length = m := ⟨_, rfl⟩
  rw [hm] at hn
  have HM := hide hm
  obtain ⟨a, c, hv, _, _⟩ := own_slice h.h
  rw [hv, hm] at c3
  have HV := hide hv
  clear h hv hm
  go_enter Tryz.func32, Tryz.ntmps32
  go_wp2_with fail
  go_loopw [5] (fun y wr => ∃ j : Nat, j ≤ m ∧ y = .int .i64 j ∧ (∀ i e, i < j → S.H[i]? = some e → e ≠ id) ∧ w = wr) (fun y _ => m - (kIx y).toNat)
  case atStart => exact ⟨0, by omega, rfl, fun i e hi => by omega, rfl⟩
  case round =>
    obtain ⟨j, hj, rfl, hno, rfl⟩ := hrel
    have HNO := hide hno
    clear hno
    by_cases hlt : j < m
    · have hd : decide ((j : Int) < (m : Int)) = true := by simp; omega
      have hdi : (j : Int) < (m : Int) := by omega
      have hd0 : (0 : Int) ≤ (j : Int) := by omega
      obtain ⟨e, he⟩ : ∃ e, S.H[j]? = some e := ⟨_, List.getElem?_eq_getElem (by have := HM.out; omega)⟩
      have hrow := HE.out
      rw [HV.out, HM.out] at hrow
      rcases row_form hrow with ⟨_, h0⟩ | ⟨g, c', hv', _, hgl⟩
      · omega
      · cases hv'
        have cc := row_cell (a := none) hrow (p := j) (v := .int .i64 e) (by unfold kiS; rw [List.getElem?_map, he]; rfl)
        have HEE := hide he
        clear hrow he
        by_cases hq : e = id
        · have g3 : (e == id) = true := by simpa using hq
          have HF : Hid (decide (id ∈ S.H) = true) := by unfold Hid; rw [decide_eq_true_eq, ← hq]; exact List.mem_of_getElem? HEE.out
          clear hq
          go_wp2_with fail
          try go_ret
          exact ⟨by rw [HF.out]; rfl, rfl⟩
        · have g3 : (e == id) = false := by simpa using hq
          have HN : Hid (∀ i e, i < j + 1 → S.H[i]? = some e → e ≠ id) := fun i e' hi he' => by
            by_cases q : i = j
            · subst q; rw [HEE.out] at he'; cases he'; exact hq
            · exact HNO.out i e' (by omega) he'
          clear hq
          go_wp2_with fail
          exact ⟨⟨j + 1, by omega, by go_num, HN.out, trivial⟩, by simp [kIx]; omega⟩
    · have hd : decide ((j : Int) < (m : Int)) = false := by simp; omega
      have HF : Hid (decide (id ∈ S.H) = false) := by
        unfold Hid
        rw [decide_eq_false_iff_not]
        intro he
        obtain ⟨i, hi, q⟩ := List.getElem_of_mem he
        exact HNO.out i id (by have := HM.out; omega) (by rw [List.getElem?_eq_getElem hi, q]) rfl
      go_wp2_with fail
      try go_ret
      exact ⟨by rw [HF.out]; rfl, rfl⟩
open Classical in
set_option maxRecDepth 100000 in
set_option maxHeartbeats 4000000 in
theorem kx_known {B : Nat} {w : World} {K : Kx} {S : KS} {X : FX} (h : KxAt B w K S) (hr : Rel S X) (hg : S.G.length ≤ 100000) (hn : S.E.length ≤ 100000) (k : ByteArray) : Calls Tryz.prog 31 #[.pointer (some ⟨K.kb, 0, none⟩), .string k] w fun e w' => e = .returned (.bool (X.known k)) ∧ w = w' := by
  obtain ⟨-, c1, -, -⟩ := h.cells
  have HE := hide h.g
  have HQE := hide (kx_entry h hn k)
  have HRL := hide hr
  obtain ⟨m, hm⟩ : ∃ m, S.G.length = m := ⟨_, rfl⟩
  rw [hm] at hg
  have HM := hide hm
  obtain ⟨a, c, hv, _, _⟩ := own_slice h.g
  rw [hv, hm] at c1
  have HV := hide hv
  clear h hv hm hr hn
  go_enter Tryz.func31, Tryz.ntmps31
  go_wp2_with fail
  go_loopw [5] (fun y wr => ∃ j : Nat, j ≤ m ∧ y = .int .i64 j ∧ (∀ i e, i < j → S.G[i]? = some e → e ≠ k) ∧ w = wr) (fun y _ => m - (kIx y).toNat)
  case atStart => exact ⟨0, by omega, rfl, fun i e hi => by omega, rfl⟩
  case round =>
    obtain ⟨j, hj, rfl, hno, rfl⟩ := hrel
    have HNO := hide hno
    clear hno
    by_cases hlt : j < m
    · have hd : decide ((j : Int) < (m : Int)) = true := by simp; omega
      have hdi : (j : Int) < (m : Int) := by omega
      have hd0 : (0 : Int) ≤ (j : Int) := by omega
      obtain ⟨e, he⟩ : ∃ e, S.G[j]? = some e := ⟨_, List.getElem?_eq_getElem (by have := HM.out; omega)⟩
      have hrow := HE.out
      rw [HV.out, HM.out] at hrow
      rcases row_form hrow with ⟨_, h0⟩ | ⟨g, c', hv', _, hgl⟩
      · omega
      · cases hv'
        have cc := row_cell (a := none) hrow (p := j) (v := .string e) (by unfold ksS; rw [List.getElem?_map, he]; rfl)
        have HEE := hide he
        clear hrow he
        by_cases hq : e = k
        · have g3 := str_eq hq
          have HF : Hid (X.known k = true) := by unfold Hid FX.known; rw [(HRL.out.g k).2 (hq ▸ List.mem_of_getElem? HEE.out), Bool.or_true]
          clear hq
          go_wp2_with fail
          try go_ret
          exact ⟨by rw [HF.out]; rfl, rfl⟩
        · have g3 := str_ne hq
          have HN : Hid (∀ i e, i < j + 1 → S.G[i]? = some e → e ≠ k) := fun i e' hi he' => by
            by_cases q : i = j
            · subst q; rw [HEE.out] at he'; cases he'; exact hq
            · exact HNO.out i e' (by omega) he'
          clear hq
          go_wp2_with fail
          exact ⟨⟨j + 1, by omega, by go_num, HN.out, trivial⟩, by simp [kIx]; omega⟩
    · have hd : decide ((j : Int) < (m : Int)) = false := by simp; omega
      have HG : Hid (X.G k = false) := by
        unfold Hid
        cases hh : X.G k with
        | false => rfl
        | true =>
          exfalso
          obtain ⟨i, hi, q⟩ := List.getElem_of_mem ((HRL.out.g k).1 hh)
          exact HNO.out i k (by have := HM.out; omega) (by rw [List.getElem?_eq_getElem hi, q]) rfl
      go_wp2_with fail
      refine HQE.out.mono ?_
      rintro e w1 ⟨r, rfl, hE, rfl⟩
      rcases HRL.out.ent hE with ⟨q1, q2⟩ | ⟨i, e, q1, q2, q3, q4⟩
      · have hge : decide ((0 : Int) ≤ r) = false := by simp; omega
        have HF : Hid (X.known k = false) := by unfold Hid FX.known; rw [q2, HG.out]; rfl
        clear hE q1 q2
        go_wp2_with fail
        try go_ret
        exact ⟨by rw [HF.out]; rfl, rfl⟩
      · have hge : decide ((0 : Int) ≤ r) = true := by simp; omega
        have HF : Hid (X.known k = true) := by unfold Hid FX.known; rw [q3]; rfl
        clear hE q1 q2 q3 q4
        go_wp2_with fail
        try go_ret
        exact ⟨by rw [HF.out]; rfl, rfl⟩
set_option maxRecDepth 100000 in
set_option maxHeartbeats 4000000 in
theorem kx_volumes {B : Nat} {w : World} {K : Kx} {S : KS} (h : KxAt B w K S) : Calls Tryz.prog 49 #[.pointer (some ⟨K.kb, 0, none⟩)] w fun e w' => ∃ a c, e = .returned (.slice a S.V.length c) ∧ S.V.length ≤ c ∧ VosAt B w a S.V ∧ w = w' := by
  obtain ⟨-, -, c2, -⟩ := h.cells
  obtain ⟨a, c, hv, hc, _, hvos⟩ := h.v.form
  obtain ⟨m, hm⟩ : ∃ m, S.V.length = m := ⟨_, rfl⟩
  rw [hv] at c2
  rw [hm] at c2 hc ⊢
  have HV := hide hvos
  have HC := hide hc
  clear h hv hm hvos hc
  go_enter Tryz.func49, Tryz.ntmps49
  go_wp2_with fail
  try go_ret
  exact ⟨a, c, rfl, HC.out, HV.out, rfl⟩
end Go.Proofs.YtonhmihmnkicdaaGreat
namespace Go.Proofs.YtonhmihmnkicdaaGreat
open Go.RowKit
set_option linter.unusedVariables false
theorem en_one (k d : ByteArray) (v o l : Int) : (#[Value.string k, .int .i64 v, .int .i64 o, .int .i64 l, .string d] : Array Value).all (·.oneCell') = true := by simp [Value.oneCell']
/-- an entry's five cells -/
theorem kx_cells {B : Nat} {w : World} {K : Kx} {S : KS} (h : KxAt B w K S) {j m : Nat} {g c : Nat} {e : En} (hm : S.E.length = m) (hv : K.vE = .slice (some ⟨g, 0, none⟩) m c) (he : S.E[j]? = some e) :
    w.cell? ⟨g, j * 5, none⟩ = some (.string e.key) ∧ w.cell? ⟨g, j * 5 + 1, none⟩ = some (.int .i64 e.vol) ∧ w.cell? ⟨g, j * 5 + 2, none⟩ = some (.int .i64 e.off) ∧ w.cell? ⟨g, j * 5 + 3, none⟩ = some (.int .i64 e.len) ∧ w.cell? ⟨g, j * 5 + 4, none⟩ = some (.string e.dig) := by
  have hr := h.e
  rw [hv, hm] at hr
  have q := row_cell (a := none) hr (enL_at he 0 _ rfl)
  rw [Nat.add_zero] at q
  exact ⟨q, row_cell (a := none) hr (enL_at he 1 _ rfl), row_cell (a := none) hr (enL_at he 2 _ rfl), row_cell (a := none) hr (enL_at he 3 _ rfl), row_cell (a := none) hr (enL_at he 4 _ rfl)⟩
theorem kx_slice {B : Nat} {w : World} {K : Kx} {S : KS} (h : KxAt B w K S) {i : Nat} {e : En} (he : S.E[i]? = some e) : ∃ g c, K.vE = .slice (some ⟨g, 0, none⟩) S.E.length c ∧ S.E.length ≤ c ∧ g < w.heap.size ∧ i < S.E.length := by
  have hi : i < S.E.length := (List.getElem?_eq_some_iff.1 he).1
  obtain ⟨a, c, hv, _⟩ := own_slice h.e
  have hr := h.e
  rw [hv] at hr
  rcases row_form hr with ⟨_, h0⟩ | ⟨g, c', hv', hc, hg⟩
  · omega
  · exact ⟨g, c', hv.trans hv', hc, hg, hi⟩
set_option maxRecDepth 100000 in
set_option maxHeartbeats 8000000 in
theorem kx_get {B : Nat} {w : World} {K : Kx} {S : KS} {X : FX} (h : KxAt B w K S) (hr : Rel S X) (hn : S.E.length ≤ 100000) (k : ByteArray) : Calls Tryz.prog 44 #[.pointer (some ⟨K.kb, 0, none⟩), .string k] w fun e w' => e = .returned (.tuple #[enV ((X.T k).getD en0), .int .i64 (X.getE k)]) ∧ Below w.heap.size w w' := by
  have hb1 : Below w.heap.size w (w.alloc (.cells #[.string ⟨#[]⟩, .int .i64 0, .int .i64 0, .int .i64 0, .string ⟨#[]⟩] 38)) := (Below.refl _ _).alloc (Nat.le_refl _) _
  have h1 := h.below hb1
  have hk0 : (w.alloc (.cells #[.string ⟨#[]⟩, .int .i64 0, .int .i64 0, .int .i64 0, .string ⟨#[]⟩] 38)).heap[w.heap.size]? = some (.cells #[.string ⟨#[]⟩, .int .i64 0, .int .i64 0, .int .i64 0, .string ⟨#[]⟩] 38 (0, 0)) := heap_alloc_new _ _
  have HRL := hide hr
  have hlt := lt_of_block h.box
  generalize hW1 : w.alloc (.cells #[.string ⟨#[]⟩, .int .i64 0, .int .i64 0, .int .i64 0, .string ⟨#[]⟩] 38) = W1 at *
  have HQ := hide (kx_entry h1 hn k)
  have HX := hide h1
  have HK0 := hide hk0
  have HB1 := hide hb1
  have HGE : Hid (X.getE k = if (X.T k).isSome then 0 else 9) := rfl
  have HWW := hide hW1
  have HN := hide hn
  clear h h1 hr hk0 hb1 hn
  go_enter Tryz.func44, Tryz.ntmps44
  go_upto_region 1 with fail
  clear HWW hW1
  go_wp2_with fail
  refine HQ.out.mono ?_
  rintro e w2 ⟨r, rfl, hE, rfl⟩
  rcases HRL.out.ent hE with ⟨q1, q2⟩ | ⟨i, e, q1, q2, q3, q4⟩
  · have hd : decide (r < (0 : Int)) = true := by simp; omega
    clear hE
    rw [q2] at HGE
    have HT := hide q2
    clear q1 q2
    go_wp2_with (first | (refine wpList_store_row rfl 38 (.tmp 4) (.tmp 12) rfl w.heap.size #[.string ⟨#[]⟩, .int .i64 0, .int .i64 0, .int .i64 0, .string ⟨#[]⟩] rfl rfl 38 _ HK0.out en_info4 rfl (en_one _ _ _ _ _) ?_))
    refine bodyPost_ret (res_en rfl _ _ w.heap.size _ rfl rfl (setRow_heap _ _ _ _ _ _ HK0.out)) rfl ?_
    exact ⟨by rw [HGE.out, HT.out]; rfl, below_setRow HB1.out (Nat.le_refl _) _⟩
  · have hd : decide (r < (0 : Int)) = false := by simp; omega
    obtain ⟨g, c, hv, hc, hg, hi⟩ := kx_slice HX.out q2
    obtain ⟨m, hm⟩ : ∃ m, S.E.length = m := ⟨_, rfl⟩
    obtain ⟨e0, e1, e2, e3, e4⟩ := kx_cells HX.out hm (hm ▸ hv) q2
    have c0 := HX.out.cells.1
    have hmn := HN.out
    rw [hv, hm] at c0
    rw [hm] at hc hi hmn
    have hi' : (i : Int) < (m : Int) := by omega
    have hi0 : (0 : Int) ≤ (i : Int) := by omega
    clear hE hv hm
    rw [q3] at HGE
    have HT := hide q3
    obtain ⟨ek, ev, eo, el, ed⟩ := e
    subst q1
    simp only at e0 e1 e2 e3 e4
    clear q2 q3 q4
    go_wp2_with (first | (refine wpList_store_row rfl 38 (.tmp 4) (.tmp 19) rfl w.heap.size #[.string ek, .int .i64 ev, .int .i64 eo, .int .i64 el, .string ed] rfl rfl 38 _ HK0.out en_info4 rfl (en_one _ _ _ _ _) ?_))
    refine bodyPost_ret (res_en rfl _ _ w.heap.size _ rfl rfl (setRow_heap _ _ _ _ _ _ HK0.out)) rfl ?_
    exact ⟨by rw [HGE.out, HT.out]; rfl, below_setRow HB1.out (Nat.le_refl _) _⟩
set_option maxRecDepth 100000 in
set_option maxHeartbeats 8000000 in
theorem kx_volume {B : Nat} {w : World} {K : Kx} {S : KS} {X : FX} (h : KxAt B w K S) (hr : Rel S X) (hn : S.V.length ≤ 100000) (id : Int) : Calls Tryz.prog 41 #[.pointer (some ⟨K.kb, 0, none⟩), .int .i64 id] w fun e w' => ∃ a c, e = .returned (.tuple #[.agg #[.int .i64 (X.vol id).id, .int .i64 (X.vol id).gen, .int .i64 (X.vol id).len, .slice a (X.vol id).ls.length c], .int .i64 (X.volE id)]) ∧ LocsK B w' a (X.vol id).ls ∧ Below w.heap.size w w' := by
  have hb1 : Below w.heap.size w (w.alloc (.cells #[.int .i64 0, .int .i64 0, .int .i64 0, .slice none 0 0] 36)) := (Below.refl _ _).alloc (Nat.le_refl _) _
  have h1 := h.below hb1
  have hk0 : (w.alloc (.cells #[.int .i64 0, .int .i64 0, .int .i64 0, .slice none 0 0] 36)).heap[w.heap.size]? = some (.cells #[.int .i64 0, .int .i64 0, .int .i64 0, .slice none 0 0] 36 (0, 0)) := heap_alloc_new _ _
  have HRL := hide hr
  have HBW := hide h.Bw
  have hlt := lt_of_block h.box
  generalize hW1 : w.alloc (.cells #[.int .i64 0, .int .i64 0, .int .i64 0, .slice none 0 0] 36) = W1 at *
  have HQ := hide (kx_place h1 hn id)
  have HX := hide h1
  have HK0 := hide hk0
  have HB1 := hide hb1
  have HE : Hid (X.volE id = if (X.V id).isSome then 0 else 9) := rfl
  have HVV : Hid (X.vol id = (X.V id).getD vd0) := rfl
  have HWW := hide hW1
  have HN := hide hn
  clear h h1 hr hk0 hb1 hn
  go_enter Tryz.func41, Tryz.ntmps41
  go_upto_region 1 with fail
  clear HWW hW1
  go_wp2_with fail
  refine HQ.out.mono ?_
  rintro e w2 ⟨r, rfl, hE, rfl⟩
  rcases HRL.out.place hE with ⟨q1, q2⟩ | ⟨i, v, q1, q2, q3, q4⟩
  · have hd : decide (r < (0 : Int)) = true := by simp; omega
    clear hE
    rw [q2] at HE HVV
    clear q1 q2
    go_wp2_with (first | (refine wpList_store_row rfl 36 (.tmp 4) (.tmp 12) rfl w.heap.size #[.int .i64 0, .int .i64 0, .int .i64 0, .slice none 0 0] rfl rfl 36 _ HK0.out vol_size4 rfl (vol_one _ _ _ _ _ _) ?_))
    refine bodyPost_ret (res_vo2 rfl _ _ w.heap.size _ rfl rfl (setRow_heap _ _ _ _ _ _ HK0.out)) rfl ?_
    rw [HVV.out, HE.out]
    exact ⟨none, 0, rfl, .inl rfl, below_setRow HB1.out (Nat.le_refl _) _⟩
  · have hd : decide (r < (0 : Int)) = false := by simp; omega
    have hi : i < S.V.length := (List.getElem?_eq_some_iff.1 q2).1
    obtain ⟨a, c, hv, hc, _, hvos⟩ := HX.out.v.form
    obtain ⟨vb, vo, xa, xc, rfl, hvb, hvat, hls⟩ := hvos.nth q2
    obtain ⟨d0, d1, d2, d3⟩ := hvat
    simp only at d0 d1 d2 d3
    have c2 := HX.out.cells.2.2.1
    have hmn := HN.out
    obtain ⟨m, hm⟩ : ∃ m, S.V.length = m := ⟨_, rfl⟩
    rw [hv, hm] at c2
    rw [hm] at hc hi hmn
    have hi' : (i : Int) < (m : Int) := by omega
    have hi0 : (0 : Int) ≤ (i : Int) := by omega
    have HL1 := hide hls
    clear hE hv hm hvos hls
    rw [q3] at HE HVV
    obtain ⟨v1, v2, v3, vl⟩ := v
    obtain ⟨ml, hml⟩ : ∃ ml, vl.length = ml := ⟨_, rfl⟩
    simp only [hml] at d0 d1 d2 d3
    have HM := hide hml
    subst q1
    clear q2 q3 q4 hml
    go_wp2_with (first | (refine wpList_store_row rfl 36 (.tmp 4) (.tmp 19) rfl w.heap.size #[.int .i64 v1, .int .i64 v2, .int .i64 v3, .slice xa ml xc] rfl rfl 36 _ HK0.out vol_size4 rfl (vol_one _ _ _ _ _ _) ?_))
    refine bodyPost_ret (res_vo2 rfl _ _ w.heap.size _ rfl rfl (setRow_heap _ _ _ _ _ _ HK0.out)) rfl ?_
    rw [HVV.out, HE.out]
    refine ⟨xa, xc, by simp only [Option.getD_some, HM.out]; rfl, HL1.out.mod (mds_row1 _ HK0.out HBW.out), below_setRow HB1.out (Nat.le_refl _) _⟩
end Go.Proofs.YtonhmihmnkicdaaGreat
