/- Volumes in memory, told by what they are (VD): rows of one's own, slices that came in, places that nobody writes. -/
import Derived.Test.YtghcekhlohgkaaaMpMap
import Derived.Test.YtghcekhlohgkaaaPnMath
import Derived.SizedLaws
namespace Go.Proofs.Ytghcekhlohgkaaa
open Go.RowKit
set_option linter.unusedVariables false
def OkP (k : Int × Int) : Prop := OkI k.1 ∧ OkI k.2
/-- a slice of places, in memory from before B or in a block of places (nobody writes these) -/
def LocsK (B : Nat) (w : World) (a : Option Addr) (l : List (Int × Int)) : Prop :=
  l = [] ∨ ∃ b o, a = some ⟨b, o, none⟩ ∧ b < w.heap.size ∧ (b < B ∨ ∃ cur fr, w.heap[b]? = some (.cells cur 58 fr)) ∧ ∀ (i : Nat) (x : Int × Int), l[i]? = some x → w.cell? ⟨b, o + i * 2, none⟩ = some (.int .i64 x.1) ∧ w.cell? ⟨b, o + i * 2 + 1, none⟩ = some (.int .i64 x.2)
theorem LocsK.at {B : Nat} {w : World} {a : Option Addr} {l : List (Int × Int)} (h : LocsK B w a l) : LocsAt w a l := by
  rcases h with h | ⟨b, o, h1, h2, _, h3⟩
  · exact .inl h
  · exact .inr ⟨b, o, h1, h2, h3⟩
/-- who changes what: A's blocks alone (which are A' then), nothing from before B, no block of places -/
structure Mds (B : Nat) (A : Nat → Prop) (w : World) (A' : Nat → Prop) (w' : World) : Prop where
  bel : Below B w w'
  size : w.heap.size ≤ w'.heap.size
  blk : ∀ (i : Nat), i < w.heap.size → ¬ A i → w'.heap[i]? = w.heap[i]?
  loc : ∀ (i : Nat) cur fr, w.heap[i]? = some (.cells cur 58 fr) → w'.heap[i]? = w.heap[i]?
  own : ∀ i, A' i → A i ∨ w.heap.size ≤ i
theorem Mds.refl (B : Nat) (A : Nat → Prop) (w : World) : Mds B A w A w := ⟨Below.refl _ _, Nat.le_refl _, fun _ _ _ => rfl, fun _ _ _ _ => rfl, fun _ h => .inl h⟩
theorem Mds.trans {B : Nat} {A A1 A2 : Nat → Prop} {u x w : World} (h : Mds B A u A1 x) (k : Mds B A1 x A2 w) : Mds B A u A2 w :=
  ⟨h.bel.trans k.bel, Nat.le_trans h.size k.size,
    fun i hi hn => (k.blk i (Nat.lt_of_lt_of_le hi h.size) fun q => by rcases h.own i q with r | r; exact hn r; omega).trans (h.blk i hi hn),
    fun i cur fr hc => (k.loc i cur fr ((h.loc i cur fr hc).trans hc)).trans (h.loc i cur fr hc),
    fun i hi => by
      rcases k.own i hi with q | q
      · exact h.own i q
      · exact .inr (Nat.le_trans h.size q)⟩
theorem Mds.of_below {B : Nat} (A : Nat → Prop) {w w' : World} (h : Below w.heap.size w w') (hB : B ≤ w.heap.size) : Mds B A w A w' :=
  ⟨h.mono hB, h.size, fun i hi _ => h.block i hi, fun i cur fr hc => h.block i (lt_of_block hc), fun _ h => .inl h⟩
theorem Mds.refill {B : Nat} {A A' A2 : Nat → Prop} {w w' : World} (h : Mds B A w A' w') (hs : ∀ i, A2 i → A' i ∨ w.heap.size ≤ i) : Mds B A w A2 w' :=
  ⟨h.bel, h.size, h.blk, h.loc, fun i hi => by rcases hs i hi with q | q; exact h.own i q; exact .inr q⟩
theorem LocsK.mod {B : Nat} {A A' : Nat → Prop} {w w' : World} {a : Option Addr} {l : List (Int × Int)} (h : LocsK B w a l) (m : Mds B A w A' w') : LocsK B w' a l := by
  rcases h with h | ⟨b, o, h1, h2, h3, h4⟩
  · exact .inl h
  · have hb : w'.heap[b]? = w.heap[b]? := by
      rcases h3 with q | ⟨cur, fr, q⟩
      · exact m.bel.block b q
      · exact m.loc b cur fr q
    refine .inr ⟨b, o, h1, Nat.lt_of_lt_of_le h2 m.size, ?_, fun i x hx => ?_⟩
    · rcases h3 with q | ⟨cur, fr, q⟩
      · exact .inl q
      · exact .inr ⟨cur, fr, hb.trans q⟩
    · obtain ⟨e1, e2⟩ := h4 i x hx
      have hc : ∀ p, w'.cell? ⟨b, p, none⟩ = w.cell? ⟨b, p, none⟩ := fun p => by unfold World.cell?; rw [hb]
      exact ⟨(hc _).trans e1, (hc _).trans e2⟩
theorem LocsK.below {B : Nat} {w w' : World} {a : Option Addr} {l : List (Int × Int)} (h : LocsK B w a l) (hb : Below w.heap.size w w') : LocsK B w' a l := by
  by_cases hB : B ≤ w.heap.size
  · exact h.mod (Mds.of_below (fun _ => False) hb hB)
  · rcases h with h | ⟨b, o, h1, h2, h3, h4⟩
    · exact .inl h
    · exact .inr ⟨b, o, h1, Nat.lt_of_lt_of_le h2 hb.size, .inl (by omega), fun i x hx => ⟨(hb.cell (p := ⟨b, o + i * 2, none⟩) h2).trans (h4 i x hx).1, (hb.cell (p := ⟨b, o + i * 2 + 1, none⟩) h2).trans (h4 i x hx).2⟩⟩
theorem LocsK.came {w : World} {a : Option Addr} {l : List (Int × Int)} (h : LocsAt w a l) : LocsK w.heap.size w a l := by
  rcases h with h | ⟨b, o, h1, h2, h3⟩
  · exact .inl h
  · exact .inr ⟨b, o, h1, h2, .inl h2, h3⟩
theorem LocsK.own {B B' : Nat} {w : World} {a : Option Addr} {c : Nat} {l : List (Int × Int)} (h : w.ownsRow B' 58 2 (.slice a l.length c) l.length (lcV l)) : LocsK B w a l := by
  obtain ⟨hl2, ⟨h1, h2⟩ | ⟨g, cap, cur, h1, hB, hg, hc, hm, hs, ht⟩⟩ := h
  · exact .inl (List.length_eq_zero_iff.1 h2)
  · injection h1 with h1 h3 h4
    have key : ∀ j v, (lcV l)[j]? = some v → w.cell? ⟨g, 0 + j, none⟩ = some v := fun j v hv => by
      rw [Nat.zero_add, cell_of_block hg]
      rw [← ht, List.getElem?_take] at hv
      split at hv
      · rw [← hv, Array.getElem?_toList]
      · cases hv
    exact .inr ⟨g, 0, h1, lt_of_block hg, .inr ⟨cur, _, hg⟩, fun i y hy => ⟨key _ _ (lcV_at hy).1, by rw [Nat.add_assoc]; exact key _ _ (lcV_at hy).2⟩⟩
/-- a volume, and where its places are -/
structure Vo where
  d : VD
  a : Option Addr
  c : Nat
def voA (d : VD) (a : Option Addr) (c : Nat) : Array Value := #[.int .i64 d.id, .int .i64 d.gen, .int .i64 d.len, .slice a d.ls.length c]
def voC (x : Vo) : List Value := [.int .i64 x.d.id, .int .i64 x.d.gen, .int .i64 x.d.len, .slice x.a x.d.ls.length x.c]
def voV (l : List Vo) : List Value := l.flatMap voC
theorem voV_snoc (l : List Vo) (x : Vo) : voV (l ++ [x]) = voV l ++ voC x := by simp [voV]
theorem voV_at : ∀ {l : List Vo} {i : Nat} {x : Vo}, l[i]? = some x → ∀ j v, (voC x)[j]? = some v → (voV l)[i * 4 + j]? = some v
  | y :: l, 0, x, h, j, v, hj => by
    simp at h; subst h
    have hl : j < 4 := by have := (List.getElem?_eq_some_iff.1 hj).1; simpa [voC] using this
    simp only [voV, List.flatMap_cons]
    rw [List.getElem?_append_left (by simp [voC]; omega)]
    simpa using hj
  | y :: l, i + 1, x, h, j, v, hj => by
    have := voV_at (l := l) (i := i) (by simpa using h) j v hj
    simp only [voV, List.flatMap_cons]
    rw [List.getElem?_append_right (by simp [voC]; omega)]
    rw [show (i + 1) * 4 + j - (voC y).length = i * 4 + j by simp [voC]; omega]
    exact this
theorem voV_len (l : List Vo) : (voV l).length = l.length * 4 := by
  induction l with
  | nil => rfl
  | cons x l ih => simp [voV, voC] at ih ⊢; omega
theorem voC_one (x : Vo) : ∀ u ∈ voC x, u.oneCell' = true := by intro u hu; simp [voC] at hu; rcases hu with rfl | rfl | rfl | rfl <;> rfl
theorem vol_info : (Try.prog.info? 33).map (fun i => (i.zero, i.size, i.bytes)) = some (some (.agg #[.int .i64 0, .int .i64 0, .int .i64 0, .slice none 0 0]), 4, 48) := by kernel_rfl
theorem cell_vol_new (w : World) (x : Vo) (t : TypeId) : ∀ j u, (voC x)[j]? = some u → (w.alloc (.cells (voA x.d x.a x.c) t)).cell? ((⟨w.heap.size, 0, none⟩ : Addr).add j) = some u := by
  intro j u hj
  rw [add_plain, cell_of_block (heap_alloc_new w (.cells (voA x.d x.a x.c) t)), Nat.zero_add]
  match j, hj with
  | 0, hj => exact hj
  | 1, hj => exact hj
  | 2, hj => exact hj
  | 3, hj => exact hj
/-- a slice of volumes, wherever it lies -/
structure VoAt (w : World) (b o : Nat) (x : Vo) : Prop where
  c0 : w.cell? ⟨b, o, none⟩ = some (.int .i64 x.d.id)
  c1 : w.cell? ⟨b, o + 1, none⟩ = some (.int .i64 x.d.gen)
  c2 : w.cell? ⟨b, o + 2, none⟩ = some (.int .i64 x.d.len)
  c3 : w.cell? ⟨b, o + 3, none⟩ = some (.slice x.a x.d.ls.length x.c)
def VosAt (B : Nat) (w : World) (a : Option Addr) (L : List VD) : Prop :=
  L = [] ∨ ∃ b o, a = some ⟨b, o, none⟩ ∧ b < w.heap.size ∧ ∃ vs : List Vo, vs.map Vo.d = L ∧ ∀ (i : Nat) (x : Vo), vs[i]? = some x → VoAt w b (o + i * 4) x ∧ LocsK B w x.a x.d.ls
theorem VoAt.keep {w w' : World} {b o : Nat} {x : Vo} (h : VoAt w b o x) (hb : w'.heap[b]? = w.heap[b]?) : VoAt w' b o x := by
  have hc : ∀ p, w'.cell? ⟨b, p, none⟩ = w.cell? ⟨b, p, none⟩ := fun p => by unfold World.cell?; rw [hb]
  exact ⟨(hc _).trans h.c0, (hc _).trans h.c1, (hc _).trans h.c2, (hc _).trans h.c3⟩
theorem VosAt.below {B : Nat} {w w' : World} {a : Option Addr} {L : List VD} (h : VosAt B w a L) (hb : Below w.heap.size w w') : VosAt B w' a L := by
  rcases h with h | ⟨b, o, ha, hlt, vs, hm, hc⟩
  · exact .inl h
  · exact .inr ⟨b, o, ha, Nat.lt_of_lt_of_le hlt hb.size, vs, hm, fun i x hx => ⟨(hc i x hx).1.keep (hb.block b hlt), (hc i x hx).2.below hb⟩⟩
theorem VosAt.drewN {B : Nat} {w : World} {a : Option Addr} {L : List VD} (h : VosAt B w a L) (n : Nat) : VosAt B (w.drewN n) a L := h.below (drawn_below (Below.refl _ _) n)
theorem VosAt.take {B : Nat} {w : World} {a : Option Addr} {L : List VD} (h : VosAt B w a L) (n : Nat) : VosAt B w a (L.take n) := by
  rcases h with h | ⟨b, o, ha, hlt, vs, hm, hc⟩
  · exact .inl (by rw [h]; simp)
  · exact .inr ⟨b, o, ha, hlt, vs.take n, by rw [List.map_take, hm], fun i x hx => hc i x (by rw [List.getElem?_take] at hx; split at hx; exact hx; cases hx)⟩
theorem VosAt.nth {B : Nat} {w : World} {a : Option Addr} {L : List VD} (h : VosAt B w a L) {k : Nat} {x : VD} (hx : L[k]? = some x) : ∃ b o xa xc, a = some ⟨b, o, none⟩ ∧ b < w.heap.size ∧ VoAt w b (o + k * 4) ⟨x, xa, xc⟩ ∧ LocsK B w xa x.ls := by
  rcases h with q | ⟨b, o, ha, hlt, vs, hm, hc⟩
  · rw [q] at hx; simp at hx
  · rw [← hm, List.getElem?_map] at hx
    cases hv : vs[k]? with
    | none => rw [hv] at hx; simp at hx
    | some y =>
      rw [hv] at hx
      simp at hx
      subst hx
      obtain ⟨h1, h2⟩ := hc k y hv
      exact ⟨b, o, y.a, y.c, ha, hlt, h1, h2⟩
/-- a row of volumes of one's own -/
def RowV (B : Nat) (w : World) (v : Value) (L : List VD) : Prop :=
  ∃ vs : List Vo, vs.map Vo.d = L ∧ w.ownsRow B 33 4 v vs.length (voV vs) ∧ ∀ x ∈ vs, LocsK B w x.a x.d.ls
theorem RowV.nil (B : Nat) (w : World) : RowV B w (.slice none 0 0) [] := ⟨[], rfl, World.ownsRow_nil _ _ _ _, fun x hx => by simp at hx⟩
theorem row_keep {W W' : World} {B z n : Nat} {e : TypeId} {v : Value} {xs : List Value} (h : W.ownsRow B e z v n xs) (hk : ∀ i, v.ownBlock = some i → W'.heap[i]? = W.heap[i]?) : W'.ownsRow B e z v n xs := by
  obtain ⟨hl, ⟨h1, h2⟩ | ⟨g, cap, cur, h1, hB, hg, hc, hm, hs, ht⟩⟩ := h
  · exact ⟨hl, .inl ⟨h1, h2⟩⟩
  · exact ⟨hl, .inr ⟨g, cap, cur, h1, hB, (hk g (by rw [h1]; rfl)).trans hg, hc, hm, hs, ht⟩⟩
theorem own_at {w : World} {B z n k : Nat} {e : TypeId} {v : Value} {xs : List Value} (h : w.ownsRow B e z v n xs) (hk : v.ownBlock = some k) : B ≤ k ∧ k < w.heap.size ∧ ∃ cur, w.heap[k]? = some (.cells cur e (0, 0)) := by
  obtain ⟨_, ⟨rfl, _⟩ | ⟨g, cap, cur, rfl, hB, hg, _⟩⟩ := h
  · cases hk
  · obtain rfl : g = k := by simpa [Value.ownBlock] using hk
    exact ⟨hB, lt_of_block hg, cur, hg⟩
theorem RowV.at {B : Nat} {w : World} {v : Value} {L : List VD} (h : RowV B w v L) {k : Nat} (hk : v.ownBlock = some k) : B ≤ k ∧ k < w.heap.size ∧ ∃ cur, w.heap[k]? = some (.cells cur 33 (0, 0)) := by
  obtain ⟨vs, _, h1, _⟩ := h
  exact own_at h1 hk
theorem RowV.mod {B : Nat} {A A' : Nat → Prop} {w w' : World} {v : Value} {L : List VD} (h : RowV B w v L) (m : Mds B A w A' w') (hk : ∀ i, v.ownBlock = some i → ¬ A i) : RowV B w' v L := by
  obtain ⟨vs, hm, h1, h2⟩ := h
  exact ⟨vs, hm, row_keep h1 fun i hi => m.blk i (own_at h1 hi).2.1 (hk i hi), fun x hx => (h2 x hx).mod m⟩
theorem RowV.below {B : Nat} {w w' : World} {v : Value} {L : List VD} (h : RowV B w v L) (hb : Below w.heap.size w w') : RowV B w' v L := by
  obtain ⟨vs, hm, h1, h2⟩ := h
  exact ⟨vs, hm, own_below h1 hb, fun x hx => (h2 x hx).below hb⟩
theorem RowV.form {B : Nat} {w : World} {v : Value} {L : List VD} (h : RowV B w v L) : ∃ a c, v = .slice a L.length c ∧ L.length ≤ c ∧ c ≤ 9223372036854775807 ∧ VosAt B w a L := by
  obtain ⟨vs, hm, ⟨hl, ⟨rfl, h2⟩ | ⟨g, cap, cur, rfl, hB, hg, hc, hmx, hs, ht⟩⟩, h3⟩ := h
  · have : vs = [] := List.length_eq_zero_iff.1 h2
    subst this
    subst hm
    exact ⟨none, 0, rfl, Nat.le_refl _, by omega, .inl rfl⟩
  · unfold maxLen at hmx
    have el : vs.length = L.length := by rw [← hm, List.length_map]
    rw [el]
    refine ⟨_, cap, rfl, by omega, hmx, .inr ⟨g, 0, rfl, lt_of_block hg, vs, hm, fun i x hx => ⟨?_, h3 x (List.mem_of_getElem? hx)⟩⟩⟩
    have key : ∀ j v, (voV vs)[j]? = some v → w.cell? ⟨g, 0 + j, none⟩ = some v := fun j v hv => by
      rw [Nat.zero_add, cell_of_block hg]
      rw [← ht, List.getElem?_take] at hv
      split at hv
      · rw [← hv, Array.getElem?_toList]
      · cases hv
    refine ⟨?_, ?_, ?_, ?_⟩
    · exact key _ _ (voV_at hx 0 _ rfl)
    · rw [Nat.add_assoc]; exact key _ _ (voV_at hx 1 _ rfl)
    · rw [Nat.add_assoc]; exact key _ _ (voV_at hx 2 _ rfl)
    · rw [Nat.add_assoc]; exact key _ _ (voV_at hx 3 _ rfl)
/-- one more volume: behind append (the volume lay in a new block, the row has grown) -/
theorem RowV.push {B : Nat} {w w1 : World} {v v' : Value} {L : List VD} {x : Vo} {o : Obj} (vs : List Vo) (hm : vs.map Vo.d = L) (h2 : ∀ y ∈ vs, LocsK B w y.a y.d.ls) (hx : LocsK B w x.a x.d.ls)
    (hrow : w.ownsRow B 33 4 v vs.length (voV vs)) (hown : w1.ownsRow B 33 4 v' (vs.length + 1) (voV vs ++ voC x)) (hgr : (w.alloc o).grownBy w1 v.ownBlock) :
    RowV B w1 v' (L ++ [x.d]) := by
  have hk : ∀ {a l}, LocsK B w a l → LocsK B w1 a l := fun {a l} h => by
    rcases h with h | ⟨b, o', h1, hb, h3, h4⟩
    · exact .inl h
    · have hne : some b ≠ v.ownBlock := fun e => by
        obtain ⟨k1, k2, cur, k3⟩ := own_at hrow e.symm
        rcases h3 with q | ⟨cur2, fr, q⟩
        · omega
        · rw [k3] at q; injection q with q; injection q with _ q; exact absurd q (by decide)
      have hb1 : w1.heap[b]? = w.heap[b]? := (hgr.block b (by rw [World.size_alloc]; omega) hne).trans (Below.heap_alloc _ _ _ hb)
      have hc : ∀ p, w1.cell? ⟨b, p, none⟩ = w.cell? ⟨b, p, none⟩ := fun p => by unfold World.cell?; rw [hb1]
      refine .inr ⟨b, o', h1, by have := hgr.size; rw [World.size_alloc] at this; omega, ?_, fun i y hy => ⟨(hc _).trans (h4 i y hy).1, (hc _).trans (h4 i y hy).2⟩⟩
      rcases h3 with q | ⟨cur2, fr, q⟩
      · exact .inl q
      · exact .inr ⟨cur2, fr, hb1.trans q⟩
  refine ⟨vs ++ [x], by rw [List.map_append, hm]; rfl, ?_, fun y hy => ?_⟩
  · rw [voV_snoc, List.length_append]
    exact hown
  · rcases List.mem_append.1 hy with q | q
    · exact hk (h2 y q)
    · rw [List.mem_singleton.1 q]
      exact hk hx
end Go.Proofs.Ytghcekhlohgkaaa
