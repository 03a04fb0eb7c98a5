/- Rows that grow by append, of elements of any size; lists of numbers and of places in memory. (For seats without needles: in the place of NeRow.) Maps in memory: what a block holds at each key, as a function. Pins as they are told: who reads (how many of each), what waits. Volumes in memory, told by what they are (VD): rows of one's own, slices that came in, places that nobody writes. -/
import Derived.Test.YtonhmihmnkicdaaGreatBase
import Derived.Maps.AppendAt
import Derived.Deep.Slices
import Derived.Deep.Fields
import Derived.Maps.OwnSet
import Derived.SizedLaws
namespace Go.Proofs.YtonhmihmnkicdaaGreat
open Go.RowKit
set_option linter.unusedVariables false
theorem drawn_below {B : Nat} {a w : World} (h : Below B a w) (n : Nat) : Below B a (w.drewN n) := ⟨h.os, h.tape, h.output, h.size, h.block⟩
theorem int_info : (Tryz.prog.info? 3).map (fun i => (i.zero, i.size, i.bytes)) = some (some (.int .i64 0), 1, 8) := by kernel_rfl
theorem loc_info : (Tryz.prog.info? 84).map (fun i => (i.zero, i.size, i.bytes)) = some (some (.agg #[.int .i64 0, .int .i64 0]), 2, 16) := by kernel_rfl
/-- a row of one's own -/
def GR (w wr : World) (e : TypeId) (size : Nat) (v : Value) (n : Nat) (xs : List Value) : Prop := wr.ownsRow w.heap.size e size v n xs ∧ Below w.heap.size w wr
theorem own_below {B size n : Nat} {e : TypeId} {v : Value} {xs : List Value} {w w' : World} (h : w.ownsRow B e size v n xs) (hb : Below w.heap.size w w') : w'.ownsRow B e size v n xs := by
  obtain ⟨hl, ⟨rfl, rfl⟩ | ⟨g, cap, cur, rfl, hB, hg, hc, hm, hs, ht⟩⟩ := h
  · exact ⟨hl, .inl ⟨rfl, rfl⟩⟩
  · exact ⟨hl, .inr ⟨g, cap, cur, rfl, hB, (hb.block g (lt_of_block hg)).trans hg, hc, hm, hs, ht⟩⟩
theorem own_mono {W : World} {B B' z n : Nat} {e : TypeId} {v : Value} {xs : List Value} (h : W.ownsRow B e z v n xs) (hb : B' ≤ B) : W.ownsRow B' e z v n xs := by
  obtain ⟨hl, ⟨rfl, rfl⟩ | ⟨g, cap, cur, rfl, hB, hg, hc, hm, hs, ht⟩⟩ := h
  · exact ⟨hl, .inl ⟨rfl, rfl⟩⟩
  · exact ⟨hl, .inr ⟨g, cap, cur, rfl, by omega, hg, hc, hm, hs, ht⟩⟩
theorem GR.nil (w wr : World) (e : TypeId) (size : Nat) (h : Below w.heap.size w wr) : GR w wr e size (.slice none 0 0) 0 [] := ⟨World.ownsRow_nil _ _ _ _, h⟩
theorem GR.below {w wr w' : World} {e : TypeId} {size n : Nat} {v : Value} {xs : List Value} (h : GR w wr e size v n xs) (hb : Below wr.heap.size wr w') : GR w w' e size v n xs := ⟨own_below h.1 hb, h.2.trans (hb.mono h.2.size)⟩
theorem GR.step {w wr w1 : World} {e : TypeId} {size n : Nat} {v v' : Value} {xs ys : List Value} {o : Obj} (h : GR w wr e size v n xs) (hown : w1.ownsRow w.heap.size e size v' (n + 1) ys) (hgr : (wr.alloc o).grownBy w1 v.ownBlock) : GR w w1 e size v' (n + 1) ys := by
  refine ⟨hown, Below.grown (h.2.alloc h.2.size o) hgr ?_ fun g hg => row_base h.1 hg⟩
  rw [World.size_alloc]
  exact Nat.le_succ_of_le h.2.size
theorem cell_two_new (w : World) (x y : Value) (t : TypeId) : ∀ j u, [x, y][j]? = some u → (w.alloc (.cells #[x, y] t)).cell? ((⟨w.heap.size, 0, none⟩ : Addr).add j) = some u := by
  intro j u hj
  rw [add_plain, cell_of_block (heap_alloc_new w (.cells #[x, y] t)), Nat.zero_add]
  match j, hj with
  | 0, hj => exact hj
  | 1, hj => exact hj
theorem GR.form {w wr : World} {e : TypeId} {size n : Nat} {v : Value} {xs : List Value} (h : GR w wr e size v n xs) : ∃ a c, v = .slice a n c ∧ n ≤ c ∧ c ≤ 9223372036854775807 ∧ (n = 0 ∨ ∃ g, a = some ⟨g, 0, none⟩ ∧ w.heap.size ≤ g ∧ g < wr.heap.size ∧ ∀ j u, xs[j]? = some u → wr.cell? ⟨g, 0 + j, none⟩ = some u) := by
  obtain ⟨⟨hl, ⟨rfl, rfl⟩ | ⟨g, cap, cur, rfl, hB, hg, hc, hm, hs, ht⟩⟩, hb⟩ := h
  · exact ⟨none, 0, rfl, Nat.le_refl _, by omega, .inl rfl⟩
  · unfold maxLen at hm
    refine ⟨_, cap, rfl, hc, hm, .inr ⟨g, rfl, hB, lt_of_block hg, fun j u hu => ?_⟩⟩
    rw [Nat.zero_add, cell_of_block hg]
    rw [← ht, List.getElem?_take] at hu
    split at hu
    · rw [← hu, Array.getElem?_toList]
    · cases hu
def IntsAt (w : World) (a : Option Addr) (l : List Int) : Prop := l = [] ∨ ∃ b o, a = some ⟨b, o, none⟩ ∧ b < w.heap.size ∧ ∀ i s, l[i]? = some s → w.cell? ⟨b, o + i, none⟩ = some (.int .i64 s)
theorem IntsAt.below {w w' : World} {a : Option Addr} {l : List Int} (h : IntsAt w a l) (hb : Below w.heap.size w w') : IntsAt w' a l := by
  rcases h with h | ⟨b, o, ha, hlt, hc⟩
  · exact .inl h
  · exact .inr ⟨b, o, ha, Nat.lt_of_lt_of_le hlt hb.size, fun i s hs => (hb.cell (p := ⟨b, o + i, none⟩) hlt).trans (hc i s hs)⟩
theorem IntsAt.drewN {w : World} {a : Option Addr} {l : List Int} (h : IntsAt w a l) (n : Nat) : IntsAt (w.drewN n) a l := h
def inV (l : List Int) : List Value := l.map fun x => .int .i64 x
theorem inV_snoc (l : List Int) (x : Int) : inV (l ++ [x]) = inV l ++ [.int .i64 x] := by simp [inV]
theorem GR.ints {w wr : World} {e : TypeId} {v : Value} {l : List Int} (h : GR w wr e 1 v l.length (inV l)) : ∃ a c, v = .slice a l.length c ∧ l.length ≤ c ∧ IntsAt wr a l := by
  obtain ⟨a, c, e1, hc, _, h0 | ⟨g, rfl, _, hlt, hcell⟩⟩ := h.form
  · exact ⟨a, c, e1, hc, .inl (List.length_eq_zero_iff.1 h0)⟩
  · exact ⟨_, c, e1, hc, .inr ⟨g, 0, rfl, hlt, fun i s hs => hcell i _ (by unfold inV; rw [List.getElem?_map, hs]; rfl)⟩⟩
theorem came_ints {w : World} {a : Option Addr} {l c : Nat} (h : Came 30 w a l c) : ∃ ls : List Int, ls.length = l ∧ l ≤ c ∧ l ≤ 9223372036854775807 ∧ IntsAt w a ls := by
  obtain ⟨H, enc, d, ps, fuel, hf⟩ := h
  rcases Go.ChangeShapes.open_ints Tryz.underlying30 Tryz.underlying3 (by kernel_rfl) hf with ⟨hcs, _⟩ | ⟨x, l', c', ss, hcs, _, hl, hm, hz, _, hcell, _⟩
  · simp [Value.cells] at hcs
    obtain ⟨rfl, rfl, rfl⟩ := hcs
    exact ⟨[], rfl, by omega, by omega, .inl rfl⟩
  · simp [Value.cells] at hcs
    obtain ⟨rfl, rfl, rfl⟩ := hcs
    simp only [if_true] at hz
    unfold maxLen at hm
    refine ⟨ss.take l, by rw [List.length_take]; omega, hl, by omega, ?_⟩
    by_cases h0 : l = 0
    · exact .inl (by subst h0; rfl)
    · obtain ⟨e, hb⟩ := plain_addr (hcell 0 (by omega))
      refine .inr ⟨x.block, x.off, by rw [← e], hb, fun i s hs => ?_⟩
      have hi : i < l := by have := (List.getElem?_eq_some_iff.1 hs).1; rw [List.length_take] at this; omega
      rw [List.getElem?_take, if_pos hi] at hs
      have := hcell i (by omega)
      rw [e, add_plain] at this
      rw [this, List.getD_eq_getElem?_getD, hs]; rfl
/-- places that lie one behind the other -/
def LocsAt (w : World) (a : Option Addr) (l : List (Int × Int)) : Prop := l = [] ∨ ∃ b o, a = some ⟨b, o, none⟩ ∧ b < w.heap.size ∧ ∀ (i : Nat) (x : Int × Int), l[i]? = some x → w.cell? ⟨b, o + i * 2, none⟩ = some (.int .i64 x.1) ∧ w.cell? ⟨b, o + i * 2 + 1, none⟩ = some (.int .i64 x.2)
theorem LocsAt.below {w w' : World} {a : Option Addr} {l : List (Int × Int)} (h : LocsAt w a l) (hb : Below w.heap.size w w') : LocsAt w' a l := by
  rcases h with h | ⟨b, o, ha, hlt, hc⟩
  · exact .inl h
  · exact .inr ⟨b, o, ha, Nat.lt_of_lt_of_le hlt hb.size, fun i x hx => ⟨(hb.cell (p := ⟨b, o + i * 2, none⟩) hlt).trans (hc i x hx).1, (hb.cell (p := ⟨b, o + i * 2 + 1, none⟩) hlt).trans (hc i x hx).2⟩⟩
theorem LocsAt.drewN {w : World} {a : Option Addr} {l : List (Int × Int)} (h : LocsAt w a l) (n : Nat) : LocsAt (w.drewN n) a l := h
def lcV (l : List (Int × Int)) : List Value := l.flatMap fun x => [.int .i64 x.1, .int .i64 x.2]
theorem lcV_snoc (l : List (Int × Int)) (x : Int × Int) : lcV (l ++ [x]) = lcV l ++ [.int .i64 x.1, .int .i64 x.2] := by simp [lcV]
theorem lcV_at : ∀ {l : List (Int × Int)} {i : Nat} {x : Int × Int}, l[i]? = some x → (lcV l)[i * 2]? = some (.int .i64 x.1) ∧ (lcV l)[i * 2 + 1]? = some (.int .i64 x.2)
  | [], i, x, h => by simp at h
  | y :: l, 0, x, h => by simp at h; subst h; exact ⟨rfl, rfl⟩
  | y :: l, i + 1, x, h => by
    have := lcV_at (l := l) (i := i) (x := x) (by simpa using h)
    show ([Value.int .i64 y.1, .int .i64 y.2] ++ lcV l)[(i + 1) * 2]? = _ ∧ ([Value.int .i64 y.1, .int .i64 y.2] ++ lcV l)[(i + 1) * 2 + 1]? = _
    rw [show (i + 1) * 2 = i * 2 + 2 by omega]
    exact this
theorem GR.locs {w wr : World} {e : TypeId} {v : Value} {l : List (Int × Int)} (h : GR w wr e 2 v l.length (lcV l)) : ∃ a c, v = .slice a l.length c ∧ l.length ≤ c ∧ LocsAt wr a l := by
  obtain ⟨a, c, e1, hc, _, h0 | ⟨g, rfl, _, hlt, hcell⟩⟩ := h.form
  · exact ⟨a, c, e1, hc, .inl (List.length_eq_zero_iff.1 h0)⟩
  · exact ⟨_, c, e1, hc, .inr ⟨g, 0, rfl, hlt, fun i x hx => ⟨hcell _ _ (lcV_at hx).1, by rw [Nat.add_assoc]; exact hcell _ _ (lcV_at hx).2⟩⟩⟩
set_option maxRecDepth 100000 in
theorem loc_open {H : Type} {enc : TypeId × Value → H} {w : World} {fuel : Nat} {cs : List Value} {y : DataW H × List MemPlace} (h : DataW.trod enc Tryz.prog w 0 (fun _ => true) true fuel 84 cs = some y) :
    ∃ x : Int × Int, cs = [.int .i64 x.1, .int .i64 x.2] := by
  obtain ⟨ys, n, _, hx, hl, hlen, hf⟩ := DataW.trod_struct Tryz.underlying84 h
  have k1 : Tryz.prog.cellsOf 3 = 1 := by kernel_rfl
  have k2 : Tryz.prog.cellsOf 84 = 2 := by kernel_rfl
  rw [k2] at hl
  match cs, hl with
  | [c0, c1], _ =>
    match ys, hlen with
    | [y0, y1], _ =>
      have h0 := hf 0 _ rfl
      have h1 := hf 1 _ rfl
      simp [k1] at h0 h1
      obtain ⟨a0, e0, -, -⟩ := DataW.trod_int Tryz.underlying3 h0
      obtain ⟨a1, e1, -, -⟩ := DataW.trod_int Tryz.underlying3 h1
      simp at e0 e1
      subst e0 e1
      exact ⟨(a0, a1), rfl⟩
set_option maxRecDepth 100000 in
theorem came_locs {w : World} {a : Option Addr} {l c : Nat} (h : Came 34 w a l c) : ∃ ls : List (Int × Int), ls.length = l ∧ l ≤ c ∧ l ≤ 9223372036854775807 ∧ LocsAt w a ls := by
  obtain ⟨H, enc, d, ps, fuel, hf⟩ := h
  rcases Go.Deep.open_slice Tryz.underlying34 hf with ⟨hcs, _⟩ | ⟨x, l', c', m, n, Dd, Pl, hcs, hb, hl, hm, hmm, hx, hi⟩
  · simp [Value.cells] at hcs
    obtain ⟨rfl, rfl, rfl⟩ := hcs
    exact ⟨[], rfl, by omega, by omega, .inl rfl⟩
  · simp [Value.cells] at hcs
    obtain ⟨rfl, rfl, rfl⟩ := hcs
    unfold maxLen at hm
    have k2 : Tryz.prog.cellsOf 84 = 2 := by kernel_rfl
    rw [if_pos rfl] at hmm
    rw [k2] at hi
    have each : ∀ i, i < l → ∃ y : Int × Int, ∀ j v, ([.int .i64 y.1, .int .i64 y.2] : List Value)[j]? = some v → w.cell? ((x.add (i * 2)).add j) = some v := by
      intro i hil
      obtain ⟨cs', hc, ht⟩ := hi i (by omega)
      obtain ⟨y, rfl⟩ := loc_open ht
      obtain ⟨_, hcl, hat⟩ := World.cells?_some hc
      exact ⟨y, fun j v hj => by rw [hat j (by have := (List.getElem?_eq_some_iff.1 hj).1; simpa using this)]; exact hj⟩
    by_cases h0 : l = 0
    · subst h0; exact ⟨[], rfl, hl, by omega, .inl rfl⟩
    · have cho : ∃ f : Nat → Int × Int, ∀ i, i < l → ∀ j v, ([.int .i64 (f i).1, .int .i64 (f i).2] : List Value)[j]? = some v → w.cell? ((x.add (i * 2)).add j) = some v := by
        refine ⟨fun i => if hil : i < l then Classical.choose (each i hil) else (0, 0), fun i hil => ?_⟩
        simp only [dif_pos hil]
        exact Classical.choose_spec (each i hil)
      obtain ⟨f, hf2⟩ := cho
      refine ⟨(List.range l).map f, by simp, hl, by omega, ?_⟩
      have h00 := hf2 0 (by omega) 0 _ rfl
      rw [Nat.zero_mul, show x.add 0 = x from rfl] at h00
      obtain ⟨e, hblt⟩ := plain_addr h00
      refine .inr ⟨x.block, x.off, by rw [← e], hblt, fun i y hy => ?_⟩
      have hil : i < l := by have := (List.getElem?_eq_some_iff.1 hy).1; simpa using this
      simp [hil] at hy
      subst hy
      have h2 := hf2 i hil
      rw [e, add_plain] at h2
      have hc : ∀ j v, ([.int .i64 (f i).1, .int .i64 (f i).2] : List Value)[j]? = some v → w.cell? ⟨x.block, x.off + i * 2 + j, none⟩ = some v := fun j v hj => by
        have := h2 j v hj
        rw [add_plain] at this
        exact this
      exact ⟨hc 0 _ rfl, hc 1 _ rfl⟩
end Go.Proofs.YtonhmihmnkicdaaGreat
namespace Go.Proofs.YtonhmihmnkicdaaGreat
open Go.RowKit Go.Maps
set_option linter.unusedVariables false
/-- any element reads as itself -/
def hv (v : Value) : Option (DataW Value × List MemPlace) := some (.held v, [])
def held? (o : Option Value) : DataW Value := match o with | some v => .held v | none => .nil
/-- keys of a kind: how they are told, which are good -/
structure KE (k : TypeId) {α : Type} (kv : α → Value) (kf : α → Lit) (ok : α → Prop) : Prop where
  keyed : Keyed Tryz.prog k
  key : ∀ a, ok a → keyOf Tryz.prog k (kv a) = some (kf a)
  inj : ∀ a b, kv a = kv b → a = b
theorem KE.inj' {k : TypeId} {α : Type} {kv : α → Value} {kf : α → Lit} {ok : α → Prop} (K : KE k kv kf ok) {a b : α} (ha : ok a) (hb : ok b) (e : kf a = kf b) : a = b :=
  K.inj a b (K.keyed.inj (K.key a ha) (e ▸ K.key b hb))
/-- block b is a map with f's entries, no more than n -/
def MAt (w : World) (k : TypeId) (b n : Nat) {α : Type} (kf : α → Lit) (ok : α → Prop) (f : α → Option Value) : Prop :=
  ∃ D : DataW Value, w.ownsMap Tryz.prog k hv b n D ∧ ∀ a, ok a → D.atKey (kf a) .nil = held? (f a)
section
variable {w w' : World} {k : TypeId} {b n : Nat} {α : Type} {kv : α → Value} {kf : α → Lit} {ok : α → Prop} {f : α → Option Value}
theorem MAt.lt (h : MAt w k b n kf ok f) : b < w.heap.size := by obtain ⟨D, h1, _⟩ := h; exact h1.lt
theorem MAt.keep (h : MAt w k b n kf ok f) (hb : w'.heap[b]? = w.heap[b]?) : MAt w' k b n kf ok f := by
  obtain ⟨D, ⟨es, clock, h1, h2⟩, h3⟩ := h
  exact ⟨D, ⟨es, clock, hb.trans h1, h2⟩, h3⟩
theorem MAt.below (h : MAt w k b n kf ok f) (hb : Below w.heap.size w w') : MAt w' k b n kf ok f := h.keep (hb.block b h.lt)
theorem MAt.mono (h : MAt w k b n kf ok f) {m : Nat} (hm : n ≤ m) : MAt w k b m kf ok f := by
  obtain ⟨D, h1, h2⟩ := h
  exact ⟨D, h1.mono hm, h2⟩
theorem MAt.congr (h : MAt w k b n kf ok f) {g : α → Option Value} (e : ∀ a, ok a → g a = f a) : MAt w k b n kf ok g := by
  obtain ⟨D, h1, h2⟩ := h
  exact ⟨D, h1, fun a ha => by rw [e a ha]; exact h2 a ha⟩
theorem MAt.made (w : World) (k : TypeId) (kf : α → Lit) (ok : α → Prop) : MAt (w.alloc (.map #[] 0)) k w.heap.size 0 kf ok (fun _ => none) :=
  ⟨_, World.ownsMap_made w _ k hv, fun a _ => rfl⟩
theorem atKey_swap {D : DataW Value} {kl : Lit} (h : Maps.has D kl = true) (z z' : DataW Value) : D.atKey kl z = D.atKey kl z' := by
  cases D <;> try (simp [Maps.has] at h; done)
  rename_i es
  simp only [DataW.atKey]
  cases hf : es.find? (fun p => p.1.sameKey kl) with
  | some p => rfl
  | none =>
    exfalso
    obtain ⟨p, hp, hs⟩ := List.any_eq_true.1 h
    have := List.find?_eq_none.1 hf p hp
    exact this hs
/-- what is looked up: the entry's element, or the zero value -/
theorem look_spec {D : DataW Value} {kl : Lit} {z v : Value} {o : Option Value} (hD : D.atKey kl .nil = held? o) (hv : .held v = D.atKey kl (.held z)) : v = o.getD z ∧ Maps.has D kl = o.isSome := by
  cases hh : Maps.has D kl with
  | false =>
    rw [Maps.atKey_of_not_has hh] at hD hv
    injection hv with hv
    subst hv
    cases o with
    | none => exact ⟨rfl, rfl⟩
    | some y => cases hD
  | true =>
    rw [atKey_swap hh _ .nil, hD] at hv
    cases o with
    | none => cases hv
    | some y => injection hv with hv; subst hv; exact ⟨rfl, rfl⟩
theorem MAt.has {D : DataW Value} {kl : Lit} {o : Option Value} (h1 : w.ownsMap Tryz.prog k hv b n D) (K : Keyed Tryz.prog k) {t e : TypeId} (ht : Tryz.prog.underlying t = some (.map k e)) {z : Value} (hz : (zeroValue e).run Tryz.prog w = .ok z w) {key : Value} (hkey : keyOf Tryz.prog k key = some kl) (hD : D.atKey kl .nil = held? o) : Maps.has D kl = o.isSome := by
  obtain ⟨v, ps, _, hv'⟩ := h1.look_ok K ht hz (zd := .held z) (zp := []) rfl hkey
  have : DataW.held v = D.atKey kl (.held z) := by simpa [hv] using congrArg (Option.map Prod.fst) hv'
  exact (look_spec hD this).2
theorem MAt.look (h : MAt w k b n kf ok f) (K : KE k kv kf ok) {t e : TypeId} (ht : Tryz.prog.underlying t = some (.map k e)) {z : Value} (hz : (zeroValue e).run Tryz.prog w = .ok z w) {a : α} (ha : ok a) :
    (Instr.lookup t (.map (some b)) (kv a) true).run Tryz.prog w = .ok (.tuple #[(f a).getD z, .bool (f a).isSome]) w := by
  obtain ⟨D, h1, h2⟩ := h
  obtain ⟨v, ps, hr, hv'⟩ := h1.look_ok K.keyed ht hz (zd := .held z) (zp := []) rfl (K.key a ha)
  have : DataW.held v = D.atKey (kf a) (.held z) := by simpa [hv] using congrArg (Option.map Prod.fst) hv'
  obtain ⟨e1, e2⟩ := look_spec (h2 a ha) this
  rw [hr, e1, e2]
theorem MAt.look1 (h : MAt w k b n kf ok f) (K : KE k kv kf ok) {t e : TypeId} (ht : Tryz.prog.underlying t = some (.map k e)) {z : Value} (hz : (zeroValue e).run Tryz.prog w = .ok z w) {a : α} (ha : ok a) :
    (Instr.lookup t (.map (some b)) (kv a) false).run Tryz.prog w = .ok ((f a).getD z) w := by
  obtain ⟨D, h1, h2⟩ := h
  obtain ⟨v, ps, hr, hv'⟩ := h1.lookup K.keyed ht hz (zd := .held z) (zp := []) rfl (K.key a ha)
  have : DataW.held v = D.atKey (kf a) (.held z) := by simpa [hv] using congrArg (Option.map Prod.fst) hv'
  obtain ⟨e1, e2⟩ := look_spec (h2 a ha) this
  rw [hr, e1]
/-- one key's element is another one -/
def mset [DecidableEq α] (f : α → Option Value) (a : α) (o : Option Value) : α → Option Value := fun x => if x = a then o else f x
theorem MAt.put [DecidableEq α] (h : MAt w k b n kf ok f) (K : KE k kv kf ok) {t e : TypeId} (ht : Tryz.prog.underlying t = some (.map k e)) (hn : n < maxLen) {a : α} (ha : ok a) (v : Value) :
    ∃ w', (Instr.mapUpdate t (.map (some b)) (kv a) v).run Tryz.prog w = .ok () w' ∧ MAt w' k b (n + 1) kf ok (mset f a (some v)) ∧ w.mapTurned w' b := by
  obtain ⟨D, h1, h2⟩ := h
  obtain ⟨w', hr, h3, h4⟩ := h1.store K.keyed ht hn (K.key a ha) (val := v) (d := .held v) (ps := []) rfl
  refine ⟨w', hr, ⟨_, h3, fun x hx => ?_⟩, h4⟩
  unfold mset
  by_cases e : x = a
  · subst e
    rw [if_pos rfl]
    exact Maps.atKey_put_same h1.isMap (K.keyed.key (K.key x ha)) _ _
  · rw [if_neg e, Maps.atKey_put_other (fun q => e (K.inj' hx ha q))]
    exact h2 x hx
theorem MAt.del [DecidableEq α] (h : MAt w k b n kf ok f) (K : KE k kv kf ok) {t e : TypeId} (ht : Tryz.prog.underlying t = some (.map k e)) {a : α} (ha : ok a) (ty : TypeId) :
    ∃ w', (Builtin.delete_ #[t, k] ty #[.map (some b), kv a]).run Tryz.prog w = .ok (.tuple #[]) w' ∧ MAt w' k b n kf ok (mset f a none) ∧ w.mapTurned w' b := by
  obtain ⟨D, h1, h2⟩ := h
  obtain ⟨w', hr, h3, h4⟩ := h1.drop K.keyed ht (K.key a ha) ty
  refine ⟨w', hr, ⟨_, h3, fun x hx => ?_⟩, h4⟩
  unfold mset
  by_cases e : x = a
  · subst e
    rw [if_pos rfl]
    exact Maps.atKey_del_same _
  · rw [if_neg e, Maps.atKey_del_other (fun q => e (K.inj' hx ha q))]
    exact h2 x hx
/-! at the operation, for the walk -/
variable {ops : Array Oper} {rest : List Oper} {o : Oper} {ac : Act} {Q : Exit → Act → World → Prop}
/-- 'v, ok := m[k]' -/
theorem wp_mlook (hg : o.guard = none) (m x : Operand) (t : TypeId) (hop : o.op = Op.lookup t m x true) (e : TypeId) (K : KE k kv kf ok) (ht : Tryz.prog.underlying t = some (.map k e)) {z : Value} (hz : (zeroValue e).run Tryz.prog w = .ok z w)
    (a : α) (ha : ok a) (hm : ac.eval m = .map (some b)) (h : MAt w k b n kf ok f) (hx : ac.eval x = kv a)
    (hK : wpList Tryz.prog ops Q rest (ac.put o.dst (.tuple #[(f a).getD z, .bool (f a).isSome])) w) : wpList Tryz.prog ops Q (o :: rest) ac w := by
  refine wpList_plain hg fun K' hK' => ?_
  have hrun := h.look K ht hz ha
  unfold Oper.wp
  simp [execOp, hop, hm, hx, hrun, Result.andThen]
  exact hK' _ _ hK
/-- 'm[k]' -/
theorem wp_mlook1 (hg : o.guard = none) (m x : Operand) (t : TypeId) (hop : o.op = Op.lookup t m x false) (e : TypeId) (K : KE k kv kf ok) (ht : Tryz.prog.underlying t = some (.map k e)) {z : Value} (hz : (zeroValue e).run Tryz.prog w = .ok z w)
    (a : α) (ha : ok a) (hm : ac.eval m = .map (some b)) (h : MAt w k b n kf ok f) (hx : ac.eval x = kv a)
    (hK : wpList Tryz.prog ops Q rest (ac.put o.dst ((f a).getD z)) w) : wpList Tryz.prog ops Q (o :: rest) ac w := by
  refine wpList_plain hg fun K' hK' => ?_
  have hrun := h.look1 K ht hz ha
  unfold Oper.wp
  simp [execOp, hop, hm, hx, hrun, Result.andThen]
  exact hK' _ _ hK
/-- 'm[k] = v' -/
theorem wp_mput [DecidableEq α] (hg : o.guard = none) (m x v : Operand) (t : TypeId) (hop : o.op = Op.mapUpdate t m x v) (e : TypeId) (K : KE k kv kf ok) (ht : Tryz.prog.underlying t = some (.map k e)) (hn : n < maxLen)
    (a : α) (ha : ok a) (val : Value) (hm : ac.eval m = .map (some b)) (h : MAt w k b n kf ok f) (hx : ac.eval x = kv a) (hv' : ac.eval v = val)
    (hK : ∀ w', MAt w' k b (n + 1) kf ok (mset f a (some val)) → w.mapTurned w' b → wpList Tryz.prog ops Q rest (ac.put o.dst undef) w') : wpList Tryz.prog ops Q (o :: rest) ac w := by
  refine wpList_plain hg fun K' hK' => ?_
  obtain ⟨w', hrun, r1, r2⟩ := h.put K ht hn ha val
  unfold Oper.wp
  simp [execOp, hop, hm, hx, hv', hrun, Result.andThen]
  exact hK' _ _ (hK w' r1 r2)
/-- 'delete(m, k)' -/
theorem wp_mdel [DecidableEq α] (hg : o.guard = none) (m x : Operand) (t : TypeId) (hop : o.op = Op.call { callee := Callee.builtin Builtin.delete, args := #[m, x], argTypes := #[t, k] }) (e : TypeId) (K : KE k kv kf ok) (ht : Tryz.prog.underlying t = some (.map k e))
    (a : α) (ha : ok a) (hm : ac.eval m = .map (some b)) (h : MAt w k b n kf ok f) (hx : ac.eval x = kv a)
    (hK : ∀ w', MAt w' k b n kf ok (mset f a none) → w.mapTurned w' b → wpList Tryz.prog ops Q rest (ac.put o.dst (.tuple #[])) w') : wpList Tryz.prog ops Q (o :: rest) ac w := by
  refine wpList_plain hg fun K' hK' => ?_
  obtain ⟨w', hrun, r1, r2⟩ := h.del K ht ha o.type
  unfold Oper.wp
  simp [execOp, hop, resolve, invoke, builtin, hm, hx, hrun, Result.andThen]
  exact hK' _ _ (hK w' r1 r2)
end
/-! the kinds of keys -/
def kStr (s : ByteArray) : Value := .string s
def lStr (s : ByteArray) : Lit := .string s.data.toList
theorem ke_str : KE 9 kStr lStr (fun s => s.size ≤ maxLen) := ⟨string_keyed Tryz.underlying9, fun a ha => by simp [kStr, lStr, keyOf, mapKey, Tryz.underlying9, ha], fun a b e => by injection e⟩
def kInt (x : Int) : Value := .int .i64 x
def lInt (x : Int) : Lit := .int .i64 x
def OkI (x : Int) : Prop := -9223372036854775808 ≤ x ∧ x ≤ 9223372036854775807
theorem wf_ok {x : Int} (h : OkI x) : (Lit.int .i64 x).wf = true := WalkArith.wf_i64 (by have := h.1; have := h.2; omega)
theorem ke_int : KE 3 kInt lInt OkI := ⟨int_keyed Tryz.underlying3, fun a ha => keyOf_int_mk Tryz.underlying3 (wf_ok ha), fun a b e => by injection e⟩
end Go.Proofs.YtonhmihmnkicdaaGreat
namespace Go.Proofs.YtonhmihmnkicdaaGreat
set_option linter.unusedVariables false
structure VD where
  id : Int
  gen : Int
  len : Int
  ls : List (Int × Int)
deriving DecidableEq
def VD.pin (x : VD) : Int × Int := (x.id, x.gen)
def inc (R : Int × Int → Nat) (k : Int × Int) : Int × Int → Nat := fun x => if x = k then R k + 1 else R x
def dec (R : Int × Int → Nat) (k : Int × Int) : Int × Int → Nat := fun x => if x = k then R k - 1 else R x
def unE (R : Int × Int → Nat) (k : Int × Int) : Int := if R k = 0 then 9 else 0
def hasP (L : List VD) (k : Int × Int) : Bool := L.any fun x => decide (x.pin = k)
def reE (L : List VD) (v : VD) : Int := if hasP L v.pin = true then 13 else 0
def reL (L : List VD) (v : VD) : List VD := if hasP L v.pin = true then L else L ++ [v]
def rpO (R : Int × Int → Nat) (L : List VD) : List VD := L.filter fun x => decide (R x.pin = 0)
def rpL (R : Int × Int → Nat) (L : List VD) : List VD := L.filter fun x => decide (R x.pin ≠ 0)
theorem inc_same (R : Int × Int → Nat) (k : Int × Int) : inc R k k = R k + 1 := by simp [inc]
theorem inc_other {R : Int × Int → Nat} {k x : Int × Int} (h : x ≠ k) : inc R k x = R x := by simp [inc, h]
theorem dec_same (R : Int × Int → Nat) (k : Int × Int) : dec R k k = R k - 1 := by simp [dec]
theorem dec_other {R : Int × Int → Nat} {k x : Int × Int} (h : x ≠ k) : dec R k x = R x := by simp [dec, h]
theorem dec_zero {R : Int × Int → Nat} {k : Int × Int} (h : R k = 0) : dec R k = R := by
  funext x
  unfold dec
  by_cases e : x = k
  · subst e; simp [h]
  · simp [e]
theorem reL_len (L : List VD) (v : VD) : (reL L v).length = L.length + (if reE L v = 0 then 1 else 0) := by
  unfold reL reE
  cases hasP L v.pin <;> simp
theorem reL_le (L : List VD) (v : VD) : (reL L v).length ≤ L.length + 1 := by
  rw [reL_len]; split <;> omega
theorem rp_len (R : Int × Int → Nat) (L : List VD) : (rpO R L).length + (rpL R L).length = L.length := by
  unfold rpO rpL
  induction L with
  | nil => rfl
  | cons x L ih =>
    by_cases h : R x.pin = 0
    · simp [h] at ih ⊢; omega
    · simp [h] at ih ⊢; omega
theorem rpO_snoc {R : Int × Int → Nat} {L : List VD} {k : Nat} {x : VD} (h : L[k]? = some x) : rpO R (L.take (k + 1)) = if R x.pin = 0 then rpO R (L.take k) ++ [x] else rpO R (L.take k) := by
  unfold rpO
  rw [List.take_add_one, h, List.filter_append]
  by_cases e : R x.pin = 0 <;> simp [e]
theorem rpL_snoc {R : Int × Int → Nat} {L : List VD} {k : Nat} {x : VD} (h : L[k]? = some x) : rpL R (L.take (k + 1)) = if R x.pin = 0 then rpL R (L.take k) else rpL R (L.take k) ++ [x] := by
  unfold rpL
  rw [List.take_add_one, h, List.filter_append]
  by_cases e : R x.pin = 0 <;> simp [e]
theorem hasP_snoc {L : List VD} {k : Nat} {x : VD} {p : Int × Int} (h : L[k]? = some x) : hasP (L.take (k + 1)) p = (hasP (L.take k) p || decide (x.pin = p)) := by
  unfold hasP
  rw [List.take_add_one, h, List.any_append]
  simp
theorem rpO_all {R : Int × Int → Nat} {L : List VD} (h : ∀ x ∈ L, R x.pin = 0) : rpO R L = L ∧ rpL R L = [] := by
  unfold rpO rpL
  exact ⟨List.filter_eq_self.2 fun x hx => by simp [h x hx], by rw [List.filter_eq_nil_iff]; intro x hx; simp [h x hx]⟩
/-! the document's list of those that read -/
def cnt (K : List (Int × Int)) : Int × Int → Nat := fun k => K.count k
theorem cnt_nil : cnt [] = fun _ => 0 := by funext k; simp [cnt]
theorem cnt_snoc (K : List (Int × Int)) (k : Int × Int) : cnt (K ++ [k]) = inc (cnt K) k := by
  funext x
  unfold cnt inc
  rw [List.count_append]
  by_cases e : x = k
  · subst e; simp
  · have : ¬ k = x := fun q => e q.symm
    simp [e, this]
theorem cnt_erase (K : List (Int × Int)) (k : Int × Int) : cnt (K.erase k) = dec (cnt K) k := by
  funext x
  unfold cnt dec
  by_cases e : x = k
  · subst e; simp
  · rw [if_neg e, List.count_erase_of_ne e]
theorem cnt_pos {K : List (Int × Int)} {k : Int × Int} : cnt K k = 0 ↔ k ∉ K := by unfold cnt; exact List.count_eq_zero
theorem erase_at {K : List (Int × Int)} {i : Nat} {k : Int × Int} (h : K[i]? = some k) (hn : ∀ j, j < i → K[j]? ≠ some k) : K.erase k = K.take i ++ K.drop (i + 1) := by
  induction K generalizing i with
  | nil => simp at h
  | cons x K ih =>
    cases i with
    | zero =>
      simp at h
      subst h
      simp
    | succ i =>
      have hx : x ≠ k := fun e => hn 0 (by omega) (by simp [e])
      rw [List.erase_cons_tail (by simpa using hx), ih (i := i) (by simpa using h) (fun j hj => by have := hn (j + 1) (by omega); simpa using this)]
      simp
theorem cnt_len (K : List (Int × Int)) (k : Int × Int) : cnt K k ≤ K.length := List.count_le_length
end Go.Proofs.YtonhmihmnkicdaaGreat
namespace Go.Proofs.YtonhmihmnkicdaaGreat
open Go.RowKit
set_option linter.unusedVariables false
def OkP (k : Int × Int) : Prop := OkI k.1 ∧ OkI k.2
/-- a slice of places, in memory from before B or in a block of places (nobody writes these) -/
def LocsK (B : Nat) (w : World) (a : Option Addr) (l : List (Int × Int)) : Prop :=
  l = [] ∨ ∃ b o, a = some ⟨b, o, none⟩ ∧ b < w.heap.size ∧ (b < B ∨ ∃ cur fr, w.heap[b]? = some (.cells cur 84 fr)) ∧ ∀ (i : Nat) (x : Int × Int), l[i]? = some x → w.cell? ⟨b, o + i * 2, none⟩ = some (.int .i64 x.1) ∧ w.cell? ⟨b, o + i * 2 + 1, none⟩ = some (.int .i64 x.2)
theorem LocsK.at {B : Nat} {w : World} {a : Option Addr} {l : List (Int × Int)} (h : LocsK B w a l) : LocsAt w a l := by
  rcases h with h | ⟨b, o, h1, h2, _, h3⟩
  · exact .inl h
  · exact .inr ⟨b, o, h1, h2, h3⟩
/-- who changes what: A's blocks alone (which are A' then), nothing from before B, no block of places -/
structure Mds (B : Nat) (A : Nat → Prop) (w : World) (A' : Nat → Prop) (w' : World) : Prop where
  bel : Below B w w'
  size : w.heap.size ≤ w'.heap.size
  blk : ∀ (i : Nat), i < w.heap.size → ¬ A i → w'.heap[i]? = w.heap[i]?
  loc : ∀ (i : Nat) cur fr, w.heap[i]? = some (.cells cur 84 fr) → w'.heap[i]? = w.heap[i]?
  own : ∀ i, A' i → A i ∨ w.heap.size ≤ i
theorem Mds.refl (B : Nat) (A : Nat → Prop) (w : World) : Mds B A w A w := ⟨Below.refl _ _, Nat.le_refl _, fun _ _ _ => rfl, fun _ _ _ _ => rfl, fun _ h => .inl h⟩
theorem Mds.trans {B : Nat} {A A1 A2 : Nat → Prop} {u x w : World} (h : Mds B A u A1 x) (k : Mds B A1 x A2 w) : Mds B A u A2 w :=
  ⟨h.bel.trans k.bel, Nat.le_trans h.size k.size,
    fun i hi hn => (k.blk i (Nat.lt_of_lt_of_le hi h.size) fun q => by rcases h.own i q with r | r; exact hn r; omega).trans (h.blk i hi hn),
    fun i cur fr hc => (k.loc i cur fr ((h.loc i cur fr hc).trans hc)).trans (h.loc i cur fr hc),
    fun i hi => by
      rcases k.own i hi with q | q
      · exact h.own i q
      · exact .inr (Nat.le_trans h.size q)⟩
theorem Mds.of_below {B : Nat} (A : Nat → Prop) {w w' : World} (h : Below w.heap.size w w') (hB : B ≤ w.heap.size) : Mds B A w A w' :=
  ⟨h.mono hB, h.size, fun i hi _ => h.block i hi, fun i cur fr hc => h.block i (lt_of_block hc), fun _ h => .inl h⟩
theorem Mds.refill {B : Nat} {A A' A2 : Nat → Prop} {w w' : World} (h : Mds B A w A' w') (hs : ∀ i, A2 i → A' i ∨ w.heap.size ≤ i) : Mds B A w A2 w' :=
  ⟨h.bel, h.size, h.blk, h.loc, fun i hi => by rcases hs i hi with q | q; exact h.own i q; exact .inr q⟩
theorem LocsK.mod {B : Nat} {A A' : Nat → Prop} {w w' : World} {a : Option Addr} {l : List (Int × Int)} (h : LocsK B w a l) (m : Mds B A w A' w') : LocsK B w' a l := by
  rcases h with h | ⟨b, o, h1, h2, h3, h4⟩
  · exact .inl h
  · have hb : w'.heap[b]? = w.heap[b]? := by
      rcases h3 with q | ⟨cur, fr, q⟩
      · exact m.bel.block b q
      · exact m.loc b cur fr q
    refine .inr ⟨b, o, h1, Nat.lt_of_lt_of_le h2 m.size, ?_, fun i x hx => ?_⟩
    · rcases h3 with q | ⟨cur, fr, q⟩
      · exact .inl q
      · exact .inr ⟨cur, fr, hb.trans q⟩
    · obtain ⟨e1, e2⟩ := h4 i x hx
      have hc : ∀ p, w'.cell? ⟨b, p, none⟩ = w.cell? ⟨b, p, none⟩ := fun p => by unfold World.cell?; rw [hb]
      exact ⟨(hc _).trans e1, (hc _).trans e2⟩
theorem LocsK.below {B : Nat} {w w' : World} {a : Option Addr} {l : List (Int × Int)} (h : LocsK B w a l) (hb : Below w.heap.size w w') : LocsK B w' a l := by
  by_cases hB : B ≤ w.heap.size
  · exact h.mod (Mds.of_below (fun _ => False) hb hB)
  · rcases h with h | ⟨b, o, h1, h2, h3, h4⟩
    · exact .inl h
    · exact .inr ⟨b, o, h1, Nat.lt_of_lt_of_le h2 hb.size, .inl (by omega), fun i x hx => ⟨(hb.cell (p := ⟨b, o + i * 2, none⟩) h2).trans (h4 i x hx).1, (hb.cell (p := ⟨b, o + i * 2 + 1, none⟩) h2).trans (h4 i x hx).2⟩⟩
theorem LocsK.came {w : World} {a : Option Addr} {l : List (Int × Int)} (h : LocsAt w a l) : LocsK w.heap.size w a l := by
  rcases h with h | ⟨b, o, h1, h2, h3⟩
  · exact .inl h
  · exact .inr ⟨b, o, h1, h2, .inl h2, h3⟩
theorem LocsK.own {B B' : Nat} {w : World} {a : Option Addr} {c : Nat} {l : List (Int × Int)} (h : w.ownsRow B' 84 2 (.slice a l.length c) l.length (lcV l)) : LocsK B w a l := by
  obtain ⟨hl2, ⟨h1, h2⟩ | ⟨g, cap, cur, h1, hB, hg, hc, hm, hs, ht⟩⟩ := h
  · exact .inl (List.length_eq_zero_iff.1 h2)
  · injection h1 with h1 h3 h4
    have key : ∀ j v, (lcV l)[j]? = some v → w.cell? ⟨g, 0 + j, none⟩ = some v := fun j v hv => by
      rw [Nat.zero_add, cell_of_block hg]
      rw [← ht, List.getElem?_take] at hv
      split at hv
      · rw [← hv, Array.getElem?_toList]
      · cases hv
    exact .inr ⟨g, 0, h1, lt_of_block hg, .inr ⟨cur, _, hg⟩, fun i y hy => ⟨key _ _ (lcV_at hy).1, by rw [Nat.add_assoc]; exact key _ _ (lcV_at hy).2⟩⟩
/-- a volume, and where its places are -/
structure Vo where
  d : VD
  a : Option Addr
  c : Nat
def voA (d : VD) (a : Option Addr) (c : Nat) : Array Value := #[.int .i64 d.id, .int .i64 d.gen, .int .i64 d.len, .slice a d.ls.length c]
def voC (x : Vo) : List Value := [.int .i64 x.d.id, .int .i64 x.d.gen, .int .i64 x.d.len, .slice x.a x.d.ls.length x.c]
def voV (l : List Vo) : List Value := l.flatMap voC
theorem voV_snoc (l : List Vo) (x : Vo) : voV (l ++ [x]) = voV l ++ voC x := by simp [voV]
theorem voV_at : ∀ {l : List Vo} {i : Nat} {x : Vo}, l[i]? = some x → ∀ j v, (voC x)[j]? = some v → (voV l)[i * 4 + j]? = some v
  | y :: l, 0, x, h, j, v, hj => by
    simp at h; subst h
    have hl : j < 4 := by have := (List.getElem?_eq_some_iff.1 hj).1; simpa [voC] using this
    simp only [voV, List.flatMap_cons]
    rw [List.getElem?_append_left (by simp [voC]; omega)]
    simpa using hj
  | y :: l, i + 1, x, h, j, v, hj => by
    have := voV_at (l := l) (i := i) (by simpa using h) j v hj
    simp only [voV, List.flatMap_cons]
    rw [List.getElem?_append_right (by simp [voC]; omega)]
    rw [show (i + 1) * 4 + j - (voC y).length = i * 4 + j by simp [voC]; omega]
    exact this
theorem voV_len (l : List Vo) : (voV l).length = l.length * 4 := by
  induction l with
  | nil => rfl
  | cons x l ih => simp [voV, voC] at ih ⊢; omega
theorem voC_one (x : Vo) : ∀ u ∈ voC x, u.oneCell' = true := by intro u hu; simp [voC] at hu; rcases hu with rfl | rfl | rfl | rfl <;> rfl
theorem vol_info : (Tryz.prog.info? 36).map (fun i => (i.zero, i.size, i.bytes)) = some (some (.agg #[.int .i64 0, .int .i64 0, .int .i64 0, .slice none 0 0]), 4, 48) := by kernel_rfl
theorem cell_vol_new (w : World) (x : Vo) (t : TypeId) : ∀ j u, (voC x)[j]? = some u → (w.alloc (.cells (voA x.d x.a x.c) t)).cell? ((⟨w.heap.size, 0, none⟩ : Addr).add j) = some u := by
  intro j u hj
  rw [add_plain, cell_of_block (heap_alloc_new w (.cells (voA x.d x.a x.c) t)), Nat.zero_add]
  match j, hj with
  | 0, hj => exact hj
  | 1, hj => exact hj
  | 2, hj => exact hj
  | 3, hj => exact hj
/-- a slice of volumes, wherever it lies -/
structure VoAt (w : World) (b o : Nat) (x : Vo) : Prop where
  c0 : w.cell? ⟨b, o, none⟩ = some (.int .i64 x.d.id)
  c1 : w.cell? ⟨b, o + 1, none⟩ = some (.int .i64 x.d.gen)
  c2 : w.cell? ⟨b, o + 2, none⟩ = some (.int .i64 x.d.len)
  c3 : w.cell? ⟨b, o + 3, none⟩ = some (.slice x.a x.d.ls.length x.c)
def VosAt (B : Nat) (w : World) (a : Option Addr) (L : List VD) : Prop :=
  L = [] ∨ ∃ b o, a = some ⟨b, o, none⟩ ∧ b < w.heap.size ∧ ∃ vs : List Vo, vs.map Vo.d = L ∧ ∀ (i : Nat) (x : Vo), vs[i]? = some x → VoAt w b (o + i * 4) x ∧ LocsK B w x.a x.d.ls
theorem VoAt.keep {w w' : World} {b o : Nat} {x : Vo} (h : VoAt w b o x) (hb : w'.heap[b]? = w.heap[b]?) : VoAt w' b o x := by
  have hc : ∀ p, w'.cell? ⟨b, p, none⟩ = w.cell? ⟨b, p, none⟩ := fun p => by unfold World.cell?; rw [hb]
  exact ⟨(hc _).trans h.c0, (hc _).trans h.c1, (hc _).trans h.c2, (hc _).trans h.c3⟩
theorem VosAt.below {B : Nat} {w w' : World} {a : Option Addr} {L : List VD} (h : VosAt B w a L) (hb : Below w.heap.size w w') : VosAt B w' a L := by
  rcases h with h | ⟨b, o, ha, hlt, vs, hm, hc⟩
  · exact .inl h
  · exact .inr ⟨b, o, ha, Nat.lt_of_lt_of_le hlt hb.size, vs, hm, fun i x hx => ⟨(hc i x hx).1.keep (hb.block b hlt), (hc i x hx).2.below hb⟩⟩
theorem VosAt.drewN {B : Nat} {w : World} {a : Option Addr} {L : List VD} (h : VosAt B w a L) (n : Nat) : VosAt B (w.drewN n) a L := h.below (drawn_below (Below.refl _ _) n)
theorem VosAt.take {B : Nat} {w : World} {a : Option Addr} {L : List VD} (h : VosAt B w a L) (n : Nat) : VosAt B w a (L.take n) := by
  rcases h with h | ⟨b, o, ha, hlt, vs, hm, hc⟩
  · exact .inl (by rw [h]; simp)
  · exact .inr ⟨b, o, ha, hlt, vs.take n, by rw [List.map_take, hm], fun i x hx => hc i x (by rw [List.getElem?_take] at hx; split at hx; exact hx; cases hx)⟩
theorem VosAt.nth {B : Nat} {w : World} {a : Option Addr} {L : List VD} (h : VosAt B w a L) {k : Nat} {x : VD} (hx : L[k]? = some x) : ∃ b o xa xc, a = some ⟨b, o, none⟩ ∧ b < w.heap.size ∧ VoAt w b (o + k * 4) ⟨x, xa, xc⟩ ∧ LocsK B w xa x.ls := by
  rcases h with q | ⟨b, o, ha, hlt, vs, hm, hc⟩
  · rw [q] at hx; simp at hx
  · rw [← hm, List.getElem?_map] at hx
    cases hv : vs[k]? with
    | none => rw [hv] at hx; simp at hx
    | some y =>
      rw [hv] at hx
      simp at hx
      subst hx
      obtain ⟨h1, h2⟩ := hc k y hv
      exact ⟨b, o, y.a, y.c, ha, hlt, h1, h2⟩
/-- a row of volumes of one's own -/
def RowV (B : Nat) (w : World) (v : Value) (L : List VD) : Prop :=
  ∃ vs : List Vo, vs.map Vo.d = L ∧ w.ownsRow B 36 4 v vs.length (voV vs) ∧ ∀ x ∈ vs, LocsK B w x.a x.d.ls
theorem RowV.nil (B : Nat) (w : World) : RowV B w (.slice none 0 0) [] := ⟨[], rfl, World.ownsRow_nil _ _ _ _, fun x hx => by simp at hx⟩
theorem row_keep {W W' : World} {B z n : Nat} {e : TypeId} {v : Value} {xs : List Value} (h : W.ownsRow B e z v n xs) (hk : ∀ i, v.ownBlock = some i → W'.heap[i]? = W.heap[i]?) : W'.ownsRow B e z v n xs := by
  obtain ⟨hl, ⟨h1, h2⟩ | ⟨g, cap, cur, h1, hB, hg, hc, hm, hs, ht⟩⟩ := h
  · exact ⟨hl, .inl ⟨h1, h2⟩⟩
  · exact ⟨hl, .inr ⟨g, cap, cur, h1, hB, (hk g (by rw [h1]; rfl)).trans hg, hc, hm, hs, ht⟩⟩
theorem own_at {w : World} {B z n k : Nat} {e : TypeId} {v : Value} {xs : List Value} (h : w.ownsRow B e z v n xs) (hk : v.ownBlock = some k) : B ≤ k ∧ k < w.heap.size ∧ ∃ cur, w.heap[k]? = some (.cells cur e (0, 0)) := by
  obtain ⟨_, ⟨rfl, _⟩ | ⟨g, cap, cur, rfl, hB, hg, _⟩⟩ := h
  · cases hk
  · obtain rfl : g = k := by simpa [Value.ownBlock] using hk
    exact ⟨hB, lt_of_block hg, cur, hg⟩
theorem RowV.at {B : Nat} {w : World} {v : Value} {L : List VD} (h : RowV B w v L) {k : Nat} (hk : v.ownBlock = some k) : B ≤ k ∧ k < w.heap.size ∧ ∃ cur, w.heap[k]? = some (.cells cur 36 (0, 0)) := by
  obtain ⟨vs, _, h1, _⟩ := h
  exact own_at h1 hk
theorem RowV.mod {B : Nat} {A A' : Nat → Prop} {w w' : World} {v : Value} {L : List VD} (h : RowV B w v L) (m : Mds B A w A' w') (hk : ∀ i, v.ownBlock = some i → ¬ A i) : RowV B w' v L := by
  obtain ⟨vs, hm, h1, h2⟩ := h
  exact ⟨vs, hm, row_keep h1 fun i hi => m.blk i (own_at h1 hi).2.1 (hk i hi), fun x hx => (h2 x hx).mod m⟩
theorem RowV.below {B : Nat} {w w' : World} {v : Value} {L : List VD} (h : RowV B w v L) (hb : Below w.heap.size w w') : RowV B w' v L := by
  obtain ⟨vs, hm, h1, h2⟩ := h
  exact ⟨vs, hm, own_below h1 hb, fun x hx => (h2 x hx).below hb⟩
theorem RowV.form {B : Nat} {w : World} {v : Value} {L : List VD} (h : RowV B w v L) : ∃ a c, v = .slice a L.length c ∧ L.length ≤ c ∧ c ≤ 9223372036854775807 ∧ VosAt B w a L := by
  obtain ⟨vs, hm, ⟨hl, ⟨rfl, h2⟩ | ⟨g, cap, cur, rfl, hB, hg, hc, hmx, hs, ht⟩⟩, h3⟩ := h
  · have : vs = [] := List.length_eq_zero_iff.1 h2
    subst this
    subst hm
    exact ⟨none, 0, rfl, Nat.le_refl _, by omega, .inl rfl⟩
  · unfold maxLen at hmx
    have el : vs.length = L.length := by rw [← hm, List.length_map]
    rw [el]
    refine ⟨_, cap, rfl, by omega, hmx, .inr ⟨g, 0, rfl, lt_of_block hg, vs, hm, fun i x hx => ⟨?_, h3 x (List.mem_of_getElem? hx)⟩⟩⟩
    have key : ∀ j v, (voV vs)[j]? = some v → w.cell? ⟨g, 0 + j, none⟩ = some v := fun j v hv => by
      rw [Nat.zero_add, cell_of_block hg]
      rw [← ht, List.getElem?_take] at hv
      split at hv
      · rw [← hv, Array.getElem?_toList]
      · cases hv
    refine ⟨?_, ?_, ?_, ?_⟩
    · exact key _ _ (voV_at hx 0 _ rfl)
    · rw [Nat.add_assoc]; exact key _ _ (voV_at hx 1 _ rfl)
    · rw [Nat.add_assoc]; exact key _ _ (voV_at hx 2 _ rfl)
    · rw [Nat.add_assoc]; exact key _ _ (voV_at hx 3 _ rfl)
/-- one more volume: behind append (the volume lay in a new block, the row has grown) -/
theorem RowV.push {B : Nat} {w w1 : World} {v v' : Value} {L : List VD} {x : Vo} {o : Obj} (vs : List Vo) (hm : vs.map Vo.d = L) (h2 : ∀ y ∈ vs, LocsK B w y.a y.d.ls) (hx : LocsK B w x.a x.d.ls)
    (hrow : w.ownsRow B 36 4 v vs.length (voV vs)) (hown : w1.ownsRow B 36 4 v' (vs.length + 1) (voV vs ++ voC x)) (hgr : (w.alloc o).grownBy w1 v.ownBlock) :
    RowV B w1 v' (L ++ [x.d]) := by
  have hk : ∀ {a l}, LocsK B w a l → LocsK B w1 a l := fun {a l} h => by
    rcases h with h | ⟨b, o', h1, hb, h3, h4⟩
    · exact .inl h
    · have hne : some b ≠ v.ownBlock := fun e => by
        obtain ⟨k1, k2, cur, k3⟩ := own_at hrow e.symm
        rcases h3 with q | ⟨cur2, fr, q⟩
        · omega
        · rw [k3] at q; injection q with q; injection q with _ q; exact absurd q (by decide)
      have hb1 : w1.heap[b]? = w.heap[b]? := (hgr.block b (by rw [World.size_alloc]; omega) hne).trans (Below.heap_alloc _ _ _ hb)
      have hc : ∀ p, w1.cell? ⟨b, p, none⟩ = w.cell? ⟨b, p, none⟩ := fun p => by unfold World.cell?; rw [hb1]
      refine .inr ⟨b, o', h1, by have := hgr.size; rw [World.size_alloc] at this; omega, ?_, fun i y hy => ⟨(hc _).trans (h4 i y hy).1, (hc _).trans (h4 i y hy).2⟩⟩
      rcases h3 with q | ⟨cur2, fr, q⟩
      · exact .inl q
      · exact .inr ⟨cur2, fr, hb1.trans q⟩
  refine ⟨vs ++ [x], by rw [List.map_append, hm]; rfl, ?_, fun y hy => ?_⟩
  · rw [voV_snoc, List.length_append]
    exact hown
  · rcases List.mem_append.1 hy with q | q
    · exact hk (h2 y q)
    · rw [List.mem_singleton.1 q]
      exact hk hx
end Go.Proofs.YtonhmihmnkicdaaGreat
