/- Rows that grow by append, of elements of any size; lists of numbers and of places in memory. (For seats without needles: in the place of NeRow.) Maps in memory: what a block holds at each key, as a function. Ranges over functions whose rounds write into boxes and own rows: what every such walk uses. No function of the program stands here. What the document's Small of a slice of strings answers; two lists of numbers that are the same. Rows of bytes that are read cell by cell and may be written behind their length (also one that '[]byte(s)' laid, with the run-time's mark): append of one byte onto such a row. No function of the program stands here. -/
import Derived.Test.YtlpibpkbgmcclaaGreatDoorBaseX
import Derived.Maps.AppendAt
import Derived.Deep.Slices
import Derived.Deep.Fields
import Derived.Maps.OwnSet
import Derived.RangeFuncBox
import Derived.RangeFuncLeaves
import Derived.RangeFuncNested
import Derived.Shelf.Abstract
import Derived.WalkKit
import Derived.OwnWalkIn
import Derived.TacticsInMore
import Derived.LoopNIn
import Derived.LoopIn
import Derived.Stop.RegionWithIn
import Derived.Deep.QuietTactic
import Derived.BigQuiet
import Derived.Laws.IdiomStrings
import Derived.Laws.IdiomCopy
namespace Go.Proofs.YtlpibpkbgmcclaaGreatDoor
open Go.RowKit
set_option linter.unusedVariables false
theorem drawn_below {B : Nat} {a w : World} (h : Below B a w) (n : Nat) : Below B a (w.drewN n) := ⟨h.os, h.tape, h.output, h.size, h.block⟩
theorem int_info : (Tryz.prog.info? 3).map (fun i => (i.zero, i.size, i.bytes)) = some (some (.int .i64 0), 1, 8) := by kernel_rfl
/-- a row of one's own -/
def GR (w wr : World) (e : TypeId) (size : Nat) (v : Value) (n : Nat) (xs : List Value) : Prop := wr.ownsRow w.heap.size e size v n xs ∧ Below w.heap.size w wr
theorem own_below {B size n : Nat} {e : TypeId} {v : Value} {xs : List Value} {w w' : World} (h : w.ownsRow B e size v n xs) (hb : Below w.heap.size w w') : w'.ownsRow B e size v n xs := by
  obtain ⟨hl, ⟨rfl, rfl⟩ | ⟨g, cap, cur, rfl, hB, hg, hc, hm, hs, ht⟩⟩ := h
  · exact ⟨hl, .inl ⟨rfl, rfl⟩⟩
  · exact ⟨hl, .inr ⟨g, cap, cur, rfl, hB, (hb.block g (lt_of_block hg)).trans hg, hc, hm, hs, ht⟩⟩
theorem own_mono {W : World} {B B' z n : Nat} {e : TypeId} {v : Value} {xs : List Value} (h : W.ownsRow B e z v n xs) (hb : B' ≤ B) : W.ownsRow B' e z v n xs := by
  obtain ⟨hl, ⟨rfl, rfl⟩ | ⟨g, cap, cur, rfl, hB, hg, hc, hm, hs, ht⟩⟩ := h
  · exact ⟨hl, .inl ⟨rfl, rfl⟩⟩
  · exact ⟨hl, .inr ⟨g, cap, cur, rfl, by omega, hg, hc, hm, hs, ht⟩⟩
theorem GR.nil (w wr : World) (e : TypeId) (size : Nat) (h : Below w.heap.size w wr) : GR w wr e size (.slice none 0 0) 0 [] := ⟨World.ownsRow_nil _ _ _ _, h⟩
theorem GR.below {w wr w' : World} {e : TypeId} {size n : Nat} {v : Value} {xs : List Value} (h : GR w wr e size v n xs) (hb : Below wr.heap.size wr w') : GR w w' e size v n xs := ⟨own_below h.1 hb, h.2.trans (hb.mono h.2.size)⟩
theorem GR.step {w wr w1 : World} {e : TypeId} {size n : Nat} {v v' : Value} {xs ys : List Value} {o : Obj} (h : GR w wr e size v n xs) (hown : w1.ownsRow w.heap.size e size v' (n + 1) ys) (hgr : (wr.alloc o).grownBy w1 v.ownBlock) : GR w w1 e size v' (n + 1) ys := by
  refine ⟨hown, Below.grown (h.2.alloc h.2.size o) hgr ?_ fun g hg => row_base h.1 hg⟩
  rw [World.size_alloc]
  exact Nat.le_succ_of_le h.2.size
theorem cell_two_new (w : World) (x y : Value) (t : TypeId) : ∀ j u, [x, y][j]? = some u → (w.alloc (.cells #[x, y] t)).cell? ((⟨w.heap.size, 0, none⟩ : Addr).add j) = some u := by
  intro j u hj
  rw [add_plain, cell_of_block (heap_alloc_new w (.cells #[x, y] t)), Nat.zero_add]
  match j, hj with
  | 0, hj => exact hj
  | 1, hj => exact hj
theorem GR.form {w wr : World} {e : TypeId} {size n : Nat} {v : Value} {xs : List Value} (h : GR w wr e size v n xs) : ∃ a c, v = .slice a n c ∧ n ≤ c ∧ c ≤ 9223372036854775807 ∧ (n = 0 ∨ ∃ g, a = some ⟨g, 0, none⟩ ∧ w.heap.size ≤ g ∧ g < wr.heap.size ∧ ∀ j u, xs[j]? = some u → wr.cell? ⟨g, 0 + j, none⟩ = some u) := by
  obtain ⟨⟨hl, ⟨rfl, rfl⟩ | ⟨g, cap, cur, rfl, hB, hg, hc, hm, hs, ht⟩⟩, hb⟩ := h
  · exact ⟨none, 0, rfl, Nat.le_refl _, by omega, .inl rfl⟩
  · unfold maxLen at hm
    refine ⟨_, cap, rfl, hc, hm, .inr ⟨g, rfl, hB, lt_of_block hg, fun j u hu => ?_⟩⟩
    rw [Nat.zero_add, cell_of_block hg]
    rw [← ht, List.getElem?_take] at hu
    split at hu
    · rw [← hu, Array.getElem?_toList]
    · cases hu
def IntsAt (w : World) (a : Option Addr) (l : List Int) : Prop := l = [] ∨ ∃ b o, a = some ⟨b, o, none⟩ ∧ b < w.heap.size ∧ ∀ i s, l[i]? = some s → w.cell? ⟨b, o + i, none⟩ = some (.int .i64 s)
theorem IntsAt.below {w w' : World} {a : Option Addr} {l : List Int} (h : IntsAt w a l) (hb : Below w.heap.size w w') : IntsAt w' a l := by
  rcases h with h | ⟨b, o, ha, hlt, hc⟩
  · exact .inl h
  · exact .inr ⟨b, o, ha, Nat.lt_of_lt_of_le hlt hb.size, fun i s hs => (hb.cell (p := ⟨b, o + i, none⟩) hlt).trans (hc i s hs)⟩
theorem IntsAt.drewN {w : World} {a : Option Addr} {l : List Int} (h : IntsAt w a l) (n : Nat) : IntsAt (w.drewN n) a l := h
def inV (l : List Int) : List Value := l.map fun x => .int .i64 x
theorem inV_snoc (l : List Int) (x : Int) : inV (l ++ [x]) = inV l ++ [.int .i64 x] := by simp [inV]
theorem GR.ints {w wr : World} {e : TypeId} {v : Value} {l : List Int} (h : GR w wr e 1 v l.length (inV l)) : ∃ a c, v = .slice a l.length c ∧ l.length ≤ c ∧ IntsAt wr a l := by
  obtain ⟨a, c, e1, hc, _, h0 | ⟨g, rfl, _, hlt, hcell⟩⟩ := h.form
  · exact ⟨a, c, e1, hc, .inl (List.length_eq_zero_iff.1 h0)⟩
  · exact ⟨_, c, e1, hc, .inr ⟨g, 0, rfl, hlt, fun i s hs => hcell i _ (by unfold inV; rw [List.getElem?_map, hs]; rfl)⟩⟩
/-- places that lie one behind the other -/
def LocsAt (w : World) (a : Option Addr) (l : List (Int × Int)) : Prop := l = [] ∨ ∃ b o, a = some ⟨b, o, none⟩ ∧ b < w.heap.size ∧ ∀ (i : Nat) (x : Int × Int), l[i]? = some x → w.cell? ⟨b, o + i * 2, none⟩ = some (.int .i64 x.1) ∧ w.cell? ⟨b, o + i * 2 + 1, none⟩ = some (.int .i64 x.2)
theorem LocsAt.below {w w' : World} {a : Option Addr} {l : List (Int × Int)} (h : LocsAt w a l) (hb : Below w.heap.size w w') : LocsAt w' a l := by
  rcases h with h | ⟨b, o, ha, hlt, hc⟩
  · exact .inl h
  · exact .inr ⟨b, o, ha, Nat.lt_of_lt_of_le hlt hb.size, fun i x hx => ⟨(hb.cell (p := ⟨b, o + i * 2, none⟩) hlt).trans (hc i x hx).1, (hb.cell (p := ⟨b, o + i * 2 + 1, none⟩) hlt).trans (hc i x hx).2⟩⟩
theorem LocsAt.drewN {w : World} {a : Option Addr} {l : List (Int × Int)} (h : LocsAt w a l) (n : Nat) : LocsAt (w.drewN n) a l := h
def lcV (l : List (Int × Int)) : List Value := l.flatMap fun x => [.int .i64 x.1, .int .i64 x.2]
theorem lcV_snoc (l : List (Int × Int)) (x : Int × Int) : lcV (l ++ [x]) = lcV l ++ [.int .i64 x.1, .int .i64 x.2] := by simp [lcV]
theorem lcV_at : ∀ {l : List (Int × Int)} {i : Nat} {x : Int × Int}, l[i]? = some x → (lcV l)[i * 2]? = some (.int .i64 x.1) ∧ (lcV l)[i * 2 + 1]? = some (.int .i64 x.2)
  | [], i, x, h => by simp at h
  | y :: l, 0, x, h => by simp at h; subst h; exact ⟨rfl, rfl⟩
  | y :: l, i + 1, x, h => by
    have := lcV_at (l := l) (i := i) (x := x) (by simpa using h)
    show ([Value.int .i64 y.1, .int .i64 y.2] ++ lcV l)[(i + 1) * 2]? = _ ∧ ([Value.int .i64 y.1, .int .i64 y.2] ++ lcV l)[(i + 1) * 2 + 1]? = _
    rw [show (i + 1) * 2 = i * 2 + 2 by omega]
    exact this
theorem GR.locs {w wr : World} {e : TypeId} {v : Value} {l : List (Int × Int)} (h : GR w wr e 2 v l.length (lcV l)) : ∃ a c, v = .slice a l.length c ∧ l.length ≤ c ∧ LocsAt wr a l := by
  obtain ⟨a, c, e1, hc, _, h0 | ⟨g, rfl, _, hlt, hcell⟩⟩ := h.form
  · exact ⟨a, c, e1, hc, .inl (List.length_eq_zero_iff.1 h0)⟩
  · exact ⟨_, c, e1, hc, .inr ⟨g, 0, rfl, hlt, fun i x hx => ⟨hcell _ _ (lcV_at hx).1, by rw [Nat.add_assoc]; exact hcell _ _ (lcV_at hx).2⟩⟩⟩
end Go.Proofs.YtlpibpkbgmcclaaGreatDoor
namespace Go.Proofs.YtlpibpkbgmcclaaGreatDoor
open Go.RowKit Go.Maps
set_option linter.unusedVariables false
/-- any element reads as itself -/
def hv (v : Value) : Option (DataW Value × List MemPlace) := some (.held v, [])
def held? (o : Option Value) : DataW Value := match o with | some v => .held v | none => .nil
/-- keys of a kind: how they are told, which are good -/
structure KE (k : TypeId) {α : Type} (kv : α → Value) (kf : α → Lit) (ok : α → Prop) : Prop where
  keyed : Keyed Tryz.prog k
  key : ∀ a, ok a → keyOf Tryz.prog k (kv a) = some (kf a)
  inj : ∀ a b, kv a = kv b → a = b
theorem KE.inj' {k : TypeId} {α : Type} {kv : α → Value} {kf : α → Lit} {ok : α → Prop} (K : KE k kv kf ok) {a b : α} (ha : ok a) (hb : ok b) (e : kf a = kf b) : a = b :=
  K.inj a b (K.keyed.inj (K.key a ha) (e ▸ K.key b hb))
/-- block b is a map with f's entries, no more than n -/
def MAt (w : World) (k : TypeId) (b n : Nat) {α : Type} (kf : α → Lit) (ok : α → Prop) (f : α → Option Value) : Prop :=
  ∃ D : DataW Value, w.ownsMap Tryz.prog k hv b n D ∧ ∀ a, ok a → D.atKey (kf a) .nil = held? (f a)
section
variable {w w' : World} {k : TypeId} {b n : Nat} {α : Type} {kv : α → Value} {kf : α → Lit} {ok : α → Prop} {f : α → Option Value}
theorem MAt.lt (h : MAt w k b n kf ok f) : b < w.heap.size := by obtain ⟨D, h1, _⟩ := h; exact h1.lt
theorem MAt.keep (h : MAt w k b n kf ok f) (hb : w'.heap[b]? = w.heap[b]?) : MAt w' k b n kf ok f := by
  obtain ⟨D, ⟨es, clock, h1, h2⟩, h3⟩ := h
  exact ⟨D, ⟨es, clock, hb.trans h1, h2⟩, h3⟩
theorem MAt.below (h : MAt w k b n kf ok f) (hb : Below w.heap.size w w') : MAt w' k b n kf ok f := h.keep (hb.block b h.lt)
theorem MAt.mono (h : MAt w k b n kf ok f) {m : Nat} (hm : n ≤ m) : MAt w k b m kf ok f := by
  obtain ⟨D, h1, h2⟩ := h
  exact ⟨D, h1.mono hm, h2⟩
theorem MAt.congr (h : MAt w k b n kf ok f) {g : α → Option Value} (e : ∀ a, ok a → g a = f a) : MAt w k b n kf ok g := by
  obtain ⟨D, h1, h2⟩ := h
  exact ⟨D, h1, fun a ha => by rw [e a ha]; exact h2 a ha⟩
theorem MAt.made (w : World) (k : TypeId) (kf : α → Lit) (ok : α → Prop) : MAt (w.alloc (.map #[] 0)) k w.heap.size 0 kf ok (fun _ => none) :=
  ⟨_, World.ownsMap_made w _ k hv, fun a _ => rfl⟩
theorem atKey_swap {D : DataW Value} {kl : Lit} (h : Maps.has D kl = true) (z z' : DataW Value) : D.atKey kl z = D.atKey kl z' := by
  cases D <;> try (simp [Maps.has] at h; done)
  rename_i es
  simp only [DataW.atKey]
  cases hf : es.find? (fun p => p.1.sameKey kl) with
  | some p => rfl
  | none =>
    exfalso
    obtain ⟨p, hp, hs⟩ := List.any_eq_true.1 h
    have := List.find?_eq_none.1 hf p hp
    exact this hs
/-- what is looked up: the entry's element, or the zero value -/
theorem look_spec {D : DataW Value} {kl : Lit} {z v : Value} {o : Option Value} (hD : D.atKey kl .nil = held? o) (hv : .held v = D.atKey kl (.held z)) : v = o.getD z ∧ Maps.has D kl = o.isSome := by
  cases hh : Maps.has D kl with
  | false =>
    rw [Maps.atKey_of_not_has hh] at hD hv
    injection hv with hv
    subst hv
    cases o with
    | none => exact ⟨rfl, rfl⟩
    | some y => cases hD
  | true =>
    rw [atKey_swap hh _ .nil, hD] at hv
    cases o with
    | none => cases hv
    | some y => injection hv with hv; subst hv; exact ⟨rfl, rfl⟩
theorem MAt.has {D : DataW Value} {kl : Lit} {o : Option Value} (h1 : w.ownsMap Tryz.prog k hv b n D) (K : Keyed Tryz.prog k) {t e : TypeId} (ht : Tryz.prog.underlying t = some (.map k e)) {z : Value} (hz : (zeroValue e).run Tryz.prog w = .ok z w) {key : Value} (hkey : keyOf Tryz.prog k key = some kl) (hD : D.atKey kl .nil = held? o) : Maps.has D kl = o.isSome := by
  obtain ⟨v, ps, _, hv'⟩ := h1.look_ok K ht hz (zd := .held z) (zp := []) rfl hkey
  have : DataW.held v = D.atKey kl (.held z) := by simpa [hv] using congrArg (Option.map Prod.fst) hv'
  exact (look_spec hD this).2
theorem MAt.look (h : MAt w k b n kf ok f) (K : KE k kv kf ok) {t e : TypeId} (ht : Tryz.prog.underlying t = some (.map k e)) {z : Value} (hz : (zeroValue e).run Tryz.prog w = .ok z w) {a : α} (ha : ok a) :
    (Instr.lookup t (.map (some b)) (kv a) true).run Tryz.prog w = .ok (.tuple #[(f a).getD z, .bool (f a).isSome]) w := by
  obtain ⟨D, h1, h2⟩ := h
  obtain ⟨v, ps, hr, hv'⟩ := h1.look_ok K.keyed ht hz (zd := .held z) (zp := []) rfl (K.key a ha)
  have : DataW.held v = D.atKey (kf a) (.held z) := by simpa [hv] using congrArg (Option.map Prod.fst) hv'
  obtain ⟨e1, e2⟩ := look_spec (h2 a ha) this
  rw [hr, e1, e2]
theorem MAt.look1 (h : MAt w k b n kf ok f) (K : KE k kv kf ok) {t e : TypeId} (ht : Tryz.prog.underlying t = some (.map k e)) {z : Value} (hz : (zeroValue e).run Tryz.prog w = .ok z w) {a : α} (ha : ok a) :
    (Instr.lookup t (.map (some b)) (kv a) false).run Tryz.prog w = .ok ((f a).getD z) w := by
  obtain ⟨D, h1, h2⟩ := h
  obtain ⟨v, ps, hr, hv'⟩ := h1.lookup K.keyed ht hz (zd := .held z) (zp := []) rfl (K.key a ha)
  have : DataW.held v = D.atKey (kf a) (.held z) := by simpa [hv] using congrArg (Option.map Prod.fst) hv'
  obtain ⟨e1, e2⟩ := look_spec (h2 a ha) this
  rw [hr, e1]
/-- one key's element is another one -/
def mset [DecidableEq α] (f : α → Option Value) (a : α) (o : Option Value) : α → Option Value := fun x => if x = a then o else f x
theorem MAt.put [DecidableEq α] (h : MAt w k b n kf ok f) (K : KE k kv kf ok) {t e : TypeId} (ht : Tryz.prog.underlying t = some (.map k e)) (hn : n < maxLen) {a : α} (ha : ok a) (v : Value) :
    ∃ w', (Instr.mapUpdate t (.map (some b)) (kv a) v).run Tryz.prog w = .ok () w' ∧ MAt w' k b (n + 1) kf ok (mset f a (some v)) ∧ w.mapTurned w' b := by
  obtain ⟨D, h1, h2⟩ := h
  obtain ⟨w', hr, h3, h4⟩ := h1.store K.keyed ht hn (K.key a ha) (val := v) (d := .held v) (ps := []) rfl
  refine ⟨w', hr, ⟨_, h3, fun x hx => ?_⟩, h4⟩
  unfold mset
  by_cases e : x = a
  · subst e
    rw [if_pos rfl]
    exact Maps.atKey_put_same h1.isMap (K.keyed.key (K.key x ha)) _ _
  · rw [if_neg e, Maps.atKey_put_other (fun q => e (K.inj' hx ha q))]
    exact h2 x hx
theorem MAt.del [DecidableEq α] (h : MAt w k b n kf ok f) (K : KE k kv kf ok) {t e : TypeId} (ht : Tryz.prog.underlying t = some (.map k e)) {a : α} (ha : ok a) (ty : TypeId) :
    ∃ w', (Builtin.delete_ #[t, k] ty #[.map (some b), kv a]).run Tryz.prog w = .ok (.tuple #[]) w' ∧ MAt w' k b n kf ok (mset f a none) ∧ w.mapTurned w' b := by
  obtain ⟨D, h1, h2⟩ := h
  obtain ⟨w', hr, h3, h4⟩ := h1.drop K.keyed ht (K.key a ha) ty
  refine ⟨w', hr, ⟨_, h3, fun x hx => ?_⟩, h4⟩
  unfold mset
  by_cases e : x = a
  · subst e
    rw [if_pos rfl]
    exact Maps.atKey_del_same _
  · rw [if_neg e, Maps.atKey_del_other (fun q => e (K.inj' hx ha q))]
    exact h2 x hx
/-! at the operation, for the walk -/
variable {ops : Array Oper} {rest : List Oper} {o : Oper} {ac : Act} {Q : Exit → Act → World → Prop}
/-- 'v, ok := m[k]' -/
theorem wp_mlook (hg : o.guard = none) (m x : Operand) (t : TypeId) (hop : o.op = Op.lookup t m x true) (e : TypeId) (K : KE k kv kf ok) (ht : Tryz.prog.underlying t = some (.map k e)) {z : Value} (hz : (zeroValue e).run Tryz.prog w = .ok z w)
    (a : α) (ha : ok a) (hm : ac.eval m = .map (some b)) (h : MAt w k b n kf ok f) (hx : ac.eval x = kv a)
    (hK : wpList Tryz.prog ops Q rest (ac.put o.dst (.tuple #[(f a).getD z, .bool (f a).isSome])) w) : wpList Tryz.prog ops Q (o :: rest) ac w := by
  refine wpList_plain hg fun K' hK' => ?_
  have hrun := h.look K ht hz ha
  unfold Oper.wp
  simp [execOp, hop, hm, hx, hrun, Result.andThen]
  exact hK' _ _ hK
/-- 'm[k]' -/
theorem wp_mlook1 (hg : o.guard = none) (m x : Operand) (t : TypeId) (hop : o.op = Op.lookup t m x false) (e : TypeId) (K : KE k kv kf ok) (ht : Tryz.prog.underlying t = some (.map k e)) {z : Value} (hz : (zeroValue e).run Tryz.prog w = .ok z w)
    (a : α) (ha : ok a) (hm : ac.eval m = .map (some b)) (h : MAt w k b n kf ok f) (hx : ac.eval x = kv a)
    (hK : wpList Tryz.prog ops Q rest (ac.put o.dst ((f a).getD z)) w) : wpList Tryz.prog ops Q (o :: rest) ac w := by
  refine wpList_plain hg fun K' hK' => ?_
  have hrun := h.look1 K ht hz ha
  unfold Oper.wp
  simp [execOp, hop, hm, hx, hrun, Result.andThen]
  exact hK' _ _ hK
/-- 'm[k] = v' -/
theorem wp_mput [DecidableEq α] (hg : o.guard = none) (m x v : Operand) (t : TypeId) (hop : o.op = Op.mapUpdate t m x v) (e : TypeId) (K : KE k kv kf ok) (ht : Tryz.prog.underlying t = some (.map k e)) (hn : n < maxLen)
    (a : α) (ha : ok a) (val : Value) (hm : ac.eval m = .map (some b)) (h : MAt w k b n kf ok f) (hx : ac.eval x = kv a) (hv' : ac.eval v = val)
    (hK : ∀ w', MAt w' k b (n + 1) kf ok (mset f a (some val)) → w.mapTurned w' b → wpList Tryz.prog ops Q rest (ac.put o.dst undef) w') : wpList Tryz.prog ops Q (o :: rest) ac w := by
  refine wpList_plain hg fun K' hK' => ?_
  obtain ⟨w', hrun, r1, r2⟩ := h.put K ht hn ha val
  unfold Oper.wp
  simp [execOp, hop, hm, hx, hv', hrun, Result.andThen]
  exact hK' _ _ (hK w' r1 r2)
/-- 'delete(m, k)' -/
theorem wp_mdel [DecidableEq α] (hg : o.guard = none) (m x : Operand) (t : TypeId) (hop : o.op = Op.call { callee := Callee.builtin Builtin.delete, args := #[m, x], argTypes := #[t, k] }) (e : TypeId) (K : KE k kv kf ok) (ht : Tryz.prog.underlying t = some (.map k e))
    (a : α) (ha : ok a) (hm : ac.eval m = .map (some b)) (h : MAt w k b n kf ok f) (hx : ac.eval x = kv a)
    (hK : ∀ w', MAt w' k b n kf ok (mset f a none) → w.mapTurned w' b → wpList Tryz.prog ops Q rest (ac.put o.dst (.tuple #[])) w') : wpList Tryz.prog ops Q (o :: rest) ac w := by
  refine wpList_plain hg fun K' hK' => ?_
  obtain ⟨w', hrun, r1, r2⟩ := h.del K ht ha o.type
  unfold Oper.wp
  simp [execOp, hop, resolve, invoke, builtin, hm, hx, hrun, Result.andThen]
  exact hK' _ _ (hK w' r1 r2)
end
/-! the kinds of keys -/
def kStr (s : ByteArray) : Value := .string s
def lStr (s : ByteArray) : Lit := .string s.data.toList
theorem ke_str : KE 9 kStr lStr (fun s => s.size ≤ maxLen) := ⟨string_keyed Tryz.underlying9, fun a ha => by simp [kStr, lStr, keyOf, mapKey, Tryz.underlying9, ha], fun a b e => by injection e⟩
def kInt (x : Int) : Value := .int .i64 x
def lInt (x : Int) : Lit := .int .i64 x
def OkI (x : Int) : Prop := -9223372036854775808 ≤ x ∧ x ≤ 9223372036854775807
theorem wf_ok {x : Int} (h : OkI x) : (Lit.int .i64 x).wf = true := WalkArith.wf_i64 (by have := h.1; have := h.2; omega)
theorem ke_int : KE 3 kInt lInt OkI := ⟨int_keyed Tryz.underlying3, fun a ha => keyOf_int_mk Tryz.underlying3 (wf_ok ha), fun a b e => by injection e⟩
end Go.Proofs.YtlpibpkbgmcclaaGreatDoor
namespace Go.Proofs.YtlpibpkbgmcclaaGreatDoor
open Go.RowKit Go.Shelf
set_option linter.unusedVariables false
attribute [local go_sem] Oper.semAt_some
/-- what a round keeps: all blocks below n₀ but one -/
def Kp (n₀ bi : Nat) (W W' : World) : Prop := W.heap.size ≤ W'.heap.size ∧ ∀ k, k < n₀ → k ≠ bi → W'.heap[k]? = W.heap[k]?
theorem Kp.refl (n₀ bi : Nat) (W : World) : Kp n₀ bi W W := ⟨Nat.le_refl _, fun _ _ _ => rfl⟩
theorem Kp.trans {n₀ bi : Nat} {A B C : World} (h : Kp n₀ bi A B) (k : Kp n₀ bi B C) : Kp n₀ bi A C :=
  ⟨Nat.le_trans h.1 k.1, fun i hi h1 => (k.2 i hi h1).trans (h.2 i hi h1)⟩
theorem Kp.cell {n₀ bi : Nat} {W W' : World} (h : Kp n₀ bi W W') {p : Addr} (h0 : p.block < n₀) (h1 : p.block ≠ bi) : W'.cell? p = W.cell? p :=
  World.cell?_of_block (h.2 p.block h0 h1)
theorem kp_put {n₀ bi : Nat} {w : World} (hn : n₀ ≤ w.heap.size) (W : World) (l : Nat) (o o' : Obj) (hl : w.heap.size ≤ l) (_ : W.heap[l]? = some o) (_ : o.isCells = false) (_ : o.isWalk = false) : Kp n₀ bi W (W.putObj l o') :=
  ⟨by simp, fun k hk _ => World.putObj_heap_other (by omega)⟩
theorem own_kept {W W' : World} {B z n : Nat} {e : TypeId} {v : Value} {xs : List Value} {row : Option Nat} (h : W.ownsRow B e z v n xs) (hg : W.grownBy W' row) (hr : ∀ r, row = some r → ∃ o : Obj, W.heap[r]? = some o ∧ o.isCells = false) : W'.ownsRow B e z v n xs := by
  refine h.kept hg ?_
  obtain ⟨_, ⟨rfl, rfl⟩ | ⟨g, cap, cur, rfl, _, hgg, _⟩⟩ := h
  · exact .inl rfl
  · right
    intro e
    obtain ⟨o, ho, hc⟩ := hr g e.symm
    rw [hgg] at ho
    cases ho
    cases hc
theorem below_grown {w W W' : World} {B : Nat} {row : Option Nat} (h : Below w.heap.size w W) (hg : W.grownBy W' row) (hr : ∀ r, row = some r → B ≤ r) (hB : w.heap.size ≤ B) (hz : B ≤ W.heap.size) : Below w.heap.size w W' :=
  ⟨hg.os.trans h.os, hg.tape.trans h.tape, hg.output.trans h.output, Nat.le_trans h.size hg.size, fun k hk => (hg.block k (by omega) fun e => by have := hr k e.symm; omega).trans (h.block k hk)⟩
theorem keeps_alloc (B : Nat) (W : World) (o : Obj) : KeepsFrom B W (W.alloc o) := ⟨by simp, fun k o' _ hk _ => (Below.heap_alloc _ _ _ (Array.getElem?_eq_some_iff.1 hk).1).trans hk⟩
theorem keeps_set (B : Nat) (W : World) {rb : Nat} (hrb : rb < B) (v : Value) : KeepsFrom B W (W.setCell ⟨rb, 0, none⟩ v) := ⟨by simp [World.setCell], fun k o' hB hk _ => (Below.heap_setCell _ _ _ _ (by show k ≠ rb; omega)).trans hk⟩
/-- Q, but nothing at a panic -/
def Calm (Q : Exit → Act → World → Prop) : Exit → Act → World → Prop
  | .panic _, _, _ => False
  | e, a, w => Q e a w
theorem calm_imp {Q : Exit → Act → World → Prop} : ∀ (e : Exit) (a : Act) (w : World), Calm Q e a w → Q e a w := fun e a w h => by
  cases e <;> first | exact h | exact (h : False).elim
theorem wpIn_calm {F : Fence} {n : Nat} {P : Program} {c : Code} {Q : Exit → Act → World → Prop} {a : Act} {w : World} (h : c.wpIn F n P (Calm Q) a w) : c.wpIn F n P Q a w :=
  wpIn_mono h calm_imp
theorem calm_normal {Q : Exit → Act → World → Prop} {a : Act} {w : World} (h : Q .normal a w) : Calm Q .normal a w := h
/-- what 'v = append(v, ..)' on a variable in a box leaves -/
structure Appd (W W' : World) (bi : Nat) (v : Value) : Prop where
  os : W'.os = W.os
  tape : W'.tape = W.tape
  output : W'.output = W.output
  size : W.heap.size ≤ W'.heap.size
  others : KeepsOthers W W'
  block : ∀ k, k < W.heap.size → some k ≠ v.ownBlock → k ≠ bi → W'.heap[k]? = W.heap[k]?
theorem appd {W w1 : World} {n₀ bi z : Nat} {t e : TypeId} {v v' : Value} {k m : Nat} {xs ys : List Value} {tmp : Obj}
    (hv : Boxed W bi t v) (hte : t ≠ e) (hrow : W.ownsRow n₀ e z v k xs) (hown' : w1.ownsRow n₀ e z v' m ys) (hgrow : (W.alloc tmp).grownBy w1 v.ownBlock) :
    Boxed w1 bi t v ∧ Boxed (w1.setCell ⟨bi, 0, none⟩ v') bi t v' ∧ (w1.setCell ⟨bi, 0, none⟩ v').ownsRow n₀ e z v' m ys ∧ Appd W (w1.setCell ⟨bi, 0, none⟩ v') bi v := by
  have hv1 : Boxed w1 bi t v := (hv.alloc tmp).kept hgrow (hv.not_row hte hrow)
  have hsz := hgrow.size
  rw [World.size_alloc] at hsz
  refine ⟨hv1, hv1.set v', hown'.kept (grownBy_setCell' w1 bi v') (.inr (hv1.not_row hte hown').symm), hgrow.os, hgrow.tape, hgrow.output, ?_, ?_, ?_⟩
  · simp [World.setCell]; omega
  · refine ((KeepsOthers.alloc W tmp).trans (KeepsOthers.of_grownBy hgrow fun j o ej hj => ?_)).trans (KeepsOthers.setCell _ _ _)
    rcases (hrow.alloc tmp).2 with ⟨rfl, _⟩ | ⟨g, cap, cur, rfl, _, hgb, _⟩
    · simp [Value.ownBlock] at ej
    · obtain rfl : g = j := by simpa [Value.ownBlock] using ej
      rw [hgb] at hj; cases hj; rfl
  · intro j hj h1 h2
    rw [Below.heap_setCell _ _ _ _ (by simpa using h2), hgrow.block j (by simp; omega) h1]
    exact Below.heap_alloc _ _ _ hj
theorem Appd.low {W W' : World} {bi n₀ z k : Nat} {e : TypeId} {v : Value} {xs : List Value} (h : Appd W W' bi v) (hr : W.ownsRow n₀ e z v k xs) (hn : n₀ ≤ W.heap.size) {j : Nat} (hj : j < n₀) (hne : j ≠ bi) : W'.heap[j]? = W.heap[j]? :=
  h.block j (by omega) (fun e' => by have := row_base hr e'.symm; omega) hne
theorem cell_put {W : World} {k l : Nat} {v : Value} {t : TypeId} {o : Obj} (h : W.heap[k]? = some (.cells #[v] t (0, 0))) (hne : k ≠ l) : (W.putObj l o).cell? ⟨k, 0, none⟩ = some v :=
  cell_of_block (c := #[v]) ((World.putObj_heap_other hne).trans h)
theorem own_same {W W' : World} {B z n : Nat} {e : TypeId} {v : Value} {xs : List Value} (h : W.ownsRow B e z v n xs) (hk : ∀ g cur t fr, B ≤ g → W.heap[g]? = some (.cells cur t fr) → W'.heap[g]? = W.heap[g]?) : W'.ownsRow B e z v n xs := by
  obtain ⟨hl, ⟨rfl, rfl⟩ | ⟨g, cap, cur, rfl, hB, hg, hc, hm, hs, ht⟩⟩ := h
  · exact ⟨hl, .inl ⟨rfl, rfl⟩⟩
  · exact ⟨hl, .inr ⟨g, cap, cur, rfl, hB, (hk g _ _ _ hB hg).trans hg, hc, hm, hs, ht⟩⟩
theorem grown_none {W W' : World} (h : Below W.heap.size W W') : W.grownBy W' none := ⟨h.os, h.tape, h.output, h.size, fun k hk _ => h.block k hk⟩
theorem new_at (w : World) (o : Obj) {k : Nat} (h : w.heap.size = k) : (w.alloc o).heap[k]? = some o := by rw [← h]; exact heap_alloc_new w o
theorem old_at {w : World} (o : Obj) {k : Nat} {x : Obj} (h : w.heap[k]? = some x) : (w.alloc o).heap[k]? = some x := (Below.heap_alloc _ _ _ (Array.getElem?_eq_some_iff.1 h).1).trans h
end Go.Proofs.YtlpibpkbgmcclaaGreatDoor
namespace Go.Proofs.YtlpibpkbgmcclaaGreatDoor
open Go.RowKit
set_option linter.unusedVariables false
def smallB (l : List ByteArray) (many long : Int) : Bool := l.all (fun s => decide ((s.size : Int) ≤ long)) && decide ((l.length : Int) ≤ many)
theorem small_no {l : List ByteArray} {many long : Int} {k : Nat} {s : ByteArray} (hs : l[k]? = some s) (h : long < (s.size : Int)) : smallB l many long = false := by
  unfold smallB
  have : l.all (fun s => decide ((s.size : Int) ≤ long)) = false := by
    rw [List.all_eq_false]; exact ⟨s, List.mem_of_getElem? hs, by simpa using h⟩
  rw [this]; rfl
theorem small_end {l : List ByteArray} {many long : Int} (h : ∀ (i : Nat) (s : ByteArray), l[i]? = some s → (s.size : Int) ≤ long) : smallB l many long = decide ((l.length : Int) ≤ many) := by
  unfold smallB
  have : l.all (fun s => decide ((s.size : Int) ≤ long)) = true := by
    rw [List.all_eq_true]
    intro s hs
    obtain ⟨k, hk⟩ := List.mem_iff_getElem?.1 hs
    simpa using h k s hk
  rw [this]; rfl
theorem small_iff {l : List ByteArray} {many long : Int} : smallB l many long = true ↔ (∀ s ∈ l, (s.size : Int) ≤ long) ∧ (l.length : Int) ≤ many := by
  unfold smallB; simp [List.all_eq_true]
end Go.Proofs.YtlpibpkbgmcclaaGreatDoor
namespace Go.Proofs.YtlpibpkbgmcclaaGreatDoor
open Go.RowKit
/-- a row of n bytes f 0, f 1, .. in a block from base on -/
def BR (w : World) (base : Nat) (v : Value) (n : Nat) (f : Nat → Nat) : Prop := ∃ g cap, v = .slice (some ⟨g, 0, none⟩) n cap ∧ base ≤ g ∧ n ≤ cap ∧ cap ≤ maxLen ∧ g < w.heap.size ∧ (∀ p, p < n → w.cell? ⟨g, p, none⟩ = some (.int .u8 (f p : Nat))) ∧ (∀ p, n ≤ p → p < cap → (w.cell? ⟨g, p, none⟩).isSome = true ∧ w.frozen? ⟨g, p, none⟩ = false)
theorem BR.congr {w : World} {base : Nat} {v : Value} {n : Nat} {f f' : Nat → Nat} (h : BR w base v n f) (e : ∀ p, p < n → f p = f' p) : BR w base v n f' := by
  obtain ⟨g, cap, hv, hb, hn, hm, hg, hc, hf⟩ := h
  exact ⟨g, cap, hv, hb, hn, hm, hg, fun p hp => by rw [← e p hp]; exact hc p hp, hf⟩
theorem BR.alloc {w : World} {base : Nat} {v : Value} {n : Nat} {f : Nat → Nat} (h : BR w base v n f) (o : Obj) : BR (w.alloc o) base v n f := by
  obtain ⟨g, cap, hv, hb, hn, hm, hg, hc, hf⟩ := h
  have hbk : (w.alloc o).heap[g]? = w.heap[g]? := Below.heap_alloc _ _ _ hg
  refine ⟨g, cap, hv, hb, hn, hm, by rw [World.size_alloc]; omega, fun p hp => ?_, fun p h1 h2 => ?_⟩
  · rw [World.cell?_of_block (w := w) (a := ⟨g, p, none⟩) hbk]; exact hc p hp
  · rw [World.cell?_of_block (w := w) (a := ⟨g, p, none⟩) hbk, World.frozen?_of_block (w := w) (a := ⟨g, p, none⟩) hbk]; exact hf p h1 h2
theorem br_new (w : World) (s : ByteArray) (cap : Nat) (hs : s.size ≤ cap) (hm : cap ≤ maxLen) (base : Nat) (hb : base ≤ w.heap.size) : BR (w.drew.alloc (.cells (bytesRow s cap) 5 ((bytesRow s cap).size, (bytesRow s cap).size + 1))) base (.slice (some ⟨w.heap.size, 0, none⟩) s.size cap) s.size (bt s) := by
  have hz : (bytesRow s cap).size = cap := by unfold bytesRow; simp; omega
  have hfz : ∀ p, p < cap → (w.drew.alloc (.cells (bytesRow s cap) 5 ((bytesRow s cap).size, (bytesRow s cap).size + 1))).frozen? ⟨w.heap.size, p, none⟩ = false := fun p hp => by
    have h := World.frozen?_alloc_mark w.drew (bytesRow s cap) 5 (bytesRow s cap).size ((bytesRow s cap).size + 1) p
    rw [show w.drew.heap.size = w.heap.size from rfl] at h
    rw [h, hz]
    simp; omega
  have hcl : ∀ p, (w.drew.alloc (.cells (bytesRow s cap) 5 ((bytesRow s cap).size, (bytesRow s cap).size + 1))).cell? ⟨w.heap.size, p, none⟩ = (bytesRow s cap)[p]? := fun p => by
    have h := World.cell?_alloc_mark w.drew (bytesRow s cap) 5 ((bytesRow s cap).size, (bytesRow s cap).size + 1) p
    rw [show w.drew.heap.size = w.heap.size from rfl] at h
    exact h
  refine ⟨w.heap.size, cap, rfl, hb, hs, hm, by rw [World.size_alloc]; exact Nat.lt_succ_self _, fun p hp => ?_, fun p _ h2 => ⟨?_, hfz p h2⟩⟩
  · rw [hcl, bytesRow_at s cap p hp, ← bt_eq hp]
    rfl
  · rw [hcl]
    simp [hz, h2]
theorem zc_size (k : Nat) : (Builtin.zeroCells (Value.int IntKind.u8 0).cells k).size = k := by rw [size_zeroCells]; simp [Value.cells]
/-- one byte appended -/
theorem run_append_br (w : World) (base : Nat) (ty : TypeId) (v : Value) (n x : Nat) (f : Nat → Nat) (h : BR w base v n f) (hx : x = f n) (ad : Addr) (c : Nat) (hn : w.cell? (ad.add 0) = some (.int .u8 (x : Int))) (hl : n < 1000000000) (hbase : base ≤ w.heap.size) :
    ∃ v' w', (Builtin.append_ #[57, 57] ty #[v, .slice (some ad) 1 c]).run Tryz.prog w = .ok v' w' ∧ BR w' base v' (n + 1) f ∧ w.grownBy w' v.ownBlock := by
  obtain ⟨g, cap, rfl, hb, hnc, hm, hg, hc, hf⟩ := h
  obtain ⟨i0, hi, hz0, hz1, hz2⟩ := info_parts u8_info
  have hnews : ∀ j u, ([.int .u8 (x : Int)] : List Value)[j]? = some u → w.cell? (ad.add j) = some u := fun j u hj => by
    have : j = 0 := by have := (List.getElem?_eq_some_iff.1 hj).1; simp at this; exact this
    subst this
    simp at hj
    rw [hn, hj]
  by_cases hroom : n + 1 ≤ cap
  · have hst := run_storeCells_cells (P := Tryz.prog) g n [.int .u8 (x : Int)] 0 w (fun j hj => by
        have : j = 0 := by simp at hj; exact hj
        subst this; exact (hf n (Nat.le_refl _) (by omega)).1) (fun j hj => by
        have : j = 0 := by simp at hj; exact hj
        subst this; exact (hf n (Nat.le_refl _) (by omega)).2) (by simp [Value.oneCell'])
    have hfc := run_firstCells_some (P := Tryz.prog) w i0.size 1 ad 1 c [.int .u8 (x : Int)] (by rw [hz1]; rfl) hnews
    refine ⟨.slice (some ⟨g, 0, none⟩) (n + 1) cap, w.setCell ⟨g, n, none⟩ (.int .u8 (x : Int)), ?_, ?_, ?_⟩
    · rw [hz1] at hfc
      have hst' : (storeCells ⟨g, n, none⟩ [.int .u8 (x : Int)] 0).run Tryz.prog w = .ok () (w.setCell ⟨g, n, none⟩ (.int .u8 (x : Int))) := hst
      simp [Builtin.append_, run_underlying Tryz.underlying57, sizeOf, typeInfo, hi, hz1, Builtin.lenOf, hroom, hfc, Addr.add_lit, hst']
    · refine ⟨g, cap, rfl, hb, hroom, hm, by simpa [World.setCell] using hg, fun p hp => ?_, fun p h1 h2 => ?_⟩
      · by_cases e : p = n
        · subst e
          obtain ⟨u, hu⟩ := Option.isSome_iff_exists.1 (hf p (Nat.le_refl _) (by omega)).1
          rw [World.cell?_setCell_same _ _ _ hu, hx]
        · rw [World.cell?_setCell_other _ _ _ _ (by simp <;> omega)]
          exact hc p (by omega)
      · rw [World.cell?_setCell_other _ _ _ _ (by simp <;> omega), World.frozen?_setCell]
        exact hf p (by omega) h2
    · exact ⟨rfl, rfl, rfl, by simp [World.setCell], fun k _ hk => Below.heap_setCell _ _ _ _ (fun e => hk (by rw [e]; rfl))⟩
  · have holds : ∀ j u, (bys f n)[j]? = some u → w.cell? ((⟨g, 0, none⟩ : Addr).add j) = some u := fun j u hj => by
      have hjn : j < n := by have := (List.getElem?_eq_some_iff.1 hj).1; rw [bys_len] at this; exact this
      have ha : (⟨g, 0, none⟩ : Addr).add j = ⟨g, j, none⟩ := by unfold Addr.add; split <;> simp_all
      rw [ha, hc j hjn]
      simp [bys, hjn] at hj
      rw [hj]
    have hcap : n = cap := by omega
    have hr := run_append_grow (P := Tryz.prog) w 57 ty 5 i0 (.int .u8 0) Tryz.underlying57 hi hz0 ⟨g, 0, none⟩ n cap (bys f n) (by rw [bys_len, hz1, Nat.mul_one]) holds ad 1 c [.int .u8 (x : Int)] (by rw [hz1]; rfl) hnews (by omega) (by omega) (growslice_fits (by omega) (by rw [hz2]; omega))
    have hge := grownCap_ge w (n + 1) cap 5
    have hcm : grownCap w (n + 1) cap 5 ≤ maxLen := grownCap_le_maxLen w (n + 1) cap 5 (by unfold maxLen; omega)
    generalize grownCap w (n + 1) cap 5 = C at *
    have hblk : (w.drew.alloc (.cells ((bys f n).toArray ++ [Value.int .u8 (x : Int)].toArray ++ Builtin.zeroCells (Value.int IntKind.u8 0).cells (C - (n + 1))) 5)).heap[w.heap.size]? = some (.cells ((bys f n).toArray ++ [Value.int .u8 (x : Int)].toArray ++ Builtin.zeroCells (Value.int IntKind.u8 0).cells (C - (n + 1))) 5 (0, 0)) := heap_alloc_new w.drew _
    refine ⟨_, _, hr, ⟨w.heap.size, C, rfl, hbase, hge, hcm, by rw [World.size_alloc]; exact Nat.lt_succ_self _, fun p hp => ?_, fun p h1 h2 => ⟨?_, ?_⟩⟩, ⟨rfl, rfl, rfl, by simp, fun k hk _ => Below.heap_alloc w.drew _ k hk⟩⟩
    · rw [cell_of_block hblk]
      rw [Array.getElem?_append_left (by simp [bys_len]; omega)]
      by_cases e : p = n
      · subst e
        rw [Array.getElem?_append_right (by simp [bys_len])]
        simp [bys_len, hx]
      · rw [Array.getElem?_append_left (by simp [bys_len]; omega)]
        have hpn : p < n := by omega
        simp [bys, hpn]
    · rw [cell_of_block hblk]
      have hlt : p < ((bys f n).toArray ++ [Value.int .u8 (x : Int)].toArray ++ Builtin.zeroCells (Value.int IntKind.u8 0).cells (C - (n + 1))).size := by
        simp only [Array.size_append, List.size_toArray, bys_len, zc_size, List.length_cons, List.length_nil]; omega
      rw [Array.getElem?_eq_getElem hlt]; rfl
    · exact free_of_block hblk
theorem wpList_append_br {ops : Array Oper} {rest : List Oper} {o : Oper} {a : Act} {Q : Exit → Act → World → Prop} (w : World) (hgd : o.guard = none) (s y : Operand)
    (ho : o.op = .call { callee := .builtin .append, args := #[s, y], argTypes := #[57, 57] })
    (base : Nat) (v : Value) (n x : Nat) (f : Nat → Nat) (hs : a.eval s = v) (h : BR w base v n f) (hx : x = f n) (ad : Addr) (c : Nat) (hy : a.eval y = .slice (some ad) 1 c) (hn : w.cell? (ad.add 0) = some (.int .u8 (x : Int))) (hl : n < 1000000000) (hbase : base ≤ w.heap.size)
    (hk : ∀ v' w', BR w' base v' (n + 1) f → w.grownBy w' v.ownBlock → wpList Tryz.prog ops Q rest (a.put o.dst v') w') : wpList Tryz.prog ops Q (o :: rest) a w :=
  wpList_plain hgd fun _ hK => by
    obtain ⟨v', w', hr, h2, h3⟩ := run_append_br w base o.type v n x f h hx ad c hn hl hbase
    unfold Oper.wp execOp
    simp only [ho, resolve, invoke, builtin, Sem.run_bind, Sem.run_pure, Result.andThen_ok, List.map_toArray, List.map_cons, List.map_nil, hs, hy, hr]
    exact hK _ _ (hk v' w' h2 h3)
/-- a row of bytes in hand, and what was there is as it was -/
def BRel (w wr : World) (f : Nat → Nat) (v : Value) (k : Nat) : Prop := BR wr w.heap.size v k f ∧ Below w.heap.size w wr
theorem bRel_step {w wr w1 : World} {f : Nat → Nat} {v v' : Value} {k : Nat} {o : Obj} (h : BRel w wr f v k) (hown : BR w1 w.heap.size v' (k + 1) f) (hgr : (wr.alloc o).grownBy w1 v.ownBlock) : BRel w w1 f v' (k + 1) := by
  refine ⟨hown, Below.grown (h.2.alloc h.2.size o) hgr ?_ fun g hg => ?_⟩
  · rw [World.size_alloc]; exact Nat.le_succ_of_le h.2.size
  · obtain ⟨g', cap, rfl, hb, _⟩ := h.1
    cases hg; exact hb
theorem new_one (w : World) (x : Int) : (w.alloc (.cells #[.int .u8 x] 5)).cell? ((⟨w.heap.size, 0, none⟩ : Addr).add 0) = some (.int .u8 x) := cell_of_block (c := #[.int .u8 x]) (heap_alloc_new _ _)
end Go.Proofs.YtlpibpkbgmcclaaGreatDoor
