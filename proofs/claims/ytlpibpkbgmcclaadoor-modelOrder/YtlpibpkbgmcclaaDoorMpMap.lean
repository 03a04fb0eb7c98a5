/- Maps in memory: what a block holds at each key, as a function. -/
import Derived.Test.YtlpibpkbgmcclaaDoorRow
import Derived.Maps.OwnSet
namespace Go.Proofs.YtlpibpkbgmcclaaDoor
open Go.RowKit Go.Maps
set_option linter.unusedVariables false
/-- any element reads as itself -/
def hv (v : Value) : Option (DataW Value × List MemPlace) := some (.held v, [])
def held? (o : Option Value) : DataW Value := match o with | some v => .held v | none => .nil
/-- keys of a kind: how they are told, which are good -/
structure KE (k : TypeId) {α : Type} (kv : α → Value) (kf : α → Lit) (ok : α → Prop) : Prop where
  keyed : Keyed Tryd.prog k
  key : ∀ a, ok a → keyOf Tryd.prog k (kv a) = some (kf a)
  inj : ∀ a b, kv a = kv b → a = b
theorem KE.inj' {k : TypeId} {α : Type} {kv : α → Value} {kf : α → Lit} {ok : α → Prop} (K : KE k kv kf ok) {a b : α} (ha : ok a) (hb : ok b) (e : kf a = kf b) : a = b :=
  K.inj a b (K.keyed.inj (K.key a ha) (e ▸ K.key b hb))
/-- block b is a map with f's entries, no more than n -/
def MAt (w : World) (k : TypeId) (b n : Nat) {α : Type} (kf : α → Lit) (ok : α → Prop) (f : α → Option Value) : Prop :=
  ∃ D : DataW Value, w.ownsMap Tryd.prog k hv b n D ∧ ∀ a, ok a → D.atKey (kf a) .nil = held? (f a)
section
variable {w w' : World} {k : TypeId} {b n : Nat} {α : Type} {kv : α → Value} {kf : α → Lit} {ok : α → Prop} {f : α → Option Value}
theorem MAt.lt (h : MAt w k b n kf ok f) : b < w.heap.size := by obtain ⟨D, h1, _⟩ := h; exact h1.lt
theorem MAt.keep (h : MAt w k b n kf ok f) (hb : w'.heap[b]? = w.heap[b]?) : MAt w' k b n kf ok f := by
  obtain ⟨D, ⟨es, clock, h1, h2⟩, h3⟩ := h
  exact ⟨D, ⟨es, clock, hb.trans h1, h2⟩, h3⟩
theorem MAt.below (h : MAt w k b n kf ok f) (hb : Below w.heap.size w w') : MAt w' k b n kf ok f := h.keep (hb.block b h.lt)
theorem MAt.mono (h : MAt w k b n kf ok f) {m : Nat} (hm : n ≤ m) : MAt w k b m kf ok f := by
  obtain ⟨D, h1, h2⟩ := h
  exact ⟨D, h1.mono hm, h2⟩
theorem MAt.congr (h : MAt w k b n kf ok f) {g : α → Option Value} (e : ∀ a, ok a → g a = f a) : MAt w k b n kf ok g := by
  obtain ⟨D, h1, h2⟩ := h
  exact ⟨D, h1, fun a ha => by rw [e a ha]; exact h2 a ha⟩
theorem MAt.made (w : World) (k : TypeId) (kf : α → Lit) (ok : α → Prop) : MAt (w.alloc (.map #[] 0)) k w.heap.size 0 kf ok (fun _ => none) :=
  ⟨_, World.ownsMap_made w _ k hv, fun a _ => rfl⟩
theorem atKey_swap {D : DataW Value} {kl : Lit} (h : Maps.has D kl = true) (z z' : DataW Value) : D.atKey kl z = D.atKey kl z' := by
  cases D <;> try (simp [Maps.has] at h; done)
  rename_i es
  simp only [DataW.atKey]
  cases hf : es.find? (fun p => p.1.sameKey kl) with
  | some p => rfl
  | none =>
    exfalso
    obtain ⟨p, hp, hs⟩ := List.any_eq_true.1 h
    have := List.find?_eq_none.1 hf p hp
    exact this hs
/-- what is looked up: the entry's element, or the zero value -/
theorem look_spec {D : DataW Value} {kl : Lit} {z v : Value} {o : Option Value} (hD : D.atKey kl .nil = held? o) (hv : .held v = D.atKey kl (.held z)) : v = o.getD z ∧ Maps.has D kl = o.isSome := by
  cases hh : Maps.has D kl with
  | false =>
    rw [Maps.atKey_of_not_has hh] at hD hv
    injection hv with hv
    subst hv
    cases o with
    | none => exact ⟨rfl, rfl⟩
    | some y => cases hD
  | true =>
    rw [atKey_swap hh _ .nil, hD] at hv
    cases o with
    | none => cases hv
    | some y => injection hv with hv; subst hv; exact ⟨rfl, rfl⟩
theorem MAt.has {D : DataW Value} {kl : Lit} {o : Option Value} (h1 : w.ownsMap Tryd.prog k hv b n D) (K : Keyed Tryd.prog k) {t e : TypeId} (ht : Tryd.prog.underlying t = some (.map k e)) {z : Value} (hz : (zeroValue e).run Tryd.prog w = .ok z w) {key : Value} (hkey : keyOf Tryd.prog k key = some kl) (hD : D.atKey kl .nil = held? o) : Maps.has D kl = o.isSome := by
  obtain ⟨v, ps, _, hv'⟩ := h1.look_ok K ht hz (zd := .held z) (zp := []) rfl hkey
  have : DataW.held v = D.atKey kl (.held z) := by simpa [hv] using congrArg (Option.map Prod.fst) hv'
  exact (look_spec hD this).2
theorem MAt.look (h : MAt w k b n kf ok f) (K : KE k kv kf ok) {t e : TypeId} (ht : Tryd.prog.underlying t = some (.map k e)) {z : Value} (hz : (zeroValue e).run Tryd.prog w = .ok z w) {a : α} (ha : ok a) :
    (Instr.lookup t (.map (some b)) (kv a) true).run Tryd.prog w = .ok (.tuple #[(f a).getD z, .bool (f a).isSome]) w := by
  obtain ⟨D, h1, h2⟩ := h
  obtain ⟨v, ps, hr, hv'⟩ := h1.look_ok K.keyed ht hz (zd := .held z) (zp := []) rfl (K.key a ha)
  have : DataW.held v = D.atKey (kf a) (.held z) := by simpa [hv] using congrArg (Option.map Prod.fst) hv'
  obtain ⟨e1, e2⟩ := look_spec (h2 a ha) this
  rw [hr, e1, e2]
theorem MAt.look1 (h : MAt w k b n kf ok f) (K : KE k kv kf ok) {t e : TypeId} (ht : Tryd.prog.underlying t = some (.map k e)) {z : Value} (hz : (zeroValue e).run Tryd.prog w = .ok z w) {a : α} (ha : ok a) :
    (Instr.lookup t (.map (some b)) (kv a) false).run Tryd.prog w = .ok ((f a).getD z) w := by
  obtain ⟨D, h1, h2⟩ := h
  obtain ⟨v, ps, hr, hv'⟩ := h1.lookup K.keyed ht hz (zd := .held z) (zp := []) rfl (K.key a ha)
  have : DataW.held v = D.atKey (kf a) (.held z) := by simpa [hv] using congrArg (Option.map Prod.fst) hv'
  obtain ⟨e1, e2⟩ := look_spec (h2 a ha) this
  rw [hr, e1]
/-- one key's element is another one -/
def mset [DecidableEq α] (f : α → Option Value) (a : α) (o : Option Value) : α → Option Value := fun x => if x = a then o else f x
theorem MAt.put [DecidableEq α] (h : MAt w k b n kf ok f) (K : KE k kv kf ok) {t e : TypeId} (ht : Tryd.prog.underlying t = some (.map k e)) (hn : n < maxLen) {a : α} (ha : ok a) (v : Value) :
    ∃ w', (Instr.mapUpdate t (.map (some b)) (kv a) v).run Tryd.prog w = .ok () w' ∧ MAt w' k b (n + 1) kf ok (mset f a (some v)) ∧ w.mapTurned w' b := by
  obtain ⟨D, h1, h2⟩ := h
  obtain ⟨w', hr, h3, h4⟩ := h1.store K.keyed ht hn (K.key a ha) (val := v) (d := .held v) (ps := []) rfl
  refine ⟨w', hr, ⟨_, h3, fun x hx => ?_⟩, h4⟩
  unfold mset
  by_cases e : x = a
  · subst e
    rw [if_pos rfl]
    exact Maps.atKey_put_same h1.isMap (K.keyed.key (K.key x ha)) _ _
  · rw [if_neg e, Maps.atKey_put_other (fun q => e (K.inj' hx ha q))]
    exact h2 x hx
theorem MAt.del [DecidableEq α] (h : MAt w k b n kf ok f) (K : KE k kv kf ok) {t e : TypeId} (ht : Tryd.prog.underlying t = some (.map k e)) {a : α} (ha : ok a) (ty : TypeId) :
    ∃ w', (Builtin.delete_ #[t, k] ty #[.map (some b), kv a]).run Tryd.prog w = .ok (.tuple #[]) w' ∧ MAt w' k b n kf ok (mset f a none) ∧ w.mapTurned w' b := by
  obtain ⟨D, h1, h2⟩ := h
  obtain ⟨w', hr, h3, h4⟩ := h1.drop K.keyed ht (K.key a ha) ty
  refine ⟨w', hr, ⟨_, h3, fun x hx => ?_⟩, h4⟩
  unfold mset
  by_cases e : x = a
  · subst e
    rw [if_pos rfl]
    exact Maps.atKey_del_same _
  · rw [if_neg e, Maps.atKey_del_other (fun q => e (K.inj' hx ha q))]
    exact h2 x hx
/-! at the operation, for the walk -/
variable {ops : Array Oper} {rest : List Oper} {o : Oper} {ac : Act} {Q : Exit → Act → World → Prop}
/-- 'v, ok := m[k]' -/
theorem wp_mlook (hg : o.guard = none) (m x : Operand) (t : TypeId) (hop : o.op = Op.lookup t m x true) (e : TypeId) (K : KE k kv kf ok) (ht : Tryd.prog.underlying t = some (.map k e)) {z : Value} (hz : (zeroValue e).run Tryd.prog w = .ok z w)
    (a : α) (ha : ok a) (hm : ac.eval m = .map (some b)) (h : MAt w k b n kf ok f) (hx : ac.eval x = kv a)
    (hK : wpList Tryd.prog ops Q rest (ac.put o.dst (.tuple #[(f a).getD z, .bool (f a).isSome])) w) : wpList Tryd.prog ops Q (o :: rest) ac w := by
  refine wpList_plain hg fun K' hK' => ?_
  have hrun := h.look K ht hz ha
  unfold Oper.wp
  simp [execOp, hop, hm, hx, hrun, Result.andThen]
  exact hK' _ _ hK
/-- 'm[k]' -/
theorem wp_mlook1 (hg : o.guard = none) (m x : Operand) (t : TypeId) (hop : o.op = Op.lookup t m x false) (e : TypeId) (K : KE k kv kf ok) (ht : Tryd.prog.underlying t = some (.map k e)) {z : Value} (hz : (zeroValue e).run Tryd.prog w = .ok z w)
    (a : α) (ha : ok a) (hm : ac.eval m = .map (some b)) (h : MAt w k b n kf ok f) (hx : ac.eval x = kv a)
    (hK : wpList Tryd.prog ops Q rest (ac.put o.dst ((f a).getD z)) w) : wpList Tryd.prog ops Q (o :: rest) ac w := by
  refine wpList_plain hg fun K' hK' => ?_
  have hrun := h.look1 K ht hz ha
  unfold Oper.wp
  simp [execOp, hop, hm, hx, hrun, Result.andThen]
  exact hK' _ _ hK
/-- 'm[k] = v' -/
theorem wp_mput [DecidableEq α] (hg : o.guard = none) (m x v : Operand) (t : TypeId) (hop : o.op = Op.mapUpdate t m x v) (e : TypeId) (K : KE k kv kf ok) (ht : Tryd.prog.underlying t = some (.map k e)) (hn : n < maxLen)
    (a : α) (ha : ok a) (val : Value) (hm : ac.eval m = .map (some b)) (h : MAt w k b n kf ok f) (hx : ac.eval x = kv a) (hv' : ac.eval v = val)
    (hK : ∀ w', MAt w' k b (n + 1) kf ok (mset f a (some val)) → w.mapTurned w' b → wpList Tryd.prog ops Q rest (ac.put o.dst undef) w') : wpList Tryd.prog ops Q (o :: rest) ac w := by
  refine wpList_plain hg fun K' hK' => ?_
  obtain ⟨w', hrun, r1, r2⟩ := h.put K ht hn ha val
  unfold Oper.wp
  simp [execOp, hop, hm, hx, hv', hrun, Result.andThen]
  exact hK' _ _ (hK w' r1 r2)
/-- 'delete(m, k)' -/
theorem wp_mdel [DecidableEq α] (hg : o.guard = none) (m x : Operand) (t : TypeId) (hop : o.op = Op.call { callee := Callee.builtin Builtin.delete, args := #[m, x], argTypes := #[t, k] }) (e : TypeId) (K : KE k kv kf ok) (ht : Tryd.prog.underlying t = some (.map k e))
    (a : α) (ha : ok a) (hm : ac.eval m = .map (some b)) (h : MAt w k b n kf ok f) (hx : ac.eval x = kv a)
    (hK : ∀ w', MAt w' k b n kf ok (mset f a none) → w.mapTurned w' b → wpList Tryd.prog ops Q rest (ac.put o.dst (.tuple #[])) w') : wpList Tryd.prog ops Q (o :: rest) ac w := by
  refine wpList_plain hg fun K' hK' => ?_
  obtain ⟨w', hrun, r1, r2⟩ := h.del K ht ha o.type
  unfold Oper.wp
  simp [execOp, hop, resolve, invoke, builtin, hm, hx, hrun, Result.andThen]
  exact hK' _ _ (hK w' r1 r2)
end
/-! the kinds of keys -/
def kStr (s : ByteArray) : Value := .string s
def lStr (s : ByteArray) : Lit := .string s.data.toList
theorem ke_str : KE 9 kStr lStr (fun s => s.size ≤ maxLen) := ⟨string_keyed Tryd.underlying9, fun a ha => by simp [kStr, lStr, keyOf, mapKey, Tryd.underlying9, ha], fun a b e => by injection e⟩
def kInt (x : Int) : Value := .int .i64 x
def lInt (x : Int) : Lit := .int .i64 x
def OkI (x : Int) : Prop := -9223372036854775808 ≤ x ∧ x ≤ 9223372036854775807
theorem wf_ok {x : Int} (h : OkI x) : (Lit.int .i64 x).wf = true := WalkArith.wf_i64 (by have := h.1; have := h.2; omega)
theorem ke_int : KE 3 kInt lInt OkI := ⟨int_keyed Tryd.underlying3, fun a ha => keyOf_int_mk Tryd.underlying3 (wf_ok ha), fun a b e => by injection e⟩
end Go.Proofs.YtlpibpkbgmcclaaDoor
