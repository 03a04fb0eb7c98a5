/- Pins in memory; what New, Count and Pin answer. -/
import Derived.Test.YtghcekhlohgkaaaPnCopy
import Derived.WideKeyEntry
import Derived.WideKeyPair
namespace Go.Proofs.Ytghcekhlohgkaaa
open Go.RowKit
set_option linter.unusedVariables false
def kPin (k : Int × Int) : Value := .agg #[.int .i64 k.1, .int .i64 k.2]
def lPin (k : Int × Int) : Lit := .string (keyBytes [.int .i64 k.1, .int .i64 k.2])
theorem pin_arr : WideMaps.ArrKey Try.prog 50 3 2 := ⟨Try.underlying50, by kernel_rfl, by kernel_rfl, by kernel_rfl⟩
theorem pin_types : ∃ m, Try.prog.types.size = m + 1 := by
  have h : (Try.prog.types.size == 0) = false := by kernel_rfl
  exact Nat.exists_eq_succ_of_ne_zero (by intro e; rw [e] at h; cases h)
theorem pin_law : WideMaps.KeyLaw Try.prog 50 := pin_arr.law
theorem ke_pin : KE 50 kPin lPin OkP := ⟨Go.Maps.Keyed.of_law pin_law, fun a ha => WideMaps.keyOf_pair pin_arr Try.underlying3 pin_types (wf_ok ha.1) (wf_ok ha.2), fun a b e => by
  obtain ⟨a1, a2⟩ := a
  obtain ⟨b1, b2⟩ := b
  simp [kPin] at e
  obtain ⟨rfl, rfl⟩ := e
  rfl⟩
/-- how many read, as the map has it -/
def rdM (R : Int × Int → Nat) : Int × Int → Option Value := fun k => if R k = 0 then none else some (.int .i64 (R k))
theorem rdM_get (R : Int × Int → Nat) (k : Int × Int) : (rdM R k).getD (.int .i64 0) = .int .i64 (R k) := by
  unfold rdM
  by_cases h : R k = 0 <;> simp [h]
theorem rdM_inc (R : Int × Int → Nat) (k : Int × Int) : mset (rdM R) k (some (.int .i64 ((R k : Int) + 1))) = rdM (inc R k) := by
  funext x
  unfold mset rdM inc
  by_cases h : x = k
  · subst h; simp
  · simp [h]
theorem rdM_dec (R : Int × Int → Nat) (k : Int × Int) (h2 : 2 ≤ R k) : mset (rdM R) k (some (.int .i64 ((R k : Int) - 1))) = rdM (dec R k) := by
  funext x
  unfold mset rdM dec
  by_cases h : x = k
  · subst h
    have : ¬ R x - 1 = 0 := by omega
    simp [this]
    omega
  · simp [h]
theorem rdM_del (R : Int × Int → Nat) (k : Int × Int) (h1 : R k = 1) : mset (rdM R) k none = rdM (dec R k) := by
  funext x
  unfold mset rdM dec
  by_cases h : x = k
  · subst h; simp [h1]
  · simp [h]
/-- an entry is taken, and written: 'm[k] op= v' -/
theorem MAt.entry {w : World} {k : TypeId} {b n : Nat} {α : Type} [DecidableEq α] {kv : α → Value} {kf : α → Lit} {ok : α → Prop} {f : α → Option Value} (h : MAt w k b n kf ok f) (K : KE k kv kf ok) (KL : WideMaps.KeyLaw Try.prog k) {t e : TypeId} (ht : Try.prog.underlying t = some (.map k e)) {z : Value} (hz : ∀ u : World, (zeroValue e).run Try.prog u = .ok z u) (hn : n < maxLen) {a : α} (ha : ok a) :
    ∃ v0 st w1 f1, (Instr.mapEntry t (.map (some b)) (kv a)).run Try.prog w = .ok (.tuple #[v0, .int .i64 (st : Nat)]) w1 ∧ w.mapTurned w1 b ∧ MAt w1 k b (n + 1) kf ok f1 ∧ (f1 a).getD z = (f a).getD z ∧
      ∀ val, ∃ w3, (Instr.entryStore t (.map (some b)) (.int .i64 (st : Nat)) val).run Try.prog w1 = .ok () w3 ∧ w.mapTurned w3 b ∧ MAt w3 k b (n + 1) kf ok (mset f a (some val)) := by
  have h0 := h
  obtain ⟨D, ⟨es, clock, hb, F, hsz, hD⟩, h2⟩ := h
  obtain ⟨v0, st, es1, clock1, r1, _, r2⟩ := WideElems.entry_then_store KL ht hz hb F (K.key a ha)
  have hl := h0.look1 K ht (hz w) ha
  have hmid : ∃ f1, MAt (ChangeMaps.setBlock w b (.map es1 clock1)) k b (n + 1) kf ok f1 ∧ (f1 a).getD z = (f a).getD z := by
    rcases KL.find w (K.key a ha) es.toList F.keys with ⟨q1, q2⟩ | ⟨j, e0, q1, q2, q3⟩
    · have e1 : (Instr.mapEntry t (.map (some b)) (kv a)).run Try.prog w = .ok (.tuple #[z, goInt clock]) (ChangeMaps.setBlock w b (.map (es.push ⟨kv a, z, clock⟩) (clock + 1))) := by
        simp [Instr.mapEntry, run_underlying ht, MapKept.run_getObj_map hb, KL.check w false (K.key a ha), q1, hz, MapKept.run_setObj_map _ hb, Result.andThen, ChangeMaps.setBlock]
      have e2 : (Instr.mapUpdate t (.map (some b)) (kv a) z).run Try.prog w = .ok () (ChangeMaps.setBlock w b (.map (es.push ⟨kv a, z, clock⟩) (clock + 1))) := by
        simp [Instr.mapUpdate, run_underlying ht, MapKept.run_getObj_map hb, KL.check w false (K.key a ha), q1, MapKept.run_setObj_map _ hb, Result.andThen, ChangeMaps.setBlock]
      rw [r1] at e1
      injection e1 with _ e1
      obtain ⟨w', r5, r6, r7⟩ := h0.put K ht hn ha z
      rw [e2] at r5
      injection r5 with _ r5
      subst r5
      rw [e1]
      refine ⟨_, r6, ?_⟩
      have e3 : (Instr.lookup t (.map (some b)) (kv a) false).run Try.prog w = .ok z w := by
        simp [Instr.lookup, run_underlying ht, MapKept.run_getObj_map hb, KL.check w _ (K.key a ha), q1, hz, Result.andThen]
      rw [hl] at e3
      injection e3 with e3
      rw [e3]
      simp [mset]
    · have hj : es[j]? = some e0 := by simpa using q2
      have hsame : es.modify j (fun e => { e with key := kv a }) = es := by
        apply Array.ext'
        rw [Array.toList_modify, ChangeMaps.modify_eq_set _ _ _ _ q2]
        have : ({ e0 with key := kv a } : MapEntry) = e0 := by rw [← q3]
        rw [this]
        exact WideElems.set_self _ _ _ q2
      have e1 : (Instr.mapEntry t (.map (some b)) (kv a)).run Try.prog w = .ok (.tuple #[e0.val, goInt e0.born]) (ChangeMaps.setBlock w b (.map es clock)) := by
        simp [Instr.mapEntry, run_underlying ht, MapKept.run_getObj_map hb, KL.check w false (K.key a ha), q1, hj, q3, KL.stays w (K.key a ha), hsame, MapKept.run_setObj_map _ hb, Result.andThen, ChangeMaps.setBlock]
      rw [r1] at e1
      injection e1 with _ e1
      rw [e1]
      exact ⟨f, (h0.mono (Nat.le_succ n)).keep ((ChangeMaps.heap_setBlock_same hb _).trans hb.symm), rfl⟩
  obtain ⟨f1, hm1, hf1⟩ := hmid
  refine ⟨v0, st, _, f1, r1, ⟨es, clock, es1, clock1, hb, rfl⟩, hm1, hf1, fun val => ?_⟩
  obtain ⟨es', clock', r3, r4⟩ := r2 (ChangeMaps.setBlock w b (.map es1 clock1)) val (ChangeMaps.heap_setBlock_same hb _)
  obtain ⟨w', r5, r6, r7⟩ := h0.put K ht hn ha val
  rw [r4] at r5
  injection r5 with _ r5
  subst r5
  have e : ChangeMaps.setBlock (ChangeMaps.setBlock w b (.map es1 clock1)) b (.map es' clock') = ChangeMaps.setBlock w b (.map es' clock') := by simp [ChangeMaps.setBlock]
  rw [e] at r3
  exact ⟨_, r3, r7, r6⟩
/-! as operations of a drawn region -/
theorem opw_look1 {o : Oper} {a : Act} {w : World} {K : Act → World → Prop} {Q : Exit → Act → World → Prop} (t : TypeId) (m x : Operand) (ho : o.op = .lookup t m x false) (M X v : Value) (hm : a.eval m = M) (hx : a.eval x = X)
    (hr : (Instr.lookup t M X false).run Try.prog w = .ok v w) (h : K (a.put o.dst v) w) : o.wp Try.prog a w K Q := by
  unfold Oper.wp execOp
  simp [ho, hm, hx, hr, Result.andThen]
  exact h
theorem opw_entry {o : Oper} {a : Act} {w w1 : World} {K : Act → World → Prop} {Q : Exit → Act → World → Prop} (t : TypeId) (m x : Operand) (ho : o.op = .mapEntry t m x) (M X v : Value) (hm : a.eval m = M) (hx : a.eval x = X)
    (hr : (Instr.mapEntry t M X).run Try.prog w = .ok v w1) (h : K (a.put o.dst v) w1) : o.wp Try.prog a w K Q := by
  unfold Oper.wp execOp
  simp [ho, hm, hx, hr, Result.andThen]
  exact h
theorem opw_estore {o : Oper} {a : Act} {w w1 : World} {K : Act → World → Prop} {Q : Exit → Act → World → Prop} (t : TypeId) (m s x : Operand) (ho : o.op = .entryStore t m s x) (M S X : Value) (hm : a.eval m = M) (hs : a.eval s = S) (hx : a.eval x = X)
    (hr : (Instr.entryStore t M S X).run Try.prog w = .ok () w1) (h : K (a.put o.dst undef) w1) : o.wp Try.prog a w K Q := by
  unfold Oper.wp execOp
  simp [ho, hm, hs, hx, hr, Result.andThen]
  exact h
theorem opw_delete {o : Oper} {a : Act} {w w1 : World} {K : Act → World → Prop} {Q : Exit → Act → World → Prop} (t k : TypeId) (m x : Operand) (ho : o.op = .call { callee := .builtin .delete, args := #[m, x], argTypes := #[t, k] }) (M X : Value) (hm : a.eval m = M) (hx : a.eval x = X)
    (hr : (Builtin.delete_ #[t, k] o.type #[M, X]).run Try.prog w = .ok (.tuple #[]) w1) (h : K (a.put o.dst (.tuple #[])) w1) : o.wp Try.prog a w K Q := by
  unfold Oper.wp execOp
  simp [ho, resolve, invoke, builtin, hm, hx, hr, Result.andThen]
  exact h
structure Pn where
  pb : Nat
  mb : Nat
  n : Nat
  v : Value
def Pn.own (P : Pn) (i : Nat) : Prop := i = P.pb ∨ i = P.mb ∨ P.v.ownBlock = some i
/-- pins in block pb: the map lies in block mb, what waits in v's row -/
structure PnAt (B : Nat) (w : World) (P : Pn) (R : Int × Int → Nat) (L : List VD) : Prop where
  box : w.heap[P.pb]? = some (.cells #[.map (some P.mb), P.v] 48 (0, 0))
  map : MAt w 50 P.mb P.n lPin OkP (rdM R)
  row : RowV B w P.v L
  lpb : B ≤ P.pb
  lmb : B ≤ P.mb
  few : ∀ k, R k ≤ P.n
section
variable {B : Nat} {w w' : World} {P : Pn} {R : Int × Int → Nat} {L : List VD}
theorem PnAt.lt (h : PnAt B w P R L) {i : Nat} (hi : P.own i) : i < w.heap.size := by
  rcases hi with rfl | rfl | hi
  · exact lt_of_block h.box
  · exact h.map.lt
  · exact (h.row.at hi).2.1
theorem PnAt.low (h : PnAt B w P R L) {i : Nat} (hi : P.own i) : B ≤ i := by
  rcases hi with rfl | rfl | hi
  · exact h.lpb
  · exact h.lmb
  · exact (h.row.at hi).1
theorem map_blk (h : MAt w 50 P.mb P.n lPin OkP (rdM R)) : ∃ es cl, w.heap[P.mb]? = some (.map es cl) := by obtain ⟨D, ⟨es, cl, hb, _⟩, _⟩ := h; exact ⟨es, cl, hb⟩
theorem PnAt.ne (h : PnAt B w P R L) : P.pb ≠ P.mb ∧ (∀ i, P.v.ownBlock = some i → i ≠ P.pb ∧ i ≠ P.mb) := by
  obtain ⟨es, cl, hm⟩ := map_blk h.map
  refine ⟨fun e => (by have := h.box; rw [e, hm] at this; cases this), fun i hi => ?_⟩
  obtain ⟨_, _, cur, hc⟩ := h.row.at hi
  refine ⟨fun e => ?_, fun e => ?_⟩
  · rw [e, h.box] at hc; injection hc with hc; injection hc with _ q; exact absurd q (by decide)
  · rw [e, hm] at hc; cases hc
theorem PnAt.mod {A A' : Nat → Prop} (h : PnAt B w P R L) (m : Mds B A w A' w') (hs : ∀ i, P.own i → ¬ A i) : PnAt B w' P R L :=
  ⟨(m.blk _ (h.lt (.inl rfl)) (hs _ (.inl rfl))).trans h.box, h.map.keep (m.blk _ (h.lt (.inr (.inl rfl))) (hs _ (.inr (.inl rfl)))), h.row.mod m fun i hi => hs i (.inr (.inr hi)), h.lpb, h.lmb, h.few⟩
theorem PnAt.below (h : PnAt B w P R L) (hb : Below w.heap.size w w') : PnAt B w' P R L :=
  ⟨(hb.block _ (h.lt (.inl rfl))).trans h.box, h.map.below hb, h.row.below hb, h.lpb, h.lmb, h.few⟩
/-- the map alone was turned -/
theorem PnAt.turned (h : PnAt B w P R L) (ht : w.mapTurned w' P.mb) {n : Nat} {R2 : Int × Int → Nat} (hm : MAt w' 50 P.mb n lPin OkP (rdM R2)) (hf : ∀ k, R2 k ≤ n) : PnAt B w' ⟨P.pb, P.mb, n, P.v⟩ R2 L ∧ Mds B P.own w (Pn.own ⟨P.pb, P.mb, n, P.v⟩) w' := by
  have hg := ht.grown
  have hM : Mds B P.own w (Pn.own ⟨P.pb, P.mb, n, P.v⟩) w' := by
    refine ⟨⟨hg.os, hg.tape, hg.output, hg.size, fun k hk => ?_⟩, hg.size, fun i hi hn => ?_, fun i cur fr hc => ?_, fun i hi => .inl hi⟩
    · have := h.lmb
      have hl := h.lt (.inl rfl)
      by_cases hkl : k < w.heap.size
      · exact hg.block k hkl (by simp; omega)
      · have := h.lpb; omega
    · exact hg.block i hi (by intro e; cases e; exact hn (.inr (.inl rfl)))
    · refine hg.block i (lt_of_block hc) ?_
      intro e; cases e
      obtain ⟨es, cl, hm⟩ := map_blk h.map
      rw [hm] at hc; cases hc
  have hq := h.ne
  have hb : ∀ i, i < w.heap.size → i ≠ P.mb → w'.heap[i]? = w.heap[i]? := fun i hi hn => hg.block i hi (by simpa using hn)
  obtain ⟨vs, hv1, hv2, hv3⟩ := h.row
  refine ⟨⟨(hb _ (h.lt (.inl rfl)) hq.1).trans h.box, hm, ⟨vs, hv1, row_keep hv2 fun i hi => hb i (own_at hv2 hi).2.1 (hq.2 i hi).2, fun x hx => (hv3 x hx).mod hM⟩, h.lpb, h.lmb, hf⟩, hM⟩
end
end Go.Proofs.Ytghcekhlohgkaaa
