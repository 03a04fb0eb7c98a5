/- One more volume waits: what append and the store leave. -/
import Derived.Test.YtghcekhlohgkaaaPnUnpin
import Derived.Maps.AppendAt
import Derived.Lib.QuietBelow
import Derived.Laws.StructEq
import Derived.Laws.Tables
namespace Go.Proofs.Ytghcekhlohgkaaa
open Go.RowKit
set_option linter.unusedVariables false
/-- append to a row of one's own as an operation of a drawn region, with where the row lies then -/
theorem opw_append {P : Program} {o : Oper} {a : Act} {w : World} {K : Act → World → Prop} {Q : Exit → Act → World → Prop} (B : Nat) (s x : Operand) (t : TypeId)
    (ho : o.op = .call { callee := .builtin .append, args := #[s, x], argTypes := #[t, t] })
    (e : TypeId) (i : TypeInfo) (z : Value) (size bytes : Nat) (ht : P.underlying t = some (.slice e)) (hi : P.info? e = some i) (hz : i.zero = some z)
    (hsize : i.size = size) (hby : i.bytes = bytes) (hzs : z.cells.size = size) (hsz : 0 < size)
    (v : Value) (n : Nat) (xs : List Value) (hs : a.eval s = v) (hown : w.ownsRow B e size v n xs)
    (ad : Addr) (m c : Nat) (news : List Value) (hx : a.eval x = .slice (some ad) m c) (hl : news.length = m * size) (hnews : ∀ j u, news[j]? = some u → w.cell? (ad.add j) = some u) (h1 : ∀ u ∈ news, u.oneCell' = true)
    (h63 : n + m ≤ maxLen) (hbytes : (n + m) * bytes ≤ 140737488355328) (hB : B ≤ w.heap.size)
    (h : ∀ v' w', w'.ownsRow B e size v' (n + m) (xs ++ news) → w.grownBy w' v.ownBlock → (v'.ownBlock = v.ownBlock ∨ v'.ownBlock = some w.heap.size) → K (a.put o.dst v') w') : o.wp P a w K Q := by
  obtain ⟨v', w', hr, q1, q2, -, q3⟩ := run_append_own_at (P := P) w B t o.type e i z size bytes ht hi hz hsize hby hzs hsz v n xs hown ad m c news hl hnews h1 h63 hbytes hB
  unfold Oper.wp execOp
  simp only [ho, resolve, invoke, builtin, Sem.run_bind, Sem.run_pure, Result.andThen_ok, List.map_toArray, List.map_cons, List.map_nil, hs, hx, hr]
  exact h v' w' q1 q2 q3
section
variable {B : Nat} {w : World} {P : Pn} {R : Int × Int → Nat} {L : List VD}
theorem PnAt.push (h : PnAt B w P R L) {vs : List Vo} (hv1 : vs.map Vo.d = L) (hv2 : w.ownsRow B 33 4 P.v vs.length (voV vs)) (hv3 : ∀ x ∈ vs, LocsK B w x.a x.d.ls) (x : Vo) (hx : LocsK B w x.a x.d.ls) {o : Obj} {w1 : World} {v' : Value}
    (hown : w1.ownsRow B 33 4 v' (vs.length + 1) (voV vs ++ voC x)) (hgr : (w.alloc o).grownBy w1 P.v.ownBlock) (hat : v'.ownBlock = P.v.ownBlock ∨ v'.ownBlock = some (w.alloc o).heap.size) :
    (w1.cell? ⟨P.pb, 1, none⟩ = some P.v ∧ w1.frozen? ⟨P.pb, 1, none⟩ = false) ∧ PnAt B (w1.setCell ⟨P.pb, 1, none⟩ v') ⟨P.pb, P.mb, P.n, v'⟩ R (L ++ [x.d]) ∧ Mds B P.own w (Pn.own ⟨P.pb, P.mb, P.n, v'⟩) (w1.setCell ⟨P.pb, 1, none⟩ v') ∧ Mds B P.own w P.own w1 := by
  have hpl := h.lt (.inl rfl)
  have hml := h.lt (.inr (.inl rfl))
  have hne := h.ne
  have hb : ∀ i, i < w.heap.size → P.v.ownBlock ≠ some i → w1.heap[i]? = w.heap[i]? := fun i hi hn => (hgr.block i (by rw [World.size_alloc]; omega) (fun e => hn e.symm)).trans (Below.heap_alloc _ _ _ hi)
  have hsz : w.heap.size ≤ w1.heap.size := by have := hgr.size; rw [World.size_alloc] at this; omega
  have hpb : w1.heap[P.pb]? = some (.cells #[.map (some P.mb), P.v] 48 (0, 0)) := (hb _ hpl (fun e => (hne.2 _ e).1 rfl)).trans h.box
  have hBw : B ≤ w.heap.size := by have := h.lpb; omega
  have hM1 : Mds B P.own w P.own w1 := by
    refine ⟨⟨hgr.os, hgr.tape, hgr.output, hsz, fun k hk => hb k (by omega) (fun e => by have := (own_at hv2 e).1; omega)⟩, hsz, fun i hi hn => hb i hi (fun e => hn (.inr (.inr e))), fun i cur fr hc => hb i (lt_of_block hc) (fun e => ?_), fun i hi => .inl hi⟩
    obtain ⟨_, _, cur2, hc2⟩ := own_at hv2 e
    rw [hc2] at hc; injection hc with hc; injection hc with _ q; exact absurd q (by decide)
  have hset : ∀ k, k ≠ P.pb → (w1.setCell ⟨P.pb, 1, none⟩ v').heap[k]? = w1.heap[k]? := fun k hk => Below.heap_setCell _ _ _ _ hk
  have hvne : ∀ i, v'.ownBlock = some i → i ≠ P.pb := fun i hi => by
    rcases hat with q | q
    · rw [q] at hi; exact (hne.2 i hi).1
    · rw [q] at hi; cases hi; rw [World.size_alloc]; omega
  have hM2 : Mds B P.own w (Pn.own ⟨P.pb, P.mb, P.n, v'⟩) (w1.setCell ⟨P.pb, 1, none⟩ v') := by
    refine ⟨⟨hM1.bel.os, hM1.bel.tape, hM1.bel.output, by simp [World.setCell]; omega, fun k hk => (hset k (by have := h.lpb; omega)).trans (hM1.bel.block k hk)⟩, by simp [World.setCell]; omega, fun i hi hn => (hset i (fun e => hn (.inl e))).trans (hM1.blk i hi hn), fun i cur fr hc => (hset i (fun e => ?_)).trans (hM1.loc i cur fr hc), fun i hi => ?_⟩
    · rw [e, h.box] at hc; injection hc with hc; injection hc with _ q; exact absurd q (by decide)
    · rcases hi with e | e | e
      · exact .inl (.inl e)
      · exact .inl (.inr (.inl e))
      · rcases hat with q | q
        · exact .inl (.inr (.inr (q ▸ e)))
        · have e' : v'.ownBlock = some i := e
          rw [q] at e'; cases e'; right; rw [World.size_alloc]; omega
  refine ⟨⟨cell_of_block hpb, free_of_block hpb⟩, ⟨block_setCell (c := #[.map (some P.mb), P.v]) v' hpb, ?_, ?_, h.lpb, h.lmb, h.few⟩, hM2, hM1⟩
  · exact h.map.keep ((hset _ (fun e => hne.1 e.symm)).trans (hb _ hml (fun e => (hne.2 _ e).2 rfl)))
  · obtain ⟨vs2, q1, q2, q3⟩ := RowV.push vs hv1 hv3 hx hv2 hown hgr
    refine ⟨vs2, q1, row_keep q2 fun i hi => hset i (hvne i hi), fun y hy => ?_⟩
    rcases q3 y hy with q | ⟨b, o', e1, e2, e3, e4⟩
    · exact .inl q
    · have hbn : b ≠ P.pb := fun e => by
        rcases e3 with q | ⟨cur, fr, q⟩
        · have := h.lpb; omega
        · rw [e, hpb] at q; injection q with q; injection q with _ q; exact absurd q (by decide)
      have hc : ∀ p, (w1.setCell ⟨P.pb, 1, none⟩ v').cell? ⟨b, p, none⟩ = w1.cell? ⟨b, p, none⟩ := fun p => by unfold World.cell?; rw [hset b hbn]
      refine .inr ⟨b, o', e1, by simp [World.setCell]; omega, ?_, fun i z hz => ⟨(hc _).trans (e4 i z hz).1, (hc _).trans (e4 i z hz).2⟩⟩
      rcases e3 with q | ⟨cur, fr, q⟩
      · exact .inl q
      · exact .inr ⟨cur, fr, (hset b hbn).trans q⟩
end
theorem pin_eq (a b c d : Int) (w : World) : (Op.equalIn 10000 50 (.agg #[.int .i64 a, .int .i64 b]) (.agg #[.int .i64 c, .int .i64 d])).run Try.prog w = .ok (a == c && b == d) w := by
  have u3 := Try.underlying3
  have a3 := Try.isAgg3
  have z3 := Try.sizeOf3
  rw [show (10000 : Nat) = 9999 + 1 from rfl, Op.equalIn]
  simp only [Sem.run_bind, run_underlying Try.underlying50, Result.andThen_ok]
  simp only [Std.Legacy.Range.forIn_eq_forIn_range', Std.Legacy.Range.size, Nat.sub_zero, Nat.add_sub_cancel, Nat.div_one, List.range'_succ, List.range'_zero, List.forIn_cons, List.forIn_nil]
  go_simp
  by_cases h1 : a = c <;> by_cases h2 : b = d <;> simp [h1, h2]
theorem pinOf_q (i g n : Int) (v : Value) (wr : World) : ∀ q os, Calls Try.prog 22 #[.agg #[.int .i64 i, .int .i64 g, .int .i64 n, v]] (Go.Sort.grow (redrawn wr q) os) fun e w'' => e = .returned (.agg #[.int .i64 i, .int .i64 g]) ∧ ∃ p : Regrown, w'' = Go.Sort.grow (redrawn wr p.d) p.os := fun q os => Calls.regrown_of (pinOf_any i g n v _)
end Go.Proofs.Ytghcekhlohgkaaa
