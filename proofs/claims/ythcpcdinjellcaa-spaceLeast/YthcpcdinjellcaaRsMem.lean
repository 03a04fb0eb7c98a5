/- The document's space: a box with a row of places; who changes what. -/
import Derived.Test.YthcpcdinjellcaaCameSp
import Derived.Test.YthcpcdinjellcaaSpaceMarksWalk
namespace Go.Proofs.Ythcpcdinjellcaa
open Go.RowKit
set_option linter.unusedVariables false
/-- append to a row of one's own: of the old blocks none is changed but the one that the row lies in then -/
theorem run_append_keep {P : Program} (w : World) (base : Nat) (t ty e : TypeId) (i : TypeInfo) (z : Value) (size bytes : Nat) (ht : P.underlying t = some (.slice e)) (hi : P.info? e = some i) (hz : i.zero = some z)
    (hsize : i.size = size) (hby : i.bytes = bytes) (hzs : z.cells.size = size) (hsz : 0 < size)
    (v : Value) (n : Nat) (xs : List Value) (hown : w.ownsRow base e size v n xs)
    (a : Addr) (m c : Nat) (news : List Value) (hl : news.length = m * size) (hnews : ∀ j u, news[j]? = some u → w.cell? (a.add j) = some u) (h1 : ∀ u ∈ news, u.oneCell' = true)
    (h63 : n + m ≤ maxLen) (hbytes : (n + m) * bytes ≤ 140737488355328) (hbase : base ≤ w.heap.size) (hm : 0 < m) :
    ∃ v' w', (Builtin.append_ #[t, t] ty #[v, .slice (some a) m c]).run P w = .ok v' w' ∧ w'.ownsRow base e size v' (n + m) (xs ++ news) ∧ w.grownBy w' v.ownBlock ∧
      (v'.ownBlock = v.ownBlock ∨ v'.ownBlock = some w.heap.size) ∧ (∀ k, k < w.heap.size → v'.ownBlock ≠ some k → w'.heap[k]? = w.heap[k]?) ∧
      ∀ g n1 cap1, v = .slice (some ⟨g, 0, none⟩) n1 cap1 → v'.ownBlock = some g → ∃ n2, v' = .slice (some ⟨g, 0, none⟩) n2 cap1 := by
  obtain ⟨v', w', hr, q1, q2, _, q3⟩ := run_append_own_at (P := P) w base t ty e i z size bytes ht hi hz hsize hby hzs hsz v n xs hown a m c news hl hnews h1 h63 hbytes hbase
  have hown' := hown
  refine ⟨v', w', hr, q1, q2, q3, fun k hk hne => ?_, fun g n1 cap1 hv hg' => ?_⟩
  rotate_left
  · obtain ⟨hln, ⟨h1', _⟩ | ⟨g2, cap, cur, h1', hbg, hg, hnc, hcm, hcs, htake⟩⟩ := hown'
    · rw [hv] at h1'; cases h1'
    · rw [hv] at h1'
      injection h1' with ea en ec
      injection ea with ea
      injection ea with ea
      subst ea en ec hv hsize hby
      by_cases hroom : n1 + m ≤ cap1
      · have hfit : n1 * i.size + news.length ≤ cur.size := by rw [hl, hcs, ← Nat.add_mul]; exact Nat.mul_le_mul_right _ hroom
        have hq := run_append_room (P := P) w t ty e i ht hi g n1 cap1 cur hg a m c news hl hnews h1 hroom hfit
        rw [hr] at hq
        injection hq with e1 e2
        exact ⟨_, e1⟩
      · exfalso
        have h63' := h63
        unfold maxLen at h63'
        have holds : ∀ j u, xs[j]? = some u → w.cell? ((⟨g, 0, none⟩ : Addr).add j) = some u := fun j u hu => by
          rw [add_plain, Nat.zero_add, cell_of_block hg]
          rw [← htake, List.getElem?_take] at hu
          split at hu
          · rw [← hu, Array.getElem?_toList]
          · cases hu
        have hq := run_append_grow (P := P) w t ty e i z ht hi hz ⟨g, 0, none⟩ n1 cap1 xs hln holds a m c news hl hnews (by omega) (by omega) (growslice_fits (by omega) hbytes)
        rw [hr] at hq
        injection hq with e1 e2
        rw [e1] at hg'
        have h9 : w.heap.size = g := by simpa [Value.ownBlock] using hg'
        have := lt_of_block hg
        omega
  by_cases hv : v.ownBlock = some k
  · -- the row lay in block k, and lies elsewhere now: it has grown into a new block
    obtain ⟨hln, ⟨rfl, _⟩ | ⟨g, cap, cur, rfl, hbg, hg, hnc, hcm, hcs, htake⟩⟩ := hown
    · cases hv
    · obtain rfl : g = k := by simpa [Value.ownBlock] using hv
      subst hsize hby
      have h63' := h63
      unfold maxLen at h63'
      by_cases hroom : n + m ≤ cap
      · have hfit : n * i.size + news.length ≤ cur.size := by rw [hl, hcs, ← Nat.add_mul]; exact Nat.mul_le_mul_right _ hroom
        have hq := run_append_room (P := P) w t ty e i ht hi g n cap cur hg a m c news hl hnews h1 hroom hfit
        rw [hr] at hq
        injection hq with e1 e2
        rw [e1] at hne
        exact absurd rfl hne
      · have holds : ∀ j u, xs[j]? = some u → w.cell? ((⟨g, 0, none⟩ : Addr).add j) = some u := fun j u hu => by
          rw [add_plain, Nat.zero_add, cell_of_block hg]
          rw [← htake, List.getElem?_take] at hu
          split at hu
          · rw [← hu, Array.getElem?_toList]
          · cases hu
        have hq := run_append_grow (P := P) w t ty e i z ht hi hz ⟨g, 0, none⟩ n cap xs hln holds a m c news hl hnews (by omega) (by omega) (growslice_fits (by omega) hbytes)
        rw [hr] at hq
        injection hq with e1 e2
        rw [e2]
        exact Below.heap_alloc w.drew _ _ hk
  · exact q2.block k hk fun e => hv e.symm
/-- the same, as an operation -/
theorem wp_append_keep {P : Program} {o : Oper} {a : Act} {w : World} {K : Act → World → Prop} {Q : Exit → Act → World → Prop} (B : Nat) (s x : Operand) (t : TypeId)
    (ho : o.op = .call { callee := .builtin .append, args := #[s, x], argTypes := #[t, t] })
    (e : TypeId) (i : TypeInfo) (z : Value) (size bytes : Nat) (ht : P.underlying t = some (.slice e)) (hi : P.info? e = some i) (hz : i.zero = some z)
    (hsize : i.size = size) (hby : i.bytes = bytes) (hzs : z.cells.size = size) (hsz : 0 < size)
    (v : Value) (n : Nat) (xs : List Value) (hs : a.eval s = v) (hown : w.ownsRow B e size v n xs)
    (ad : Addr) (m c : Nat) (news : List Value) (hx : a.eval x = .slice (some ad) m c) (hl : news.length = m * size) (hnews : ∀ j u, news[j]? = some u → w.cell? (ad.add j) = some u) (h1 : ∀ u ∈ news, u.oneCell' = true)
    (h63 : n + m ≤ maxLen) (hbytes : (n + m) * bytes ≤ 140737488355328) (hB : B ≤ w.heap.size) (hm : 0 < m)
    (h : ∀ v' w', w'.ownsRow B e size v' (n + m) (xs ++ news) → w.grownBy w' v.ownBlock → (v'.ownBlock = v.ownBlock ∨ v'.ownBlock = some w.heap.size) → (∀ k, k < w.heap.size → v'.ownBlock ≠ some k → w'.heap[k]? = w.heap[k]?) → (∀ g n1 cap1, v = .slice (some ⟨g, 0, none⟩) n1 cap1 → v'.ownBlock = some g → ∃ n2, v' = .slice (some ⟨g, 0, none⟩) n2 cap1) → K (a.put o.dst v') w') : o.wp P a w K Q := by
  obtain ⟨v', w', hr, q1, q2, q3, q4, q5⟩ := run_append_keep (P := P) w B t o.type e i z size bytes ht hi hz hsize hby hzs hsz v n xs hown ad m c news hl hnews h1 h63 hbytes hB hm
  unfold Oper.wp execOp
  simp only [ho, resolve, invoke, builtin, Sem.run_bind, Sem.run_pure, Result.andThen_ok, List.map_toArray, List.map_cons, List.map_nil, hs, hx, hr]
  exact h v' w' q1 q2 q3 q4 q5
/-- the document's space in block rb -/
structure Rs (w : World) (rb : Nat) (v : Value) (L : List (Int × Int)) : Prop where
  box : w.heap[rb]? = some (.cells #[v] 29 (0, 0))
  row : w.ownsRow (rb + 1) 31 2 v L.length (lcV L)
/-- only the box and the row's own block were changed -/
structure Ru (rb : Nat) (v : Value) (w : World) (v' : Value) (w' : World) : Prop where
  os : w'.os = w.os
  tape : w'.tape = w.tape
  output : w'.output = w.output
  size : w.heap.size ≤ w'.heap.size
  blk : ∀ k, k < w.heap.size → k ≠ rb → v.ownBlock ≠ some k → w'.heap[k]? = w.heap[k]?
  own : ∀ k, v'.ownBlock = some k → v.ownBlock = some k ∨ w.heap.size ≤ k
theorem Ru.refl (rb : Nat) (v : Value) (w : World) : Ru rb v w v w := ⟨rfl, rfl, rfl, Nat.le_refl _, fun _ _ _ _ => rfl, fun _ h => .inl h⟩
theorem Ru.trans {rb : Nat} {v v1 v2 : Value} {u x w : World} (h : Ru rb v u v1 x) (k : Ru rb v1 x v2 w) : Ru rb v u v2 w :=
  ⟨k.os.trans h.os, k.tape.trans h.tape, k.output.trans h.output, Nat.le_trans h.size k.size, fun i hi hn hv => (k.blk i (Nat.lt_of_lt_of_le hi h.size) hn fun e => by rcases h.own i e with q | q; exact hv q; omega).trans (h.blk i hi hn hv),
    fun i hi => by
      rcases k.own i hi with q | q
      · exact h.own i q
      · exact .inr (Nat.le_trans h.size q)⟩
theorem Ru.of_below {rb : Nat} {v : Value} {w w' : World} (h : Below w.heap.size w w') : Ru rb v w v w' := ⟨h.os, h.tape, h.output, h.size, fun k hk _ _ => h.block k hk, fun _ h => .inl h⟩
theorem Rs.keep {w w' : World} {rb : Nat} {v : Value} {L : List (Int × Int)} (h : Rs w rb v L) (hs : ∀ k, k = rb ∨ v.ownBlock = some k → w'.heap[k]? = w.heap[k]?) : Rs w' rb v L := by
  refine ⟨(hs rb (.inl rfl)).trans h.box, ?_⟩
  obtain ⟨hl, ⟨rfl, hz⟩ | ⟨g, cap, cur, rfl, hB, hg, hc, hm, hss, ht⟩⟩ := h.row
  · exact ⟨hl, .inl ⟨rfl, hz⟩⟩
  · exact ⟨hl, .inr ⟨g, cap, cur, rfl, hB, (hs g (.inr rfl)).trans hg, hc, hm, hss, ht⟩⟩
theorem own_lt {w : World} {B z n k : Nat} {e : TypeId} {v : Value} {xs : List Value} (h : w.ownsRow B e z v n xs) (hk : v.ownBlock = some k) : k < w.heap.size ∧ ∃ cur, w.heap[k]? = some (.cells cur e (0, 0)) := by
  obtain ⟨_, ⟨rfl, _⟩ | ⟨g, cap, cur, rfl, _, hg, _⟩⟩ := h
  · cases hk
  · obtain rfl : g = k := by simpa [Value.ownBlock] using hk
    exact ⟨lt_of_block hg, cur, hg⟩
theorem Rs.lt {w : World} {rb : Nat} {v : Value} {L : List (Int × Int)} (h : Rs w rb v L) : rb < w.heap.size := lt_of_block h.box
theorem Rs.below {w w' : World} {rb : Nat} {v : Value} {L : List (Int × Int)} (h : Rs w rb v L) (hb : Below w.heap.size w w') : Rs w' rb v L :=
  h.keep fun k hk => hb.block k (by rcases hk with rfl | q; exact h.lt; exact (own_lt h.row q).1)
theorem Rs.form {w : World} {rb : Nat} {v : Value} {L : List (Int × Int)} (h : Rs w rb v L) : ∃ a c, v = .slice a L.length c ∧ L.length ≤ c ∧ c ≤ 9223372036854775807 ∧ LocsAt w a L := by
  obtain ⟨a, c, e, h1, h2⟩ := own_form h.row
  refine ⟨a, c, e, h1, h2, ?_⟩
  subst e
  exact (own_locsB (b := 0) h.row rfl (by omega)).1.1
theorem Rs.c0 {w : World} {rb : Nat} {v : Value} {L : List (Int × Int)} (h : Rs w rb v L) : w.cell? ⟨rb, 0, none⟩ = some v := cell_of_block h.box
theorem Rs.f0 {w : World} {rb : Nat} {v : Value} {L : List (Int × Int)} (h : Rs w rb v L) : w.frozen? ⟨rb, 0, none⟩ = false := free_of_block h.box
/-- one more place -/
theorem Rs.push {w w1 : World} {rb : Nat} {v v' : Value} {L : List (Int × Int)} {x : Int × Int} {W : World} (h : Rs w rb v L) (hW : Below w.heap.size w W) (hown : w1.ownsRow (rb + 1) 31 2 v' (L.length + 1) (lcV L ++ [.int .i64 x.1, .int .i64 x.2])) (hgr : W.grownBy w1 v.ownBlock) (hat : v'.ownBlock = v.ownBlock ∨ v'.ownBlock = some W.heap.size) :
    w1.heap[rb]? = some (.cells #[v] 29 (0, 0)) ∧ Rs (w1.setCell ⟨rb, 0, none⟩ v') rb v' (L ++ [x]) ∧ Ru rb v w v' (w1.setCell ⟨rb, 0, none⟩ v') := by
  have hlt := h.lt
  have hne : v.ownBlock ≠ some rb := fun e => by have := row_base h.row e; omega
  have hb : w1.heap[rb]? = some (.cells #[v] 29 (0, 0)) := (hgr.block rb (Nat.lt_of_lt_of_le hlt hW.size) (fun e => hne e.symm)).trans ((hW.block rb hlt).trans h.box)
  refine ⟨hb, ⟨block_setCell (c := #[v]) v' hb, ?_⟩, ?_⟩
  · rw [lcV_snoc, List.length_append]
    obtain ⟨hl, ⟨rfl, hz⟩ | ⟨g, cap, cur, rfl, hB, hg, hc, hm, hss, ht⟩⟩ := hown
    · exact ⟨hl, .inl ⟨rfl, hz⟩⟩
    · exact ⟨hl, .inr ⟨g, cap, cur, rfl, hB, (Below.heap_setCell _ _ _ _ (by show g ≠ rb; omega)).trans hg, hc, hm, hss, ht⟩⟩
  · refine ⟨hgr.os.trans hW.os, hgr.tape.trans hW.tape, hgr.output.trans hW.output, ?_, fun k hk hn hv => ?_, fun k hk => ?_⟩
    · have h1 := hgr.size
      have h2 := hW.size
      simp [World.setCell]; omega
    · exact (Below.heap_setCell _ _ _ _ (by show k ≠ rb; exact hn)).trans ((hgr.block k (Nat.lt_of_lt_of_le hk hW.size) (fun e => hv e.symm)).trans (hW.block k hk))
    · rcases hat with e | e
      · exact .inl (by rw [← e]; exact hk)
      · rw [e] at hk; cases hk; exact .inr hW.size
/-- a row that was, the begin of what the row is now, is kept -/
def Was (rb : Nat) (v : Value) (L : List (Int × Int)) (w : World) (v' : Value) (L' : List (Int × Int)) (w' : World) : Prop :=
  ∀ v0 L0, w.ownsRow (rb + 1) 31 2 v0 (List.length L0) (lcV L0) → (∀ g, v0.ownBlock = some g → v.ownBlock = some g → L0 <+: L) →
    w'.ownsRow (rb + 1) 31 2 v0 L0.length (lcV L0) ∧ ∀ g, v0.ownBlock = some g → v'.ownBlock = some g → L0 <+: L'
theorem Was.trans {rb : Nat} {v v1 v2 : Value} {L L1 L2 : List (Int × Int)} {u x w : World} (h : Was rb v L u v1 L1 x) (k : Was rb v1 L1 x v2 L2 w) : Was rb v L u v2 L2 w := fun v0 L0 h0 hp => by
  obtain ⟨h1, h2⟩ := h v0 L0 h0 hp
  exact k v0 L0 h1 h2
theorem Was.of_below {rb : Nat} {v : Value} {L : List (Int × Int)} {w w' : World} (h : Below w.heap.size w w') : Was rb v L w v L w' := fun v0 L0 h0 hp => ⟨own_below h0 h, hp⟩
theorem Was.push {w w1 : World} {rb : Nat} {v v' : Value} {L : List (Int × Int)} {x : Int × Int} {W : World} (h : Rs w rb v L) (hW : Below w.heap.size w W) (hown : w1.ownsRow (rb + 1) 31 2 v' (L.length + 1) (lcV L ++ [.int .i64 x.1, .int .i64 x.2])) (hat : v'.ownBlock = v.ownBlock ∨ v'.ownBlock = some W.heap.size)
    (hkp : ∀ k, k < W.heap.size → v'.ownBlock ≠ some k → w1.heap[k]? = W.heap[k]?) (hcp : ∀ g n1 cap1, v = .slice (some ⟨g, 0, none⟩) n1 cap1 → v'.ownBlock = some g → ∃ n2, v' = .slice (some ⟨g, 0, none⟩) n2 cap1) :
    Was rb v L w v' (L ++ [x]) (w1.setCell ⟨rb, 0, none⟩ v') := by
  intro v0 L0 h0 hp
  have hset : ∀ g, g ≠ rb → (w1.setCell ⟨rb, 0, none⟩ v').heap[g]? = w1.heap[g]? := fun g hg => Below.heap_setCell _ _ _ _ hg
  obtain ⟨hl, ⟨rfl, hz⟩ | ⟨g, cap, cur, rfl, hB, hg, hc, hm, hs, ht⟩⟩ := h0
  · exact ⟨⟨hl, .inl ⟨rfl, hz⟩⟩, fun g hg => by cases hg⟩
  · have hgl := lt_of_block hg
    by_cases hv' : v'.ownBlock = some g
    · -- the row has grown where it lay
      have hvg : v.ownBlock = some g := by
        rcases hat with e | e
        · rw [← e]; exact hv'
        · rw [e] at hv'; cases hv'; have := hW.size; omega
      have hpre := hp g rfl hvg
      obtain ⟨_, ⟨rfl, _⟩ | ⟨g2, cap2, cur2, rfl, _, hg2, _, _, hs2, _⟩⟩ := h.row
      · cases hvg
      · obtain rfl : g2 = g := by simpa [Value.ownBlock] using hvg
        obtain ⟨n2, rfl⟩ := hcp g2 _ cap2 rfl hv'
        obtain ⟨_, ⟨h9, _⟩ | ⟨g3, cap3, cur3, h9, _, hg3, _, _, hs3, ht3⟩⟩ := hown
        · cases h9
        · injection h9 with ea en ec
          injection ea with ea
          injection ea with ea
          subst ea ec
          rw [hg] at hg2
          injection hg2 with hg2
          injection hg2 with hcur
          subst hcur
          have hcc : cap = cap2 := by omega
          subst hcc
          refine ⟨⟨hl, .inr ⟨g2, cap, cur3, rfl, hB, (hset g2 (by omega)).trans hg3, hc, hm, hs3, ?_⟩⟩, fun q hq _ => ?_⟩
          · obtain ⟨r, rfl⟩ := hpre
            have e1 : lcV (L0 ++ r) = lcV L0 ++ lcV r := by unfold lcV; rw [List.flatMap_append]
            have e2 : cur3.toList.take (L0.length * 2) = (cur3.toList.take ((L0 ++ r).length * 2 + 2)).take (L0.length * 2) := by rw [List.take_take]; congr 1; rw [List.length_append]; omega
            rw [e2, show (L0 ++ r).length * 2 + 2 = ((L0 ++ r).length + 1) * 2 by omega, ht3, e1, List.append_assoc, ← hl]
            exact List.take_left
          · exact List.IsPrefix.trans hpre (List.prefix_append _ _)
    · refine ⟨⟨hl, .inr ⟨g, cap, cur, rfl, hB, (hset g (by omega)).trans ((hkp g (Nat.lt_of_lt_of_le hgl hW.size) hv').trans ((hW.block g hgl).trans hg)), hc, hm, hs, ht⟩⟩, fun q hq hq2 => ?_⟩
      obtain rfl : g = q := by simpa [Value.ownBlock] using hq
      exact absurd hq2 hv'
end Go.Proofs.Ythcpcdinjellcaa
