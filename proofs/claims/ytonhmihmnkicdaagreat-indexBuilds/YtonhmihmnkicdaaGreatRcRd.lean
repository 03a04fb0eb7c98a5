/- Readers, with what is known of their errors; a volume that grows place by place. -/
import Derived.Test.YtonhmihmnkicdaaGreatRcW
import Derived.Test.YtonhmihmnkicdaaGreatRcRefW
import Derived.Test.YtonhmihmnkicdaaGreatPkRefs
namespace Go.Proofs.YtonhmihmnkicdaaGreat
open Go.RowKit
set_option linter.unusedVariables false
theorem rN_nil : rN ByteArray.empty = 0 := by decide
theorem rR_nil : rR ByteArray.empty = ByteArray.empty := by decide
theorem tT_nil : tT ByteArray.empty = ByteArray.empty := by decide
theorem tR_nil : tR ByteArray.empty = ByteArray.empty := by decide
theorem rR_err {s : ByteArray} (h : rE s ≠ 0) : rR s = ByteArray.empty := by unfold rR; rw [if_neg h]
theorem tR_err {s : ByteArray} (h : tE s ≠ 0) : tR s = ByteArray.empty := by unfold tR; rw [if_neg h]
/-- all blocks that were there, but one, are as they were -/
structure Ba (b : Nat) (w w' : World) : Prop where
  os : w'.os = w.os
  tape : w'.tape = w.tape
  output : w'.output = w.output
  size : w.heap.size ≤ w'.heap.size
  block : ∀ k, k < w.heap.size → k ≠ b → w'.heap[k]? = w.heap[k]?
theorem Ba.refl (b : Nat) (w : World) : Ba b w w := ⟨rfl, rfl, rfl, Nat.le_refl _, fun _ _ _ => rfl⟩
theorem Ba.trans {b : Nat} {u v w : World} (h : Ba b u v) (k : Ba b v w) : Ba b u w := ⟨k.os.trans h.os, k.tape.trans h.tape, k.output.trans h.output, Nat.le_trans h.size k.size, fun i hi hn => (k.block i (Nat.lt_of_lt_of_le hi h.size) hn).trans (h.block i hi hn)⟩
theorem But.ba {b : Nat} {w w' : World} (h : But b w w') : Ba b w w' := ⟨h.os, h.tape, h.output, by rw [h.size]; exact Nat.le_refl _, fun k _ hn => h.block k hn⟩
theorem ba_below {b : Nat} {w w' : World} (h : Below w.heap.size w w') : Ba b w w' := ⟨h.os, h.tape, h.output, h.size, fun k hk _ => h.block k hk⟩
theorem Ba.set {b c o : Nat} {a w : World} (h : Ba b a w) (hc : a.heap.size ≤ c) (u : Value) : Ba b a (w.setCell ⟨c, o, none⟩ u) :=
  ⟨h.os, h.tape, h.output, by simp [World.setCell]; exact h.size, fun k hk hn => (Below.heap_setCell _ _ _ _ (by show k ≠ c; omega)).trans (h.block k hk hn)⟩
theorem Ba.row {b c : Nat} {a w : World} (h : Ba b a w) (hc : a.heap.size ≤ c) (cs : Array Value) : Ba b a (w.setRow c cs) :=
  have q := below_setRow (Below.refl c w) (Nat.le_refl _) cs
  ⟨q.os.trans h.os, q.tape.trans h.tape, q.output.trans h.output, Nat.le_trans h.size q.size, fun k hk hn => (q.block k (by omega)).trans (h.block k hk hn)⟩
theorem Ba.alloc {b : Nat} {a w : World} (h : Ba b a w) (o : Obj) : Ba b a (w.alloc o) := h.trans (ba_below ((Below.refl _ _).alloc (Nat.le_refl _) o))
theorem Ba.below {b B : Nat} {w w' : World} (h : Ba b w w') (hB : B ≤ b) (hw : B ≤ w.heap.size) : Below B w w' := ⟨h.os, h.tape, h.output, h.size, fun k hk => h.block k (by omega) (by omega)⟩
theorem RBx.ba {bx b : Nat} {t : TypeId} {r : Rc} {a : Option Addr} {c : Nat} {w w' : World} (k : RBx bx t r a c w) (h : Ba b w w') (hne : bx ≠ b) : RBx bx t r a c w' := (h.block bx k.lt hne).trans k
theorem LocsAt.ba {w w' : World} {b : Nat} {a : Option Addr} {l : List (Int × Int)} (h : LocsAt w a l) (hb : Ba b w w') (hn : ∀ o, a ≠ some ⟨b, o, none⟩) : LocsAt w' a l := by
  rcases h with h | ⟨b1, o, ha, hlt, hc⟩
  · exact .inl h
  · have hne : b1 ≠ b := fun e => hn o (by rw [ha, e])
    have hbl := hb.block b1 hlt hne
    exact .inr ⟨b1, o, ha, Nat.lt_of_lt_of_le hlt hb.size, fun i x hx => ⟨(World.cell?_of_block (a := ⟨b1, o + i * 2, none⟩) hbl).trans (hc i x hx).1, (World.cell?_of_block (a := ⟨b1, o + i * 2 + 1, none⟩) hbl).trans (hc i x hx).2⟩⟩
/-- a reader: behind an error nothing is left; if C there was none -/
def RdC (C : Prop) (w : World) (b : Nat) (t : TypeId) (s : ByteArray) : Prop := ∃ e, RdAt w b t s e ∧ (e ≠ 0 → s = ByteArray.empty) ∧ (C → e = 0)
theorem RdC.lt {C : Prop} {w : World} {b : Nat} {t : TypeId} {s : ByteArray} (h : RdC C w b t s) : b < w.heap.size := by obtain ⟨e, h, _⟩ := h; exact h.lt
theorem RdC.keep {C : Prop} {w w' : World} {b : Nat} {t : TypeId} {s : ByteArray} (h : RdC C w b t s) (hb : w'.heap[b]? = w.heap[b]?) : RdC C w' b t s := by
  obtain ⟨e, h, k⟩ := h
  exact ⟨e, hb.trans h, k⟩
theorem RdC.below {C : Prop} {w w' : World} {b : Nat} {t : TypeId} {s : ByteArray} (h : RdC C w b t s) (hb : Below w.heap.size w w') : RdC C w' b t s := h.keep (hb.block b h.lt)
theorem RdC.away {C : Prop} {w : World} {b c o : Nat} {t : TypeId} {s : ByteArray} (h : RdC C w b t s) (hne : b ≠ c) (u : Value) : RdC C (w.setCell ⟨c, o, none⟩ u) b t s := h.keep (Below.heap_setCell _ _ _ _ hne)
/-- a volume in a block of its own, whose places grow one by one -/
structure Vb (w0 : World) (bp bv : Nat) (i g n : Int) (v : Value) (ls : List (Int × Int)) (w : World) : Prop where
  box : w.heap[bv]? = some (.cells #[.int .i64 i, .int .i64 g, .int .i64 n, v] 36 (0, 0))
  row : w.ownsRow w0.heap.size 84 2 v ls.length (lcV ls)
  ba : Ba bp w0 w
  own : w0.heap.size ≤ bv
  rd : bp < w0.heap.size
theorem Vb.ne {w0 w : World} {bp bv : Nat} {i g n : Int} {v : Value} {ls : List (Int × Int)} (h : Vb w0 bp bv i g n v ls w) {k : Nat} (hk : v.ownBlock = some k) : k ≠ bv ∧ w0.heap.size ≤ k ∧ ∃ cur, w.heap[k]? = some (.cells cur 84 (0, 0)) := by
  rcases h.row.2 with ⟨rfl, _⟩ | ⟨g', cap, cur, rfl, hB, hg, _⟩
  · simp [Value.ownBlock] at hk
  · obtain rfl : g' = k := by simpa [Value.ownBlock] using hk
    refine ⟨fun e => ?_, hB, cur, hg⟩
    rw [e, h.box] at hg
    simp at hg
theorem Vb.keep {w0 w w' : World} {bp bv : Nat} {i g n : Int} {v : Value} {ls : List (Int × Int)} (h : Vb w0 bp bv i g n v ls w) (hb : Ba bp w w') : Vb w0 bp bv i g n v ls w' := by
  have hlt : ∀ k, v.ownBlock = some k → w'.heap[k]? = w.heap[k]? := fun k hk => by
    obtain ⟨_, h2, cur, h3⟩ := h.ne hk
    exact hb.block k (lt_of_block h3) (by have := h.rd; omega)
  refine ⟨(hb.block bv (lt_of_block h.box) (by have := h.rd; have := h.own; omega)).trans h.box, ?_, h.ba.trans hb, h.own, h.rd⟩
  obtain ⟨hl, ⟨rfl, e⟩ | ⟨g', cap, cur, rfl, hB, hg, q⟩⟩ := h.row
  · exact ⟨hl, .inl ⟨rfl, e⟩⟩
  · exact ⟨hl, .inr ⟨g', cap, cur, rfl, hB, (hlt g' rfl).trans hg, q⟩⟩
/-- behind an append -/
theorem Vb.mid {w0 w w3 : World} {bp bv : Nat} {i g n : Int} {v : Value} {ls : List (Int × Int)} {o : Obj} (h : Vb w0 bp bv i g n v ls w) (hgr : (w.alloc o).grownBy w3 v.ownBlock) : w3.heap[bv]? = some (.cells #[.int .i64 i, .int .i64 g, .int .i64 n, v] 36 (0, 0)) ∧ Ba bp w0 w3 ∧ (∀ k, k < w.heap.size → (∀ cur, w.heap[k]? ≠ some (.cells cur 84 (0, 0))) → w3.heap[k]? = w.heap[k]?) ∧ w3.heap[bp]? = w.heap[bp]? := by
  have key : ∀ k, k < w.heap.size → some k ≠ v.ownBlock → w3.heap[k]? = w.heap[k]? := fun k hk hn => (hgr.block k (by rw [World.size_alloc]; omega) hn).trans (Below.heap_alloc _ _ _ hk)
  refine ⟨(key bv (lt_of_block h.box) fun e => (h.ne e.symm).1 rfl).trans h.box, ?_, fun k hk hn => key k hk fun e => ?_, key bp (Nat.lt_of_lt_of_le h.rd h.ba.size) fun e => ?_⟩
  · refine ⟨hgr.os.trans h.ba.os, hgr.tape.trans h.ba.tape, hgr.output.trans h.ba.output, ?_, fun k hk hn => ?_⟩
    · have := hgr.size; rw [World.size_alloc] at this; have := h.ba.size; omega
    · refine (key k (Nat.lt_of_lt_of_le hk h.ba.size) fun e => ?_).trans (h.ba.block k hk hn)
      have := (h.ne e.symm).2.1; omega
  · obtain ⟨_, _, cur, hc⟩ := h.ne e.symm
    exact hn cur hc
  · have := (h.ne e.symm).2.1; have := h.rd; omega
theorem Vb.step {w0 w w3 : World} {bp bv : Nat} {i g n x y : Int} {v v' : Value} {ls : List (Int × Int)} {o : Obj} (h : Vb w0 bp bv i g n v ls w) (hown : w3.ownsRow w0.heap.size 84 2 v' (ls.length + 1) (lcV ls ++ [.int .i64 x, .int .i64 y])) (hgr : (w.alloc o).grownBy w3 v.ownBlock) : Vb w0 bp bv i g n v' (ls ++ [(x, y)]) (w3.setCell ⟨bv, 3, none⟩ v') := by
  obtain ⟨h1, h2, _, _⟩ := h.mid hgr
  refine ⟨block_setCell _ h1, ?_, h2.set h.own _, h.own, h.rd⟩
  rw [lcV_snoc, List.length_append]
  obtain ⟨hl, ⟨rfl, e⟩ | ⟨g', cap, cur, rfl, hB, hg, q⟩⟩ := hown
  · exact ⟨hl, .inl ⟨rfl, e⟩⟩
  · refine ⟨hl, .inr ⟨g', cap, cur, rfl, hB, (Below.heap_setCell _ _ _ _ ?_).trans hg, q⟩⟩
    show g' ≠ bv
    intro e
    rw [e, h1] at hg
    simp at hg
/-- a block of places -/
def LocB (w : World) (b : Nat) : Prop := ∃ cur, w.heap[b]? = some (.cells cur 84 (0, 0))
theorem LocB.keep {w w' : World} {b : Nat} (h : LocB w b) (e : w'.heap[b]? = w.heap[b]?) : LocB w' b := by obtain ⟨c, h⟩ := h; exact ⟨c, e.trans h⟩
theorem LocB.lt {w : World} {b : Nat} (h : LocB w b) : b < w.heap.size := by obtain ⟨c, h⟩ := h; exact lt_of_block h
theorem LocB.below {w w' : World} {b : Nat} (h : LocB w b) (hb : Below w.heap.size w w') : LocB w' b := h.keep (hb.block b h.lt)
theorem wp_append_row {P : Program} {o : Oper} {a : Act} {w : World} {K : Act → World → Prop} {Q : Exit → Act → World → Prop} (B : Nat) (s x : Operand) (t : TypeId)
    (ho : o.op = .call { callee := .builtin .append, args := #[s, x], argTypes := #[t, t] })
    (e : TypeId) (i : TypeInfo) (z : Value) (size bytes : Nat) (ht : P.underlying t = some (.slice e)) (hi : P.info? e = some i) (hz : i.zero = some z)
    (hsize : i.size = size) (hby : i.bytes = bytes) (hzs : z.cells.size = size) (hsz : 0 < size)
    (v : Value) (n : Nat) (xs : List Value) (hs : a.eval s = v) (hown : w.ownsRow B e size v n xs)
    (ad : Addr) (m c : Nat) (news : List Value) (hx : a.eval x = .slice (some ad) m c) (hl : news.length = m * size) (hnews : ∀ j u, news[j]? = some u → w.cell? (ad.add j) = some u) (h1 : ∀ u ∈ news, u.oneCell' = true)
    (h63 : n + m ≤ maxLen) (hbytes : (n + m) * bytes ≤ 140737488355328) (hB : B ≤ w.heap.size)
    (h : ∀ v' w', w'.ownsRow B e size v' (n + m) (xs ++ news) → w.grownBy w' v.ownBlock → K (a.put o.dst v') w') : o.wp P a w K Q := by
  obtain ⟨v', w', hr, q1, q2, -, q3⟩ := run_append_own_at (P := P) w B t o.type e i z size bytes ht hi hz hsize hby hzs hsz v n xs hown ad m c news hl hnews h1 h63 hbytes hB
  unfold Oper.wp execOp
  simp only [ho, resolve, invoke, builtin, Sem.run_bind, Sem.run_pure, Result.andThen_ok, List.map_toArray, List.map_cons, List.map_nil, hs, hx, hr]
  exact h v' w' q1 q2
theorem own_alloc {w : World} {B z n : Nat} {e : TypeId} {v : Value} {xs : List Value} (h : w.ownsRow B e z v n xs) (o : Obj) : (w.alloc o).ownsRow B e z v n xs := own_below h ((Below.refl _ _).alloc (Nat.le_refl _) o)
theorem own_form {w : World} {B n : Nat} {e : TypeId} {v : Value} {xs : List Value} {z : Nat} (h : w.ownsRow B e z v n xs) : ∃ a c, v = .slice a n c ∧ n ≤ c := by
  rcases h.2 with ⟨rfl, rfl⟩ | ⟨g, cap, cur, rfl, _, _, hc, _⟩
  · exact ⟨none, 0, rfl, Nat.le_refl _⟩
  · exact ⟨_, cap, rfl, hc⟩
theorem Vb.locs {w0 w : World} {bp bv : Nat} {i g n : Int} {v : Value} {ls : List (Int × Int)} (h : Vb w0 bp bv i g n v ls w) : ∃ a c, v = .slice a ls.length c ∧ LocsAt w a ls ∧ (∀ b o, a = some ⟨b, o, none⟩ → w0.heap.size ≤ b) := by
  obtain ⟨hl, ⟨rfl, e⟩ | ⟨g', cap, cur, rfl, hB, hg, hc, hm, hs, ht⟩⟩ := h.row
  · exact ⟨none, 0, by rw [e], .inl (List.length_eq_zero_iff.1 e), fun b o q => by cases q⟩
  · refine ⟨_, cap, rfl, .inr ⟨g', 0, rfl, lt_of_block hg, fun i x hx => ?_⟩, fun b o q => by cases q; exact hB⟩
    have key : ∀ j u, (lcV ls)[j]? = some u → w.cell? ⟨g', 0 + j, none⟩ = some u := fun j u hu => by
      rw [Nat.zero_add, cell_of_block hg]
      rw [← ht, List.getElem?_take] at hu
      split at hu
      · rw [← hu, Array.getElem?_toList]
      · cases hu
    exact ⟨key _ _ (lcV_at hx).1, by rw [Nat.add_assoc]; exact key _ _ (lcV_at hx).2⟩
end Go.Proofs.YtonhmihmnkicdaaGreat
