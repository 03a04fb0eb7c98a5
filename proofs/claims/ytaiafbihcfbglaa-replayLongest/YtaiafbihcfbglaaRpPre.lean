/- Rows of records that grow, each with places of its own: what both Prefix keep from round to round, and what they leave. -/
import Derived.Test.YtaiafbihcfbglaaRcRead
import Derived.Test.YtaiafbihcfbglaaRpTold
import Derived.Test.YtaiafbihcfbglaaRpMath
import Derived.Test.YtaiafbihcfbglaaRpMissing
namespace Go.Proofs.Ytaiafbihcfbglaa
open Go.RowKit
set_option linter.unusedVariables false
theorem fold_rcs (r : Rc) (a : Option Addr) (c : Nat) : Array.foldl (fun cs x => cs.setIfInBounds x.snd x.fst) #[.int .i64 0, .int .i64 0, .int .i64 0, .int .i64 0, .int .i64 0, .slice none 0 0, .string { data := #[] }, .int .i64 0, .int .i64 0, .int .i64 0, .string { data := #[] }, .string { data := #[] }, .int .i64 0, .int .i64 0] (rcs r a c).zipIdx 0 (rcs r a c).size = rcs r a c := by simp [rcs]
theorem fold_14 (r : Rc) (a : Option Addr) (c : Nat) : Array.foldl (fun cs x => cs.setIfInBounds x.snd x.fst) #[.int .i64 0, .int .i64 0, .int .i64 0, .int .i64 0, .int .i64 0, .slice none 0 0, .string { data := #[] }, .int .i64 0, .int .i64 0, .int .i64 0, .string { data := #[] }, .string { data := #[] }, .int .i64 0, .int .i64 0] (rcs r a c).zipIdx 0 14 = rcs r a c := by simp [rcs]
/-- a record's places lie where they should, in a block of places that is not older than B -/
def PlOk (B : Nat) (w : World) (x : RT) : Prop := LocsAt w x.2.1 x.1.ls ∧ ∀ b o, x.2.1 = some ⟨b, o, none⟩ → B ≤ b ∧ LocB w b
theorem PlOk.keep {B : Nat} {w w' : World} {x : RT} (h : PlOk B w x) (hz : w.heap.size ≤ w'.heap.size) (hk : ∀ b, LocB w b → w'.heap[b]? = w.heap[b]?) : PlOk B w' x :=
  ⟨h.1.keep hz fun b o q hl => hk b (h.2 b o q).2, fun b o q => ⟨(h.2 b o q).1, (h.2 b o q).2.keep (hk b (h.2 b o q).2)⟩⟩
theorem PlOk.below {B : Nat} {w w' : World} {x : RT} (h : PlOk B w x) (hb : Below w.heap.size w w') : PlOk B w' x := h.keep hb.size fun b q => hb.block b q.lt
/-- a block of places is no row of another type: what append does to that row leaves it alone -/
theorem loc_append {W w3 : World} {B z n : Nat} {t : TypeId} {v : Value} {xs : List Value} {o : Obj} (ht : t ≠ 92) (h : W.ownsRow B t z v n xs) (hgr : (W.alloc o).grownBy w3 v.ownBlock) {b : Nat} (hb : LocB W b) : w3.heap[b]? = W.heap[b]? := by
  refine (hgr.block b (by rw [World.size_alloc]; have := hb.lt; omega) fun e => ?_).trans (Below.heap_alloc _ _ _ hb.lt)
  obtain ⟨_, ⟨rfl, _⟩ | ⟨g, cap, cur, rfl, _, hg, _⟩⟩ := h
  · simp [Value.ownBlock] at e
  · have : b = g := by simpa [Value.ownBlock] using e
    subst this
    obtain ⟨c, hc⟩ := hb
    rw [hg] at hc
    simp at hc
    exact ht hc.2
/-- what is known when k sectors were read, and all were records of their places -/
structure PfI (w wr : World) (t : TypeId) (ss : List ByteArray) (v : Value) (k : Nat) (l : List RT) : Prop where
  len : l.length = k
  le : k ≤ ss.length
  recs : l.map Prod.fst = (ss.take k).map rdC
  ok : ∀ j s, j < k → ss[j]? = some s → okF j s
  gr : GR w wr t 14 v k (rtV l)
  pl : ∀ x ∈ l, PlOk w.heap.size wr x
theorem PfI.nil (w wr : World) (t : TypeId) (ss : List ByteArray) (h : Below w.heap.size w wr) : PfI w wr t ss (.slice none 0 0) 0 [] :=
  ⟨rfl, by omega, rfl, fun j s hj => by omega, GR.nil w wr t 14 h, fun x hx => by simp at hx⟩
theorem PfI.below {w wr w' : World} {t : TypeId} {ss : List ByteArray} {v : Value} {k : Nat} {l : List RT} (h : PfI w wr t ss v k l) (hb : Below wr.heap.size wr w') : PfI w w' t ss v k l :=
  ⟨h.len, h.le, h.recs, h.ok, h.gr.below hb, fun x hx => (h.pl x hx).below hb⟩
theorem pf_recs {ss : List ByteArray} {k : Nat} {l : List RT} {s : ByteArray} {a : Option Addr} {c : Nat} (h : l.map Prod.fst = (ss.take k).map rdC) (hs : ss[k]? = some s) : (l ++ [(rdC s, a, c)]).map Prod.fst = (ss.take (k + 1)).map rdC := by
  rw [List.map_append, h, List.take_add_one, hs]
  simp
theorem pf_ok {ss : List ByteArray} {k : Nat} {s : ByteArray} (h : ∀ j s, j < k → ss[j]? = some s → okF j s) (hs : ss[k]? = some s) (ho : okF k s) : ∀ j s, j < k + 1 → ss[j]? = some s → okF j s := fun j u hj hu => by
  by_cases e : j = k
  · subst e; rw [hs] at hu; cases hu; exact ho
  · exact h j u (by omega) hu
theorem PfI.step {w W w3 : World} {t : TypeId} {ss : List ByteArray} {v v' : Value} {k : Nat} {l : List RT} {s : ByteArray} {a : Option Addr} {c : Nat} {o : Obj} (h : PfI w W t ss v k l) (ht : t ≠ 92) (hs : ss[k]? = some s) (ho : okF k s) (hp : PlOk w.heap.size W (rdC s, a, c)) (hown : w3.ownsRow w.heap.size t 14 v' (k + 1) (rtV l ++ (rtC (rdC s, a, c)).toList)) (hgr : (W.alloc o).grownBy w3 v.ownBlock) : PfI w w3 t ss v' (k + 1) (l ++ [(rdC s, a, c)]) := by
  have hz : W.heap.size ≤ w3.heap.size := by have := hgr.size; rw [World.size_alloc] at this; omega
  have hlt : k < ss.length := (List.getElem?_eq_some_iff.1 hs).1
  refine ⟨by rw [List.length_append, h.len]; rfl, hlt, pf_recs h.recs hs, pf_ok h.ok hs ho, by rw [rtV_snoc]; exact h.gr.step hown hgr, fun x hx => ?_⟩
  rcases List.mem_append.1 hx with q | q
  · exact (h.pl x q).keep hz fun b hb => loc_append ht h.gr.1 hgr hb
  · rw [List.mem_singleton.1 q]
    exact hp.keep hz fun b hb => loc_append ht h.gr.1 hgr hb
/-- the records that the sectors begin with, in a row -/
def PfP (ss : List ByteArray) (w : World) (e : Ending) (w' : World) : Prop := ∃ (l : List RT) (a : Option Addr) (c : Nat), e = .returned (.slice a l.length c) ∧ l.length ≤ c ∧ l.map Prod.fst = prefR ss ∧ RecsAt w' a l ∧ Below w.heap.size w w'
theorem PfI.stop {w wr : World} {t : TypeId} {ss : List ByteArray} {v : Value} {k : Nat} {l : List RT} (h : PfI w wr t ss v k l) (hn : ∀ s, ss[k]? = some s → ¬ okF k s) : PfP ss w (.returned v) wr := by
  have hg := h.gr.1
  rw [← h.len] at hg
  obtain ⟨a, c, e, hc, hr⟩ := recs_own hg fun x hx => (h.pl x hx).1
  exact ⟨l, a, c, by rw [e], hc, by rw [h.recs]; exact (pref_stop h.le h.ok hn).symm, hr, h.gr.2⟩
end Go.Proofs.Ytaiafbihcfbglaa
