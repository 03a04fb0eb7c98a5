/- A law's arguments as they came in: a slice of requests. -/
import Derived.Test.YtlpibpkbgmcclaaDoorCameRq
namespace Go.Proofs.YtlpibpkbgmcclaaDoor
open Go.RowKit
set_option linter.unusedVariables false
/-- a slice of structs of z cells each -/
theorem came_structs {t e : TypeId} {z : Nat} (hu : Tryd.prog.underlying t = some (.slice e)) (hz : Tryd.prog.cellsOf e = z) (hz0 : 0 < z) {C : Type} [Nonempty C] (cl : C → List Value) (hlen : ∀ x, (cl x).length = z) {w : World} (G : C → Prop)
    (op : ∀ {H : Type} {enc : TypeId × Value → H} {fuel : Nat} {cs : List Value} {y : DataW H × List MemPlace}, DataW.trod enc Tryd.prog w 0 (fun _ => true) true fuel e cs = some y → ∃ x : C, cs = cl x ∧ G x)
    {a : Option Addr} {l c : Nat} (h : Came t w a l c) :
    ∃ ls : List C, ls.length = l ∧ l ≤ c ∧ l ≤ 9223372036854775807 ∧ (∀ x ∈ ls, G x) ∧ (ls = [] ∨ ∃ b o, a = some ⟨b, o, none⟩ ∧ b < w.heap.size ∧ ∀ (i : Nat) (x : C), ls[i]? = some x → ∀ j v, (cl x)[j]? = some v → w.cell? ⟨b, o + i * z + j, none⟩ = some v) := by
  obtain ⟨H, enc, d, ps, ⟨fuel, hf⟩⟩ := h
  rcases Go.Deep.open_slice hu hf with ⟨hcs, _⟩ | ⟨x, l', c', m, n, Dd, Pl, hcs, hb, hl, hm, hmm, hx, hi⟩
  · simp [Value.cells] at hcs
    obtain ⟨rfl, rfl, rfl⟩ := hcs
    exact ⟨[], rfl, by omega, by omega, fun x hx => by simp at hx, .inl rfl⟩
  · simp [Value.cells] at hcs
    obtain ⟨rfl, rfl, rfl⟩ := hcs
    unfold maxLen at hm
    rw [if_pos rfl] at hmm
    rw [hz] at hi
    have each : ∀ i, i < l → ∃ y : C, G y ∧ ∀ j v, (cl y)[j]? = some v → w.cell? ((x.add (i * z)).add j) = some v := by
      intro i hil
      obtain ⟨cs', hc, ht⟩ := hi i (by omega)
      obtain ⟨y, rfl, hy⟩ := op ht
      obtain ⟨_, hcl, hat⟩ := World.cells?_some hc
      exact ⟨y, hy, fun j v hj => by rw [hat j (by have := (List.getElem?_eq_some_iff.1 hj).1; rw [hlen] at this; exact this)]; exact hj⟩
    by_cases h0 : l = 0
    · subst h0; exact ⟨[], rfl, by omega, by omega, fun x hx => by simp at hx, .inl rfl⟩
    · have hne : Nonempty C := inferInstance
      have cho : ∃ f : Nat → C, ∀ i, i < l → G (f i) ∧ ∀ j v, (cl (f i))[j]? = some v → w.cell? ((x.add (i * z)).add j) = some v := by
        refine ⟨fun i => if hil : i < l then Classical.choose (each i hil) else Classical.choice hne, fun i hil => ?_⟩
        simp only [dif_pos hil]
        exact Classical.choose_spec (each i hil)
      obtain ⟨f, hf2⟩ := cho
      refine ⟨(List.range l).map f, by simp, by omega, by omega, fun y hy => ?_, ?_⟩
      · obtain ⟨i, hi, rfl⟩ := List.mem_map.1 hy
        exact (hf2 i (List.mem_range.1 hi)).1
      · obtain ⟨v0, hv0⟩ : ∃ v, (cl (f 0))[0]? = some v := ⟨_, List.getElem?_eq_getElem (by rw [hlen]; exact hz0)⟩
        have h00 := (hf2 0 (by omega)).2 0 _ hv0
        rw [Nat.zero_mul, show x.add 0 = x from rfl] at h00
        obtain ⟨e, hblt⟩ := plain_addr h00
        refine .inr ⟨x.block, x.off, by rw [← e], hblt, fun i y hy => ?_⟩
        have hil : i < l := by have := (List.getElem?_eq_some_iff.1 hy).1; simpa using this
        simp [hil] at hy
        subst hy
        obtain ⟨_, h2⟩ := hf2 i hil
        rw [e, add_plain] at h2
        intro j v hj
        have := h2 j v hj
        rw [add_plain] at this
        exact this
def RqsAt (w : World) (a : Option Addr) (L : List Rq) : Prop := L = [] ∨ ∃ b o, a = some ⟨b, o, none⟩ ∧ b < w.heap.size ∧ ∀ (i : Nat) (r : Rq), L[i]? = some r → w.cell? ⟨b, o + i * 3 + 0, none⟩ = some (.int .i64 r.d) ∧ w.cell? ⟨b, o + i * 3 + 1, none⟩ = some (.string r.k) ∧ w.cell? ⟨b, o + i * 3 + 2, none⟩ = some (.string r.v)
theorem RqsAt.below {w w' : World} {a : Option Addr} {L : List Rq} (h : RqsAt w a L) (hb : Below w.heap.size w w') : RqsAt w' a L := by
  rcases h with h | ⟨b, o, h1, h2, h3⟩
  · exact .inl h
  · refine .inr ⟨b, o, h1, Nat.lt_of_lt_of_le h2 hb.size, fun i r hi => ?_⟩
    obtain ⟨c0, c1, c2⟩ := h3 i r hi
    exact ⟨(hb.cell (p := ⟨b, _, none⟩) h2).trans c0, (hb.cell (p := ⟨b, _, none⟩) h2).trans c1, (hb.cell (p := ⟨b, _, none⟩) h2).trans c2⟩
theorem came_rqs {w : World} {a : Option Addr} {l c : Nat} (h : Came 22 w a l c) : ∃ L : List Rq, L.length = l ∧ l ≤ c ∧ l ≤ 9223372036854775807 ∧ RqsAt w a L := by
  have : Nonempty Rq := ⟨Rq.zero⟩
  obtain ⟨ls, h1, h2, h3, _, h5⟩ := came_structs Tryd.underlying22 (z := 3) (by kernel_rfl) (by omega) (fun r : Rq => (rqs r).toList) (fun x => rfl) (w := w) (fun _ => True) (fun ht => by
    obtain ⟨r, e, _⟩ := rq_cells ht
    exact ⟨r, e, trivial⟩) h
  refine ⟨ls, h1, h2, h3, ?_⟩
  rcases h5 with q | ⟨b, o, ha, hb, hc⟩
  · exact .inl q
  · exact .inr ⟨b, o, ha, hb, fun i r hi => ⟨hc i r hi 0 _ rfl, hc i r hi 1 _ rfl, hc i r hi 2 _ rfl⟩⟩
theorem RqsAt.nth {w : World} {a : Option Addr} {L : List Rq} (h : RqsAt w a L) {i : Nat} {r : Rq} (hi : L[i]? = some r) : ∃ b o, a = some ⟨b, o, none⟩ ∧ ∀ W, Below w.heap.size w W → W.cell? ⟨b, o + i * 3, none⟩ = some (.int .i64 r.d) ∧ W.cell? ⟨b, o + i * 3 + 1, none⟩ = some (.string r.k) ∧ W.cell? ⟨b, o + i * 3 + 2, none⟩ = some (.string r.v) := by
  rcases h with h | ⟨b, o, h1, h2, h3⟩
  · rw [h] at hi; simp at hi
  · refine ⟨b, o, h1, fun W hb => ?_⟩
    obtain ⟨c0, c1, c2⟩ := h3 i r hi
    exact ⟨(hb.cell (p := ⟨b, _, none⟩) h2).trans c0, (hb.cell (p := ⟨b, _, none⟩) h2).trans c1, (hb.cell (p := ⟨b, _, none⟩) h2).trans c2⟩
end Go.Proofs.YtlpibpkbgmcclaaDoor
