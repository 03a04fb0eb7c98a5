/- A law's arguments as they came in: a needle (a struct of two strings), a slice of needles. -/
import Derived.Test.YtomcdajoeakhdaaDoorCameV
import Derived.Test.YtomcdajoeakhdaaDoorNeRow
namespace Go.Proofs.YtomcdajoeakhdaaDoor
open Go.RowKit
set_option linter.unusedVariables false
set_option maxRecDepth 100000 in
theorem nd_cells {H : Type} {enc : TypeId × Value → H} {w : World} {fuel : Nat} {cs : List Value} {y : DataW H × List MemPlace} (h : DataW.trod enc Tryd.prog w 0 (fun _ => true) true fuel 23 cs = some y) :
    ∃ x : Nd, cs = [.string x.k, .string x.v] ∧ x.k.size ≤ 9223372036854775807 ∧ x.v.size ≤ 9223372036854775807 := by
  obtain ⟨ys, n, _, hx, hl, hlen, hf⟩ := DataW.trod_struct Tryd.underlying23 h
  have k1 : Tryd.prog.cellsOf 9 = 1 := by kernel_rfl
  have k2 : Tryd.prog.cellsOf 23 = 2 := by kernel_rfl
  rw [k2] at hl
  match cs, hl with
  | [c0, c1], _ =>
    match ys, hlen with
    | [y0, y1], _ =>
      have h0 := hf 0 _ rfl
      have h1 := hf 1 _ rfl
      simp [k1] at h0 h1
      obtain ⟨a0, e0, -, h63⟩ := DataW.trod_string Tryd.underlying9 h0
      obtain ⟨a1, e1, -, h64⟩ := DataW.trod_string Tryd.underlying9 h1
      simp at e0 e1
      subst e0 e1
      exact ⟨⟨a0, a1⟩, rfl, by simpa [maxLen] using h63, by simpa [maxLen] using h64⟩
set_option maxRecDepth 100000 in
theorem nd_open {w : World} {v : Value} (c : CameV 23 2 w v) : ∃ x : Nd, v = .agg (ncs x) ∧ x.k.size ≤ 9223372036854775807 ∧ x.v.size ≤ 9223372036854775807 := by
  obtain ⟨⟨cs, rfl, hcs2⟩, H, enc, d, ps, fuel, hf0⟩ := c
  obtain ⟨x, e, h1, h2⟩ := nd_cells hf0
  refine ⟨x, ?_, h1, h2⟩
  have e2 : cs.toList = [.string x.k, .string x.v] := e
  have : cs = #[.string x.k, .string x.v] := by
    apply Array.toList_inj.1
    rw [e2]
  rw [this]
  rfl
set_option maxRecDepth 100000 in
theorem came_nds {w : World} {a : Option Addr} {l c : Nat} (h : Came 42 w a l c) : ∃ ls : List Nd, ls.length = l ∧ l ≤ c ∧ l ≤ 9223372036854775807 ∧ NdsAt w a ls ∧ ∀ x ∈ ls, x.k.size ≤ 9223372036854775807 ∧ x.v.size ≤ 9223372036854775807 := by
  obtain ⟨H, enc, d, ps, fuel, hf⟩ := h
  rcases Go.Deep.open_slice Tryd.underlying42 hf with ⟨hcs, _⟩ | ⟨x, l', c', m, n, Dd, Pl, hcs, hb, hl, hm, hmm, hx, hi⟩
  · simp [Value.cells] at hcs
    obtain ⟨rfl, rfl, rfl⟩ := hcs
    exact ⟨[], rfl, by omega, by omega, .inl rfl, fun x hx => by simp at hx⟩
  · simp [Value.cells] at hcs
    obtain ⟨rfl, rfl, rfl⟩ := hcs
    unfold maxLen at hm
    have k2 : Tryd.prog.cellsOf 23 = 2 := by kernel_rfl
    rw [if_pos rfl] at hmm
    rw [k2] at hi
    have each : ∀ i, i < l → ∃ y : Nd, (y.k.size ≤ 9223372036854775807 ∧ y.v.size ≤ 9223372036854775807) ∧ ∀ j v, ([.string y.k, .string y.v] : List Value)[j]? = some v → w.cell? ((x.add (i * 2)).add j) = some v := by
      intro i hil
      obtain ⟨cs', hc, ht⟩ := hi i (by omega)
      obtain ⟨y, rfl, hy1, hy2⟩ := nd_cells ht
      obtain ⟨_, hcl, hat⟩ := World.cells?_some hc
      exact ⟨y, ⟨hy1, hy2⟩, fun j v hj => by rw [hat j (by have := (List.getElem?_eq_some_iff.1 hj).1; simpa using this)]; exact hj⟩
    by_cases h0 : l = 0
    · subst h0; exact ⟨[], rfl, hl, by omega, .inl rfl, fun x hx => by simp at hx⟩
    · have cho : ∃ f : Nat → Nd, ∀ i, i < l → ((f i).k.size ≤ 9223372036854775807 ∧ (f i).v.size ≤ 9223372036854775807) ∧ ∀ j v, ([.string (f i).k, .string (f i).v] : List Value)[j]? = some v → w.cell? ((x.add (i * 2)).add j) = some v := by
        refine ⟨fun i => if hil : i < l then Classical.choose (each i hil) else Nd.zero, fun i hil => ?_⟩
        simp only [dif_pos hil]
        exact Classical.choose_spec (each i hil)
      obtain ⟨f, hf2⟩ := cho
      have h00 := (hf2 0 (by omega)).2 0 _ rfl
      rw [Nat.zero_mul, show x.add 0 = x from rfl] at h00
      obtain ⟨e, hblt⟩ := plain_addr h00
      refine ⟨(List.range l).map f, by simp, hl, by omega, .inr ⟨x.block, x.off, by rw [← e], hblt, fun i y hy => ?_⟩, fun y hy => ?_⟩
      · have hil : i < l := by have := (List.getElem?_eq_some_iff.1 hy).1; simpa using this
        simp [hil] at hy
        subst hy
        have h2 := (hf2 i hil).2
        rw [e, add_plain] at h2
        have hc : ∀ j v, ([.string (f i).k, .string (f i).v] : List Value)[j]? = some v → w.cell? ⟨x.block, x.off + i * 2 + j, none⟩ = some v := fun j v hj => by
          have := h2 j v hj
          rw [add_plain] at this
          exact this
        exact ⟨hc 0 _ rfl, hc 1 _ rfl⟩
      · obtain ⟨i, hi', rfl⟩ := List.mem_map.1 hy
        exact (hf2 i (List.mem_range.1 hi')).1
end Go.Proofs.YtomcdajoeakhdaaDoor
