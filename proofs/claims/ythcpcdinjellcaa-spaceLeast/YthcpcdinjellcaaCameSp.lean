/- A law's arguments as they came in: a slice of calls (a number, a place, a slice of numbers), read as a list. -/
import Derived.Test.YthcpcdinjellcaaSpLive
namespace Go.Proofs.Ythcpcdinjellcaa
open Go.RowKit
set_option linter.unusedVariables false
/-- a call -/
structure OpR where
  act : Int
  x : Int
  y : Int
  la : Option Addr
  ln : Nat
  lc : Nat
  ll : List Int
/-- what a call's cells hold -/
structure OpAt (w : World) (b o : Nat) (x : OpR) : Prop where
  c0 : w.cell? ⟨b, o, none⟩ = some (.int .i64 x.act)
  c1 : w.cell? ⟨b, o + 1, none⟩ = some (.int .i64 x.x)
  c2 : w.cell? ⟨b, o + 2, none⟩ = some (.int .i64 x.y)
  c3 : w.cell? ⟨b, o + 3, none⟩ = some (.slice x.la x.ln x.lc)
/-- what is true of a call wherever it lies -/
structure OpIs (w : World) (x : OpR) : Prop where
  len : x.ll.length = x.ln
  n63 : x.ln ≤ 9223372036854775807
  ints : IntsAt w x.la x.ll
def OpsAt (w : World) (a : Option Addr) (l : List OpR) : Prop := l = [] ∨ ∃ b o, a = some ⟨b, o, none⟩ ∧ b < w.heap.size ∧ ∀ (i : Nat) (x : OpR), l[i]? = some x → OpAt w b (o + i * 4) x ∧ OpIs w x
theorem OpAt.below {w w' : World} {b o : Nat} {x : OpR} (h : OpAt w b o x) (hb : Below w.heap.size w w') (hlt : b < w.heap.size) : OpAt w' b o x :=
  ⟨(hb.cell (p := ⟨b, o, none⟩) hlt).trans h.c0, (hb.cell (p := ⟨b, o + 1, none⟩) hlt).trans h.c1, (hb.cell (p := ⟨b, o + 2, none⟩) hlt).trans h.c2, (hb.cell (p := ⟨b, o + 3, none⟩) hlt).trans h.c3⟩
theorem OpIs.below {w w' : World} {x : OpR} (h : OpIs w x) (hb : Below w.heap.size w w') : OpIs w' x := ⟨h.len, h.n63, h.ints.below hb⟩
theorem OpsAt.below {w w' : World} {a : Option Addr} {l : List OpR} (h : OpsAt w a l) (hb : Below w.heap.size w w') : OpsAt w' a l := by
  rcases h with h | ⟨b, o, ha, hlt, hc⟩
  · exact .inl h
  · exact .inr ⟨b, o, ha, Nat.lt_of_lt_of_le hlt hb.size, fun i x hx => ⟨(hc i x hx).1.below hb hlt, (hc i x hx).2.below hb⟩⟩
theorem op_open {H : Type} {enc : TypeId × Value → H} {w : World} {fuel : Nat} {cs : List Value} {y : DataW H × List MemPlace} (h : DataW.trod enc Try.prog w 0 (fun _ => true) true fuel 34 cs = some y) :
    ∃ x : OpR, cs = [.int .i64 x.act, .int .i64 x.x, .int .i64 x.y, .slice x.la x.ln x.lc] ∧ OpIs w x := by
  obtain ⟨ys, n, _, hx, hl, hlen, hf⟩ := DataW.trod_struct Try.underlying34 h
  have k1 : Try.prog.cellsOf 3 = 1 := by kernel_rfl
  have k2 : Try.prog.cellsOf 31 = 2 := by kernel_rfl
  have k3 : Try.prog.cellsOf 32 = 1 := by kernel_rfl
  have k4 : Try.prog.cellsOf 34 = 4 := by kernel_rfl
  rw [k4] at hl
  match cs, hl with
  | [c0, c1, c2, c3], _ =>
    match ys, hlen with
    | [y0, y1, y2], _ =>
      have h0 := hf 0 _ rfl
      have h1 := hf 1 _ rfl
      have h2 := hf 2 _ rfl
      simp [k1, k2, k3] at h0 h1 h2
      obtain ⟨a0, e0, -, -⟩ := DataW.trod_int Try.underlying3 h0
      obtain ⟨⟨x1, x2⟩, e1⟩ := loc_open h1
      have B : ∃ a l q, c3 = .slice a l q ∧ Came 32 w a l q := by
        rcases DataW.trod_slice Try.underlying32 h2 with ⟨e, _⟩ | ⟨a, len, cap, _, _, _, _, e, _⟩
        · simp at e; subst e; exact ⟨none, 0, 0, rfl, H, enc, _, _, n, h2⟩
        · simp at e; subst e; exact ⟨some a, len, cap, rfl, H, enc, _, _, n, h2⟩
      obtain ⟨ka, kn, kc, rfl, hk⟩ := B
      simp at e0 e1
      obtain ⟨e1, e2⟩ := e1
      subst e0 e1 e2
      obtain ⟨kl, hkl, _, hk63, hkA⟩ := came_ints hk
      exact ⟨⟨a0, x1, x2, ka, kn, kc, kl⟩, rfl, hkl, hk63, hkA⟩
theorem came_ops {w : World} {a : Option Addr} {l c : Nat} (h : Came 22 w a l c) : ∃ ls : List OpR, ls.length = l ∧ l ≤ 9223372036854775807 ∧ OpsAt w a ls := by
  obtain ⟨H, enc, d, ps, fuel, hf⟩ := h
  rcases Go.Deep.open_slice Try.underlying22 hf with ⟨hcs, _⟩ | ⟨x, l', c', m, n, Dd, Pl, hcs, hb, hl, hm, hmm, hx, hi⟩
  · simp [Value.cells] at hcs
    obtain ⟨rfl, rfl, rfl⟩ := hcs
    exact ⟨[], rfl, by omega, .inl rfl⟩
  · simp [Value.cells] at hcs
    obtain ⟨rfl, rfl, rfl⟩ := hcs
    unfold maxLen at hm
    have k4 : Try.prog.cellsOf 34 = 4 := by kernel_rfl
    rw [if_pos rfl] at hmm
    rw [k4] at hi
    have each : ∀ i, i < l → ∃ y : OpR, OpIs w y ∧ ∀ j v, ([.int .i64 y.act, .int .i64 y.x, .int .i64 y.y, .slice y.la y.ln y.lc] : List Value)[j]? = some v → w.cell? ((x.add (i * 4)).add j) = some v := by
      intro i hil
      obtain ⟨cs', hc, ht⟩ := hi i (by omega)
      obtain ⟨y, rfl, hy⟩ := op_open ht
      obtain ⟨_, hcl, hat⟩ := World.cells?_some hc
      exact ⟨y, hy, fun j v hj => by rw [hat j (by have := (List.getElem?_eq_some_iff.1 hj).1; simpa using this)]; exact hj⟩
    by_cases h0 : l = 0
    · subst h0; exact ⟨[], rfl, by omega, .inl rfl⟩
    · have hne : Nonempty OpR := ⟨⟨0, 0, 0, none, 0, 0, []⟩⟩
      have cho : ∃ f : Nat → OpR, ∀ i, i < l → OpIs w (f i) ∧ ∀ j v, ([.int .i64 (f i).act, .int .i64 (f i).x, .int .i64 (f i).y, .slice (f i).la (f i).ln (f i).lc] : List Value)[j]? = some v → w.cell? ((x.add (i * 4)).add j) = some v := by
        refine ⟨fun i => if hil : i < l then Classical.choose (each i hil) else Classical.choice hne, fun i hil => ?_⟩
        simp only [dif_pos hil]
        exact Classical.choose_spec (each i hil)
      obtain ⟨f, hf2⟩ := cho
      refine ⟨(List.range l).map f, by simp, by omega, ?_⟩
      have h00 := (hf2 0 (by omega)).2 0 _ rfl
      rw [Nat.zero_mul, show x.add 0 = x from rfl] at h00
      obtain ⟨e, hblt⟩ := plain_addr h00
      refine .inr ⟨x.block, x.off, by rw [← e], hblt, fun i y hy => ?_⟩
      have hil : i < l := by have := (List.getElem?_eq_some_iff.1 hy).1; simpa using this
      simp [hil] at hy
      subst hy
      obtain ⟨hy, h2⟩ := hf2 i hil
      rw [e, add_plain] at h2
      have hc : ∀ j v, ([.int .i64 (f i).act, .int .i64 (f i).x, .int .i64 (f i).y, .slice (f i).la (f i).ln (f i).lc] : List Value)[j]? = some v → w.cell? ⟨x.block, x.off + i * 4 + j, none⟩ = some v := fun j v hj => by
        have := h2 j v hj
        rw [add_plain] at this
        exact this
      exact ⟨⟨hc 0 _ rfl, hc 1 _ rfl, hc 2 _ rfl, hc 3 _ rfl⟩, hy⟩
end Go.Proofs.Ythcpcdinjellcaa
