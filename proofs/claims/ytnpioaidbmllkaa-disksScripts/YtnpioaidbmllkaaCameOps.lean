/- A law's arguments as they came in: a slice of bools, a slice of calls (structs of six fields, of which two are slices of bools), read as lists. -/
import Derived.Test.YtnpioaidbmllkaaCameS
import Derived.Test.YtnpioaidbmllkaaDkSpoil
import Derived.Deep.Slices
import Derived.Deep.Fields
namespace Go.Proofs.Ytnpioaidbmllkaa
open Go.RowKit
set_option linter.unusedVariables false
theorem came_bools {w : World} {a : Option Addr} {l c : Nat} (h : Came 28 w a l c) : ∃ ls : List Bool, ls.length = l ∧ l ≤ c ∧ l ≤ 9223372036854775807 ∧ BoolsAt w a ls := by
  obtain ⟨H, enc, d, ps, fuel, hf⟩ := h
  rcases Go.Deep.open_bools Try.underlying28 Try.underlying4 (by kernel_rfl) hf with ⟨hcs, _⟩ | ⟨x, l', c', B, hcs, _, hl, hm, _, hcell⟩
  · simp [Value.cells] at hcs
    obtain ⟨rfl, rfl, rfl⟩ := hcs
    exact ⟨[], rfl, by omega, by omega, .inl rfl⟩
  · simp [Value.cells] at hcs
    obtain ⟨rfl, rfl, rfl⟩ := hcs
    unfold maxLen at hm
    refine ⟨(List.range l).map B, by simp, hl, by omega, ?_⟩
    by_cases h0 : l = 0
    · exact .inl (by subst h0; rfl)
    · obtain ⟨e, hb⟩ := plain_addr (hcell 0 (by omega))
      refine .inr ⟨x.block, x.off, by rw [← e], hb, fun i s hs => ?_⟩
      have hi : i < l := by have := (List.getElem?_eq_some_iff.1 hs).1; simpa using this
      have := hcell i (by omega)
      rw [e, add_plain] at this
      rw [this]
      simp [hi] at hs
      rw [hs]
/-- a call -/
structure OpR where
  act : Int
  d : Int
  n : Int
  s : ByteArray
  ka : Option Addr
  kn : Nat
  kc : Nat
  ta : Option Addr
  tn : Nat
  tc : Nat
  kl : List Bool
  tl : List Bool
/-- what a call's cells hold -/
structure OpAt (w : World) (b o : Nat) (x : OpR) : Prop where
  c0 : w.cell? ⟨b, o, none⟩ = some (.int .i64 x.act)
  c1 : w.cell? ⟨b, o + 1, none⟩ = some (.int .i64 x.d)
  c2 : w.cell? ⟨b, o + 2, none⟩ = some (.int .i64 x.n)
  c3 : w.cell? ⟨b, o + 3, none⟩ = some (.string x.s)
  c4 : w.cell? ⟨b, o + 4, none⟩ = some (.slice x.ka x.kn x.kc)
  c5 : w.cell? ⟨b, o + 5, none⟩ = some (.slice x.ta x.tn x.tc)
/-- what is true of a call wherever it lies -/
structure OpIs (w : World) (x : OpR) : Prop where
  s63 : x.s.size ≤ 9223372036854775807
  kLen : x.kl.length = x.kn
  tLen : x.tl.length = x.tn
  k63 : x.kn ≤ 9223372036854775807
  t63 : x.tn ≤ 9223372036854775807
  kAt : BoolsAt w x.ka x.kl
  tAt : BoolsAt w x.ta x.tl
def OpsAt (w : World) (a : Option Addr) (l : List OpR) : Prop := l = [] ∨ ∃ b o, a = some ⟨b, o, none⟩ ∧ b < w.heap.size ∧ ∀ (i : Nat) (x : OpR), l[i]? = some x → OpAt w b (o + i * 6) x ∧ OpIs w x
theorem op_open {H : Type} {enc : TypeId × Value → H} {w : World} {fuel : Nat} {cs : List Value} {y : DataW H × List MemPlace} (h : DataW.trod enc Try.prog w 0 (fun _ => true) true fuel 30 cs = some y) :
    ∃ x : OpR, cs = [.int .i64 x.act, .int .i64 x.d, .int .i64 x.n, .string x.s, .slice x.ka x.kn x.kc, .slice x.ta x.tn x.tc] ∧ OpIs w x := by
  obtain ⟨ys, n, _, hx, hl, hlen, hf⟩ := DataW.trod_struct Try.underlying30 h
  have k1 : Try.prog.cellsOf 3 = 1 := by kernel_rfl
  have k2 : Try.prog.cellsOf 9 = 1 := by kernel_rfl
  have k3 : Try.prog.cellsOf 28 = 1 := by kernel_rfl
  have k6 : Try.prog.cellsOf 30 = 6 := by kernel_rfl
  rw [k6] at hl
  match cs, hl with
  | [c0, c1, c2, c3, c4, c5], _ =>
    match ys, hlen with
    | [y0, y1, y2, y3, y4, y5], _ =>
      have h0 := hf 0 _ rfl
      have h1 := hf 1 _ rfl
      have h2 := hf 2 _ rfl
      have h3 := hf 3 _ rfl
      have h4 := hf 4 _ rfl
      have h5 := hf 5 _ rfl
      simp [k1, k2, k3] at h0 h1 h2 h3 h4 h5
      obtain ⟨a0, e0, -, -⟩ := DataW.trod_int Try.underlying3 h0
      obtain ⟨a1, e1, -, -⟩ := DataW.trod_int Try.underlying3 h1
      obtain ⟨a2, e2, -, -⟩ := DataW.trod_int Try.underlying3 h2
      obtain ⟨a3, e3, -, h63⟩ := DataW.trod_string Try.underlying9 h3
      have B : ∀ (c : Value) y, DataW.trod enc Try.prog w 0 (fun _ => true) true n 28 [c] = some y → ∃ a l q, c = .slice a l q ∧ Came 28 w a l q := by
        intro c y hc
        rcases DataW.trod_slice Try.underlying28 hc with ⟨e, _⟩ | ⟨a, len, cap, _, _, _, _, e, _⟩
        · simp at e; subst e; exact ⟨none, 0, 0, rfl, H, enc, _, _, n, hc⟩
        · simp at e; subst e; exact ⟨some a, len, cap, rfl, H, enc, _, _, n, hc⟩
      obtain ⟨ka, kn, kc, rfl, hk⟩ := B _ _ h4
      obtain ⟨ta, tn, tc, rfl, ht⟩ := B _ _ h5
      simp at e0 e1 e2 e3
      subst e0 e1 e2 e3
      obtain ⟨kl, hkl, _, hk63, hkA⟩ := came_bools hk
      obtain ⟨tl, htl, _, ht63, htA⟩ := came_bools ht
      exact ⟨⟨a0, a1, a2, a3, ka, kn, kc, ta, tn, tc, kl, tl⟩, rfl, by simpa [maxLen] using h63, hkl, htl, hk63, ht63, hkA, htA⟩
theorem came_ops {w : World} {a : Option Addr} {l c : Nat} (h : Came 22 w a l c) : ∃ ls : List OpR, ls.length = l ∧ l ≤ c ∧ l ≤ 9223372036854775807 ∧ OpsAt w a ls := by
  obtain ⟨H, enc, d, ps, fuel, hf⟩ := h
  rcases Go.Deep.open_slice Try.underlying22 hf with ⟨hcs, _⟩ | ⟨x, l', c', m, n, Dd, Pl, hcs, hb, hl, hm, hmm, hx, hi⟩
  · simp [Value.cells] at hcs
    obtain ⟨rfl, rfl, rfl⟩ := hcs
    exact ⟨[], rfl, by omega, by omega, .inl rfl⟩
  · simp [Value.cells] at hcs
    obtain ⟨rfl, rfl, rfl⟩ := hcs
    unfold maxLen at hm
    have k6 : Try.prog.cellsOf 30 = 6 := by kernel_rfl
    rw [if_pos rfl] at hmm
    rw [k6] at hi
    have each : ∀ i, i < l → ∃ y : OpR, OpIs w y ∧ ∀ j v, ([.int .i64 y.act, .int .i64 y.d, .int .i64 y.n, .string y.s, .slice y.ka y.kn y.kc, .slice y.ta y.tn y.tc] : List Value)[j]? = some v → w.cell? ((x.add (i * 6)).add j) = some v := by
      intro i hil
      obtain ⟨cs', hc, ht⟩ := hi i (by omega)
      obtain ⟨y, rfl, hy⟩ := op_open ht
      obtain ⟨_, hcl, hat⟩ := World.cells?_some hc
      exact ⟨y, hy, fun j v hj => by rw [hat j (by have := (List.getElem?_eq_some_iff.1 hj).1; simpa using this)]; exact hj⟩
    by_cases h0 : l = 0
    · subst h0; exact ⟨[], rfl, hl, by omega, .inl rfl⟩
    · have hne : Nonempty OpR := ⟨⟨0, 0, 0, ByteArray.empty, none, 0, 0, none, 0, 0, [], []⟩⟩
      have cho : ∃ f : Nat → OpR, ∀ i, i < l → OpIs w (f i) ∧ ∀ j v, ([.int .i64 (f i).act, .int .i64 (f i).d, .int .i64 (f i).n, .string (f i).s, .slice (f i).ka (f i).kn (f i).kc, .slice (f i).ta (f i).tn (f i).tc] : List Value)[j]? = some v → w.cell? ((x.add (i * 6)).add j) = some v := by
        refine ⟨fun i => if hil : i < l then Classical.choose (each i hil) else Classical.choice hne, fun i hil => ?_⟩
        simp only [dif_pos hil]
        exact Classical.choose_spec (each i hil)
      obtain ⟨f, hf2⟩ := cho
      refine ⟨(List.range l).map f, by simp, hl, by omega, ?_⟩
      have h00 := (hf2 0 (by omega)).2 0 _ rfl
      rw [Nat.zero_mul, show x.add 0 = x from rfl] at h00
      obtain ⟨e, hblt⟩ := plain_addr h00
      refine .inr ⟨x.block, x.off, by rw [← e], hblt, fun i y hy => ?_⟩
      have hil : i < l := by have := (List.getElem?_eq_some_iff.1 hy).1; simpa using this
      simp [hil] at hy
      subst hy
      obtain ⟨h1, h2⟩ := hf2 i hil
      rw [e, add_plain] at h2
      have hc : ∀ j v, ([.int .i64 (f i).act, .int .i64 (f i).d, .int .i64 (f i).n, .string (f i).s, .slice (f i).ka (f i).kn (f i).kc, .slice (f i).ta (f i).tn (f i).tc] : List Value)[j]? = some v → w.cell? ⟨x.block, x.off + i * 6 + j, none⟩ = some v := fun j v hj => by
        have := h2 j v hj
        rw [add_plain] at this
        exact this
      exact ⟨⟨hc 0 _ rfl, hc 1 _ rfl, hc 2 _ rfl, hc 3 _ rfl, hc 4 _ rfl, hc 5 _ rfl⟩, h1⟩
theorem BoolsAt.below {w w' : World} {a : Option Addr} {l : List Bool} (h : BoolsAt w a l) (hb : Below w.heap.size w w') : BoolsAt w' a l := by
  rcases h with h | ⟨b, o, ha, hlt, hc⟩
  · exact .inl h
  · exact .inr ⟨b, o, ha, Nat.lt_of_lt_of_le hlt hb.size, fun i s hs => (hb.cell (p := ⟨b, o + i, none⟩) hlt).trans (hc i s hs)⟩
theorem OpIs.below {w w' : World} {x : OpR} (h : OpIs w x) (hb : Below w.heap.size w w') : OpIs w' x := ⟨h.s63, h.kLen, h.tLen, h.k63, h.t63, h.kAt.below hb, h.tAt.below hb⟩
theorem OpAt.below {w w' : World} {b o : Nat} {x : OpR} (h : OpAt w b o x) (hlt : b < w.heap.size) (hb : Below w.heap.size w w') : OpAt w' b o x :=
  ⟨(hb.cell (p := ⟨b, o, none⟩) hlt).trans h.c0, (hb.cell (p := ⟨b, o + 1, none⟩) hlt).trans h.c1, (hb.cell (p := ⟨b, o + 2, none⟩) hlt).trans h.c2, (hb.cell (p := ⟨b, o + 3, none⟩) hlt).trans h.c3, (hb.cell (p := ⟨b, o + 4, none⟩) hlt).trans h.c4, (hb.cell (p := ⟨b, o + 5, none⟩) hlt).trans h.c5⟩
theorem OpsAt.below {w w' : World} {a : Option Addr} {l : List OpR} (h : OpsAt w a l) (hb : Below w.heap.size w w') : OpsAt w' a l := by
  rcases h with h | ⟨b, o, ha, hlt, hc⟩
  · exact .inl h
  · exact .inr ⟨b, o, ha, Nat.lt_of_lt_of_le hlt hb.size, fun i x hx => ⟨(hc i x hx).1.below hlt hb, (hc i x hx).2.below hb⟩⟩
end Go.Proofs.Ytnpioaidbmllkaa
