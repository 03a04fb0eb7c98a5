/- A law's arguments as they came in: a header (a struct of six cells), a volume (three numbers and a slice of places). -/
import Derived.Test.YtjcabdgikkmlpaaCameV
import Derived.Test.YtjcabdgikkmlpaaSeMath
namespace Go.Proofs.Ytjcabdgikkmlpaa
open Go.RowKit
set_option linter.unusedVariables false
def hcs (h : Hd) : Array Value := #[.int .i64 h.v, .int .i64 h.g, .int .i64 h.i, .int .i64 h.d, .int .i64 h.s, .string h.x]
theorem hd_open {w : World} {v : Value} (c : CameV 25 6 w v) : ∃ h : Hd, v = .agg (hcs h) ∧ h.x.size ≤ 9223372036854775807 := by
  obtain ⟨⟨cs, rfl, hcs6⟩, H, enc, d, ps, fuel, hf0⟩ := c
  have k1 : Try.prog.cellsOf 3 = 1 := by kernel_rfl
  have k2 : Try.prog.cellsOf 9 = 1 := by kernel_rfl
  have k3 : Try.prog.cellsOf 23 = 2 := by kernel_rfl
  have k6 : Try.prog.cellsOf 25 = 6 := by kernel_rfl
  obtain ⟨ys, n, _, hx, hl, hlen, hf⟩ := DataW.trod_struct Try.underlying25 hf0
  rw [k6] at hl
  obtain ⟨l, rfl⟩ : ∃ l : List Value, cs = l.toArray := ⟨cs.toList, by simp⟩
  simp only [Value.cells] at hl hf
  match l, hl with
  | [c0, c1, c2, c3, c4, c5], _ =>
    match ys, hlen with
    | [y0, y1, y2, y3, y4], _ =>
      have h0 := hf 0 _ rfl
      have h1 := hf 1 _ rfl
      have h2 := hf 2 _ rfl
      have h3 := hf 3 _ rfl
      have h4 := hf 4 _ rfl
      simp [k1, k2, k3] at h0 h1 h2 h3 h4
      obtain ⟨a0, e0, -, -⟩ := DataW.trod_int Try.underlying3 h0
      obtain ⟨a1, e1, -, -⟩ := DataW.trod_int Try.underlying3 h1
      obtain ⟨a2, e2, -, -⟩ := DataW.trod_int Try.underlying3 h2
      obtain ⟨a5, e5, -, h63⟩ := DataW.trod_string Try.underlying9 h4
      obtain ⟨zs, n3, _, hx3, hl3, hlen3, hf3⟩ := DataW.trod_struct Try.underlying23 h3
      match zs, hlen3 with
      | [z0, z1], _ =>
        have g0 := hf3 0 _ rfl
        have g1 := hf3 1 _ rfl
        simp [k1] at g0 g1
        obtain ⟨a3, e3, -, -⟩ := DataW.trod_int Try.underlying3 g0
        obtain ⟨a4, e4, -, -⟩ := DataW.trod_int Try.underlying3 g1
        simp at e0 e1 e2 e3 e4 e5
        subst e0 e1 e2 e3 e4 e5
        exact ⟨⟨a0, a1, a2, a3, a4, a5⟩, rfl, by simpa [maxLen] using h63⟩
/-- a volume -/
structure Vol where
  id : Int
  gen : Int
  len : Int
  a : Option Addr
  n : Nat
  c : Nat
  ls : List (Int × Int)
def vcs (x : Vol) : Array Value := #[.int .i64 x.id, .int .i64 x.gen, .int .i64 x.len, .slice x.a x.n x.c]
/-- places that lie one behind the other -/
def LocsAt (w : World) (a : Option Addr) (l : List (Int × Int)) : Prop := l = [] ∨ ∃ b o, a = some ⟨b, o, none⟩ ∧ b < w.heap.size ∧ ∀ (i : Nat) (x : Int × Int), l[i]? = some x → w.cell? ⟨b, o + i * 2, none⟩ = some (.int .i64 x.1) ∧ w.cell? ⟨b, o + i * 2 + 1, none⟩ = some (.int .i64 x.2)
theorem LocsAt.below {w w' : World} {a : Option Addr} {l : List (Int × Int)} (h : LocsAt w a l) (hb : Below w.heap.size w w') : LocsAt w' a l := by
  rcases h with h | ⟨b, o, ha, hlt, hc⟩
  · exact .inl h
  · exact .inr ⟨b, o, ha, Nat.lt_of_lt_of_le hlt hb.size, fun i x hx => ⟨(hb.cell (p := ⟨b, o + i * 2, none⟩) hlt).trans (hc i x hx).1, (hb.cell (p := ⟨b, o + i * 2 + 1, none⟩) hlt).trans (hc i x hx).2⟩⟩
theorem loc_open {H : Type} {enc : TypeId × Value → H} {w : World} {fuel : Nat} {cs : List Value} {y : DataW H × List MemPlace} (h : DataW.trod enc Try.prog w 0 (fun _ => true) true fuel 23 cs = some y) :
    ∃ x : Int × Int, cs = [.int .i64 x.1, .int .i64 x.2] := by
  obtain ⟨ys, n, _, hx, hl, hlen, hf⟩ := DataW.trod_struct Try.underlying23 h
  have k1 : Try.prog.cellsOf 3 = 1 := by kernel_rfl
  have k2 : Try.prog.cellsOf 23 = 2 := by kernel_rfl
  rw [k2] at hl
  match cs, hl with
  | [c0, c1], _ =>
    match ys, hlen with
    | [y0, y1], _ =>
      have h0 := hf 0 _ rfl
      have h1 := hf 1 _ rfl
      simp [k1] at h0 h1
      obtain ⟨a0, e0, -, -⟩ := DataW.trod_int Try.underlying3 h0
      obtain ⟨a1, e1, -, -⟩ := DataW.trod_int Try.underlying3 h1
      simp at e0 e1
      subst e0 e1
      exact ⟨(a0, a1), rfl⟩
theorem came_locs {w : World} {a : Option Addr} {l c : Nat} (h : Came 34 w a l c) : ∃ ls : List (Int × Int), ls.length = l ∧ l ≤ c ∧ l ≤ 9223372036854775807 ∧ LocsAt w a ls := by
  obtain ⟨H, enc, d, ps, fuel, hf⟩ := h
  rcases Go.Deep.open_slice Try.underlying34 hf with ⟨hcs, _⟩ | ⟨x, l', c', m, n, Dd, Pl, hcs, hb, hl, hm, hmm, hx, hi⟩
  · simp [Value.cells] at hcs
    obtain ⟨rfl, rfl, rfl⟩ := hcs
    exact ⟨[], rfl, by omega, by omega, .inl rfl⟩
  · simp [Value.cells] at hcs
    obtain ⟨rfl, rfl, rfl⟩ := hcs
    unfold maxLen at hm
    have k2 : Try.prog.cellsOf 23 = 2 := by kernel_rfl
    rw [if_pos rfl] at hmm
    rw [k2] at hi
    have each : ∀ i, i < l → ∃ y : Int × Int, ∀ j v, ([.int .i64 y.1, .int .i64 y.2] : List Value)[j]? = some v → w.cell? ((x.add (i * 2)).add j) = some v := by
      intro i hil
      obtain ⟨cs', hc, ht⟩ := hi i (by omega)
      obtain ⟨y, rfl⟩ := loc_open ht
      obtain ⟨_, hcl, hat⟩ := World.cells?_some hc
      exact ⟨y, fun j v hj => by rw [hat j (by have := (List.getElem?_eq_some_iff.1 hj).1; simpa using this)]; exact hj⟩
    by_cases h0 : l = 0
    · subst h0; exact ⟨[], rfl, hl, by omega, .inl rfl⟩
    · have cho : ∃ f : Nat → Int × Int, ∀ i, i < l → ∀ j v, ([.int .i64 (f i).1, .int .i64 (f i).2] : List Value)[j]? = some v → w.cell? ((x.add (i * 2)).add j) = some v := by
        refine ⟨fun i => if hil : i < l then Classical.choose (each i hil) else (0, 0), fun i hil => ?_⟩
        simp only [dif_pos hil]
        exact Classical.choose_spec (each i hil)
      obtain ⟨f, hf2⟩ := cho
      refine ⟨(List.range l).map f, by simp, hl, by omega, ?_⟩
      have h00 := hf2 0 (by omega) 0 _ rfl
      rw [Nat.zero_mul, show x.add 0 = x from rfl] at h00
      obtain ⟨e, hblt⟩ := plain_addr h00
      refine .inr ⟨x.block, x.off, by rw [← e], hblt, fun i y hy => ?_⟩
      have hil : i < l := by have := (List.getElem?_eq_some_iff.1 hy).1; simpa using this
      simp [hil] at hy
      subst hy
      have h2 := hf2 i hil
      rw [e, add_plain] at h2
      have hc : ∀ j v, ([.int .i64 (f i).1, .int .i64 (f i).2] : List Value)[j]? = some v → w.cell? ⟨x.block, x.off + i * 2 + j, none⟩ = some v := fun j v hj => by
        have := h2 j v hj
        rw [add_plain] at this
        exact this
      exact ⟨hc 0 _ rfl, hc 1 _ rfl⟩
theorem vol_open {w : World} {v : Value} (c : CameV 36 4 w v) : ∃ x : Vol, v = .agg (vcs x) ∧ x.ls.length = x.n ∧ x.n ≤ 9223372036854775807 ∧ LocsAt w x.a x.ls := by
  obtain ⟨⟨cs, rfl, hcs4⟩, H, enc, d, ps, fuel, hf0⟩ := c
  have k1 : Try.prog.cellsOf 3 = 1 := by kernel_rfl
  have k2 : Try.prog.cellsOf 34 = 1 := by kernel_rfl
  have k4 : Try.prog.cellsOf 36 = 4 := by kernel_rfl
  obtain ⟨ys, n, _, hx, hl, hlen, hf⟩ := DataW.trod_struct Try.underlying36 hf0
  rw [k4] at hl
  obtain ⟨l, rfl⟩ : ∃ l : List Value, cs = l.toArray := ⟨cs.toList, by simp⟩
  simp only [Value.cells] at hl hf
  match l, hl with
  | [c0, c1, c2, c3], _ =>
    match ys, hlen with
    | [y0, y1, y2, y3], _ =>
      have h0 := hf 0 _ rfl
      have h1 := hf 1 _ rfl
      have h2 := hf 2 _ rfl
      have h3 := hf 3 _ rfl
      simp [k1, k2] at h0 h1 h2 h3
      obtain ⟨a0, e0, -, -⟩ := DataW.trod_int Try.underlying3 h0
      obtain ⟨a1, e1, -, -⟩ := DataW.trod_int Try.underlying3 h1
      obtain ⟨a2, e2, -, -⟩ := DataW.trod_int Try.underlying3 h2
      have B : ∃ a l q, c3 = .slice a l q ∧ Came 34 w a l q := by
        rcases DataW.trod_slice Try.underlying34 h3 with ⟨e, _⟩ | ⟨a, len, cap, _, _, _, _, e, _⟩
        · simp at e; subst e; exact ⟨none, 0, 0, rfl, H, enc, _, _, n, h3⟩
        · simp at e; subst e; exact ⟨some a, len, cap, rfl, H, enc, _, _, n, h3⟩
      obtain ⟨ka, kn, kc, rfl, hk⟩ := B
      simp at e0 e1 e2
      subst e0 e1 e2
      obtain ⟨ls, hls, _, h63, hA⟩ := came_locs hk
      exact ⟨⟨a0, a1, a2, ka, kn, kc, ls⟩, rfl, hls, h63, hA⟩
end Go.Proofs.Ytjcabdgikkmlpaa
