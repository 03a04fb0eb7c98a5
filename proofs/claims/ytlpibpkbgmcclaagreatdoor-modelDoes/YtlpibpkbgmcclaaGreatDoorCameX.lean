/- A law's arguments as they came in: a struct by value, opened into its cells. A law's arguments as they came in: a request; an answer. A law's arguments as they came in: a slice of requests. -/
import Derived.Test.YtlpibpkbgmcclaaGreatDoorBaseX
import Derived.Deep.Slices
import Derived.Deep.Fields
import Derived.Test.YtlpibpkbgmcclaaGreatDoorRqMathX
import Derived.SizedLaws
namespace Go.Proofs.YtlpibpkbgmcclaaGreatDoor
open Go.RowKit
/-- a struct of n cells that came in -/
def CameV (t : TypeId) (n : Nat) (w : World) (v : Value) : Prop :=
  (∃ cs : Array Value, v = .agg cs ∧ cs.size = n) ∧ ∃ (H : Type) (enc : TypeId × Value → H) (d : DataW H) (ps : List MemPlace), DataW.Trod enc Tryz.prog w 0 (fun _ => true) true t v d ps
end Go.Proofs.YtlpibpkbgmcclaaGreatDoor
namespace Go.Proofs.YtlpibpkbgmcclaaGreatDoor
open Go.RowKit
set_option linter.unusedVariables false
theorem lit_ok {x : Int} (f : (Lit.int .i64 x).wf = true) : -9223372036854775808 ≤ x ∧ x ≤ 9223372036854775807 := by
  simp [Lit.wf, IntKind.min, IntKind.max, IntKind.signed, IntKind.bits] at f
  omega
set_option maxRecDepth 100000 in
theorem rq_cells {H : Type} {enc : TypeId × Value → H} {w : World} {fuel : Nat} {cs : List Value} {y : DataW H × List MemPlace} (h : DataW.trod enc Tryz.prog w 0 (fun _ => true) true fuel 32 cs = some y) :
    ∃ r : Rq, cs = (rqs r).toList ∧ (-9223372036854775808 ≤ r.d ∧ r.d ≤ 9223372036854775807) ∧ r.k.size ≤ 9223372036854775807 ∧ r.v.size ≤ 9223372036854775807 := by
  obtain ⟨ys, n, _, hx, hl, hlen, hf⟩ := DataW.trod_struct Tryz.underlying32 h
  have k0 : Tryz.prog.cellsOf 3 = 1 := by kernel_rfl
  have k1 : Tryz.prog.cellsOf 9 = 1 := by kernel_rfl
  have k2 : Tryz.prog.cellsOf 32 = 3 := by kernel_rfl
  rw [k2] at hl
  match cs, hl with
  | [c0, c1, c2], _ =>
    match ys, hlen with
    | [y0, y1, y2], _ =>
      have h0 := hf 0 _ rfl
      have h1 := hf 1 _ rfl
      have h2 := hf 2 _ rfl
      simp [k0, k1] at h0 h1 h2
      obtain ⟨a0, e0, -, f0⟩ := DataW.trod_int Tryz.underlying3 h0
      obtain ⟨a1, e1, -, h63⟩ := DataW.trod_string Tryz.underlying9 h1
      obtain ⟨a2, e2, -, h64⟩ := DataW.trod_string Tryz.underlying9 h2
      simp at e0 e1 e2
      subst e0 e1 e2
      exact ⟨⟨a0, a1, a2⟩, rfl, lit_ok f0, by simpa [maxLen] using h63, by simpa [maxLen] using h64⟩
theorem rq_open {w : World} {v : Value} (c : CameV 32 3 w v) : ∃ r : Rq, v = .agg (rqs r) ∧ r.k.size ≤ 9223372036854775807 ∧ r.v.size ≤ 9223372036854775807 := by
  obtain ⟨⟨cs, rfl, hcs⟩, H, enc, d, ps, fuel, hf0⟩ := c
  obtain ⟨r, e, _, h1, h2⟩ := rq_cells hf0
  refine ⟨r, ?_, h1, h2⟩
  have : cs = rqs r := Array.toList_inj.1 e
  rw [this]
set_option maxRecDepth 100000 in
theorem rs_cells {H : Type} {enc : TypeId × Value → H} {w : World} {fuel : Nat} {cs : List Value} {y : DataW H × List MemPlace} (h : DataW.trod enc Tryz.prog w 0 (fun _ => true) true fuel 37 cs = some y) :
    ∃ (c : Int) (v : ByteArray) (a : Option Addr) (p : Nat) (L : List ByteArray), cs = [.int .i64 c, .string v, .slice a L.length p] ∧ (-9223372036854775808 ≤ c ∧ c ≤ 9223372036854775807) ∧ v.size ≤ 9223372036854775807 ∧ StrsAt w a L ∧ L.length ≤ 9223372036854775807 ∧ (a = none → p = 0) := by
  have k0 : Tryz.prog.cellsOf 34 = 1 := by kernel_rfl
  have k1 : Tryz.prog.cellsOf 9 = 1 := by kernel_rfl
  have k3 : Tryz.prog.cellsOf 35 = 1 := by kernel_rfl
  have k2 : Tryz.prog.cellsOf 37 = 3 := by kernel_rfl
  obtain ⟨ys, n, _, hx, hl, hlen, hf⟩ := DataW.trod_struct Tryz.underlying37 h
  rw [k2] at hl
  match cs, hl with
  | [c0, c1, c2], _ =>
    match ys, hlen with
    | [y0, y1, y2], _ =>
      have h0 := hf 0 _ rfl
      have h1 := hf 1 _ rfl
      have h2 := hf 2 _ rfl
      simp [k0, k1, k3] at h0 h1 h2
      obtain ⟨a0, e0, -, f0⟩ := DataW.trod_int Tryz.underlying34 h0
      obtain ⟨a1, e1, -, h63⟩ := DataW.trod_string Tryz.underlying9 h1
      simp at e0 e1
      subst e0 e1
      have B : ∃ a l q, c2 = .slice a l q ∧ Came 35 w a l q ∧ (a = none → q = 0) := by
        rcases Go.ChangeShapes.open_strings Tryz.underlying35 Tryz.underlying9 (by kernel_rfl) h2 with ⟨e, _⟩ | ⟨x, l', c', ss, e, _⟩
        · simp at e; subst e; exact ⟨none, 0, 0, rfl, ⟨H, enc, _, _, n, h2⟩, fun _ => rfl⟩
        · simp at e; subst e; exact ⟨some x, l', c', rfl, ⟨H, enc, _, _, n, h2⟩, fun q => by cases q⟩
      obtain ⟨a, l, q, rfl, hk, hna⟩ := B
      obtain ⟨ls, hls, _, hm, hA⟩ := came_strs hk
      subst hls
      exact ⟨a0, a1, a, q, ls, rfl, lit_ok f0, by simpa [maxLen] using h63, hA, hm, hna⟩
theorem rs_open {w : World} {u : Value} (k : CameV 37 3 w u) : ∃ (c : Int) (v : ByteArray) (a : Option Addr) (p : Nat) (L : List ByteArray), u = .agg #[.int .i64 c, .string v, .slice a L.length p] ∧ (-9223372036854775808 ≤ c ∧ c ≤ 9223372036854775807) ∧ v.size ≤ 9223372036854775807 ∧ StrsAt w a L ∧ L.length ≤ 9223372036854775807 ∧ (a = none → p = 0) := by
  obtain ⟨⟨cs, rfl, hcs⟩, H, enc, d, ps, fuel, hf0⟩ := k
  obtain ⟨c, v, a, p, L, e, h1⟩ := rs_cells hf0
  refine ⟨c, v, a, p, L, ?_, h1⟩
  have : cs = #[.int .i64 c, .string v, .slice a L.length p] := Array.toList_inj.1 e
  rw [this]
end Go.Proofs.YtlpibpkbgmcclaaGreatDoor
namespace Go.Proofs.YtlpibpkbgmcclaaGreatDoor
open Go.RowKit
set_option linter.unusedVariables false
/-- a slice of structs of z cells each -/
theorem came_structs {t e : TypeId} {z : Nat} (hu : Tryz.prog.underlying t = some (.slice e)) (hz : Tryz.prog.cellsOf e = z) (hz0 : 0 < z) {C : Type} [Nonempty C] (cl : C → List Value) (hlen : ∀ x, (cl x).length = z) {w : World} (G : C → Prop)
    (op : ∀ {H : Type} {enc : TypeId × Value → H} {fuel : Nat} {cs : List Value} {y : DataW H × List MemPlace}, DataW.trod enc Tryz.prog w 0 (fun _ => true) true fuel e cs = some y → ∃ x : C, cs = cl x ∧ G x)
    {a : Option Addr} {l c : Nat} (h : Came t w a l c) :
    ∃ ls : List C, ls.length = l ∧ l ≤ c ∧ l ≤ 9223372036854775807 ∧ (∀ x ∈ ls, G x) ∧ (ls = [] ∨ ∃ b o, a = some ⟨b, o, none⟩ ∧ b < w.heap.size ∧ ∀ (i : Nat) (x : C), ls[i]? = some x → ∀ j v, (cl x)[j]? = some v → w.cell? ⟨b, o + i * z + j, none⟩ = some v) := by
  obtain ⟨H, enc, d, ps, ⟨fuel, hf⟩⟩ := h
  rcases Go.Deep.open_slice hu hf with ⟨hcs, _⟩ | ⟨x, l', c', m, n, Dd, Pl, hcs, hb, hl, hm, hmm, hx, hi⟩
  · simp [Value.cells] at hcs
    obtain ⟨rfl, rfl, rfl⟩ := hcs
    exact ⟨[], rfl, by omega, by omega, fun x hx => by simp at hx, .inl rfl⟩
  · simp [Value.cells] at hcs
    obtain ⟨rfl, rfl, rfl⟩ := hcs
    unfold maxLen at hm
    rw [if_pos rfl] at hmm
    rw [hz] at hi
    have each : ∀ i, i < l → ∃ y : C, G y ∧ ∀ j v, (cl y)[j]? = some v → w.cell? ((x.add (i * z)).add j) = some v := by
      intro i hil
      obtain ⟨cs', hc, ht⟩ := hi i (by omega)
      obtain ⟨y, rfl, hy⟩ := op ht
      obtain ⟨_, hcl, hat⟩ := World.cells?_some hc
      exact ⟨y, hy, fun j v hj => by rw [hat j (by have := (List.getElem?_eq_some_iff.1 hj).1; rw [hlen] at this; exact this)]; exact hj⟩
    by_cases h0 : l = 0
    · subst h0; exact ⟨[], rfl, by omega, by omega, fun x hx => by simp at hx, .inl rfl⟩
    · have hne : Nonempty C := inferInstance
      have cho : ∃ f : Nat → C, ∀ i, i < l → G (f i) ∧ ∀ j v, (cl (f i))[j]? = some v → w.cell? ((x.add (i * z)).add j) = some v := by
        refine ⟨fun i => if hil : i < l then Classical.choose (each i hil) else Classical.choice hne, fun i hil => ?_⟩
        simp only [dif_pos hil]
        exact Classical.choose_spec (each i hil)
      obtain ⟨f, hf2⟩ := cho
      refine ⟨(List.range l).map f, by simp, by omega, by omega, fun y hy => ?_, ?_⟩
      · obtain ⟨i, hi, rfl⟩ := List.mem_map.1 hy
        exact (hf2 i (List.mem_range.1 hi)).1
      · obtain ⟨v0, hv0⟩ : ∃ v, (cl (f 0))[0]? = some v := ⟨_, List.getElem?_eq_getElem (by rw [hlen]; exact hz0)⟩
        have h00 := (hf2 0 (by omega)).2 0 _ hv0
        rw [Nat.zero_mul, show x.add 0 = x from rfl] at h00
        obtain ⟨e, hblt⟩ := plain_addr h00
        refine .inr ⟨x.block, x.off, by rw [← e], hblt, fun i y hy => ?_⟩
        have hil : i < l := by have := (List.getElem?_eq_some_iff.1 hy).1; simpa using this
        simp [hil] at hy
        subst hy
        obtain ⟨_, h2⟩ := hf2 i hil
        rw [e, add_plain] at h2
        intro j v hj
        have := h2 j v hj
        rw [add_plain] at this
        exact this
def RqsAt (w : World) (a : Option Addr) (L : List Rq) : Prop := L = [] ∨ ∃ b o, a = some ⟨b, o, none⟩ ∧ b < w.heap.size ∧ ∀ (i : Nat) (r : Rq), L[i]? = some r → w.cell? ⟨b, o + i * 3 + 0, none⟩ = some (.int .i64 r.d) ∧ w.cell? ⟨b, o + i * 3 + 1, none⟩ = some (.string r.k) ∧ w.cell? ⟨b, o + i * 3 + 2, none⟩ = some (.string r.v)
theorem RqsAt.below {w w' : World} {a : Option Addr} {L : List Rq} (h : RqsAt w a L) (hb : Below w.heap.size w w') : RqsAt w' a L := by
  rcases h with h | ⟨b, o, h1, h2, h3⟩
  · exact .inl h
  · refine .inr ⟨b, o, h1, Nat.lt_of_lt_of_le h2 hb.size, fun i r hi => ?_⟩
    obtain ⟨c0, c1, c2⟩ := h3 i r hi
    exact ⟨(hb.cell (p := ⟨b, _, none⟩) h2).trans c0, (hb.cell (p := ⟨b, _, none⟩) h2).trans c1, (hb.cell (p := ⟨b, _, none⟩) h2).trans c2⟩
theorem came_rqs {w : World} {a : Option Addr} {l c : Nat} (h : Came 22 w a l c) : ∃ L : List Rq, L.length = l ∧ l ≤ c ∧ l ≤ 9223372036854775807 ∧ RqsAt w a L := by
  have : Nonempty Rq := ⟨Rq.zero⟩
  obtain ⟨ls, h1, h2, h3, _, h5⟩ := came_structs Tryz.underlying22 (z := 3) (by kernel_rfl) (by omega) (fun r : Rq => (rqs r).toList) (fun x => rfl) (w := w) (fun _ => True) (fun ht => by
    obtain ⟨r, e, _⟩ := rq_cells ht
    exact ⟨r, e, trivial⟩) h
  refine ⟨ls, h1, h2, h3, ?_⟩
  rcases h5 with q | ⟨b, o, ha, hb, hc⟩
  · exact .inl q
  · exact .inr ⟨b, o, ha, hb, fun i r hi => ⟨hc i r hi 0 _ rfl, hc i r hi 1 _ rfl, hc i r hi 2 _ rfl⟩⟩
theorem RqsAt.nth {w : World} {a : Option Addr} {L : List Rq} (h : RqsAt w a L) {i : Nat} {r : Rq} (hi : L[i]? = some r) : ∃ b o, a = some ⟨b, o, none⟩ ∧ ∀ W, Below w.heap.size w W → W.cell? ⟨b, o + i * 3, none⟩ = some (.int .i64 r.d) ∧ W.cell? ⟨b, o + i * 3 + 1, none⟩ = some (.string r.k) ∧ W.cell? ⟨b, o + i * 3 + 2, none⟩ = some (.string r.v) := by
  rcases h with h | ⟨b, o, h1, h2, h3⟩
  · rw [h] at hi; simp at hi
  · refine ⟨b, o, h1, fun W hb => ?_⟩
    obtain ⟨c0, c1, c2⟩ := h3 i r hi
    exact ⟨(hb.cell (p := ⟨b, _, none⟩) h2).trans c0, (hb.cell (p := ⟨b, _, none⟩) h2).trans c1, (hb.cell (p := ⟨b, _, none⟩) h2).trans c2⟩
end Go.Proofs.YtlpibpkbgmcclaaGreatDoor
