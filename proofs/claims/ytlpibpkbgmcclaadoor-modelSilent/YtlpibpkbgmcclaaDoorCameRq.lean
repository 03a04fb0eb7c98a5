/- A law's arguments as they came in: a request; an answer. -/
import Derived.Test.YtlpibpkbgmcclaaDoorCameV
import Derived.Test.YtlpibpkbgmcclaaDoorRqMath
import Derived.SizedLaws
namespace Go.Proofs.YtlpibpkbgmcclaaDoor
open Go.RowKit
set_option linter.unusedVariables false
theorem lit_ok {x : Int} (f : (Lit.int .i64 x).wf = true) : -9223372036854775808 ≤ x ∧ x ≤ 9223372036854775807 := by
  simp [Lit.wf, IntKind.min, IntKind.max, IntKind.signed, IntKind.bits] at f
  omega
set_option maxRecDepth 100000 in
theorem rq_cells {H : Type} {enc : TypeId × Value → H} {w : World} {fuel : Nat} {cs : List Value} {y : DataW H × List MemPlace} (h : DataW.trod enc Tryd.prog w 0 (fun _ => true) true fuel 24 cs = some y) :
    ∃ r : Rq, cs = (rqs r).toList ∧ (-9223372036854775808 ≤ r.d ∧ r.d ≤ 9223372036854775807) ∧ r.k.size ≤ 9223372036854775807 ∧ r.v.size ≤ 9223372036854775807 := by
  obtain ⟨ys, n, _, hx, hl, hlen, hf⟩ := DataW.trod_struct Tryd.underlying24 h
  have k0 : Tryd.prog.cellsOf 3 = 1 := by kernel_rfl
  have k1 : Tryd.prog.cellsOf 9 = 1 := by kernel_rfl
  have k2 : Tryd.prog.cellsOf 24 = 3 := by kernel_rfl
  rw [k2] at hl
  match cs, hl with
  | [c0, c1, c2], _ =>
    match ys, hlen with
    | [y0, y1, y2], _ =>
      have h0 := hf 0 _ rfl
      have h1 := hf 1 _ rfl
      have h2 := hf 2 _ rfl
      simp [k0, k1] at h0 h1 h2
      obtain ⟨a0, e0, -, f0⟩ := DataW.trod_int Tryd.underlying3 h0
      obtain ⟨a1, e1, -, h63⟩ := DataW.trod_string Tryd.underlying9 h1
      obtain ⟨a2, e2, -, h64⟩ := DataW.trod_string Tryd.underlying9 h2
      simp at e0 e1 e2
      subst e0 e1 e2
      exact ⟨⟨a0, a1, a2⟩, rfl, lit_ok f0, by simpa [maxLen] using h63, by simpa [maxLen] using h64⟩
theorem rq_open {w : World} {v : Value} (c : CameV 24 3 w v) : ∃ r : Rq, v = .agg (rqs r) ∧ r.k.size ≤ 9223372036854775807 ∧ r.v.size ≤ 9223372036854775807 := by
  obtain ⟨⟨cs, rfl, hcs⟩, H, enc, d, ps, fuel, hf0⟩ := c
  obtain ⟨r, e, _, h1, h2⟩ := rq_cells hf0
  refine ⟨r, ?_, h1, h2⟩
  have : cs = rqs r := Array.toList_inj.1 e
  rw [this]
set_option maxRecDepth 100000 in
theorem rs_cells {H : Type} {enc : TypeId × Value → H} {w : World} {fuel : Nat} {cs : List Value} {y : DataW H × List MemPlace} (h : DataW.trod enc Tryd.prog w 0 (fun _ => true) true fuel 32 cs = some y) :
    ∃ (c : Int) (v : ByteArray) (a : Option Addr) (p : Nat) (L : List ByteArray), cs = [.int .i64 c, .string v, .slice a L.length p] ∧ (-9223372036854775808 ≤ c ∧ c ≤ 9223372036854775807) ∧ v.size ≤ 9223372036854775807 ∧ StrsAt w a L ∧ L.length ≤ 9223372036854775807 ∧ (a = none → p = 0) := by
  have k0 : Tryd.prog.cellsOf 29 = 1 := by kernel_rfl
  have k1 : Tryd.prog.cellsOf 9 = 1 := by kernel_rfl
  have k3 : Tryd.prog.cellsOf 30 = 1 := by kernel_rfl
  have k2 : Tryd.prog.cellsOf 32 = 3 := by kernel_rfl
  obtain ⟨ys, n, _, hx, hl, hlen, hf⟩ := DataW.trod_struct Tryd.underlying32 h
  rw [k2] at hl
  match cs, hl with
  | [c0, c1, c2], _ =>
    match ys, hlen with
    | [y0, y1, y2], _ =>
      have h0 := hf 0 _ rfl
      have h1 := hf 1 _ rfl
      have h2 := hf 2 _ rfl
      simp [k0, k1, k3] at h0 h1 h2
      obtain ⟨a0, e0, -, f0⟩ := DataW.trod_int Tryd.underlying29 h0
      obtain ⟨a1, e1, -, h63⟩ := DataW.trod_string Tryd.underlying9 h1
      simp at e0 e1
      subst e0 e1
      have B : ∃ a l q, c2 = .slice a l q ∧ Came 30 w a l q ∧ (a = none → q = 0) := by
        rcases Go.ChangeShapes.open_strings Tryd.underlying30 Tryd.underlying9 (by kernel_rfl) h2 with ⟨e, _⟩ | ⟨x, l', c', ss, e, _⟩
        · simp at e; subst e; exact ⟨none, 0, 0, rfl, ⟨H, enc, _, _, n, h2⟩, fun _ => rfl⟩
        · simp at e; subst e; exact ⟨some x, l', c', rfl, ⟨H, enc, _, _, n, h2⟩, fun q => by cases q⟩
      obtain ⟨a, l, q, rfl, hk, hna⟩ := B
      obtain ⟨ls, hls, _, hm, hA⟩ := came_strs hk
      subst hls
      exact ⟨a0, a1, a, q, ls, rfl, lit_ok f0, by simpa [maxLen] using h63, hA, hm, hna⟩
theorem rs_open {w : World} {u : Value} (k : CameV 32 3 w u) : ∃ (c : Int) (v : ByteArray) (a : Option Addr) (p : Nat) (L : List ByteArray), u = .agg #[.int .i64 c, .string v, .slice a L.length p] ∧ (-9223372036854775808 ≤ c ∧ c ≤ 9223372036854775807) ∧ v.size ≤ 9223372036854775807 ∧ StrsAt w a L ∧ L.length ≤ 9223372036854775807 ∧ (a = none → p = 0) := by
  obtain ⟨⟨cs, rfl, hcs⟩, H, enc, d, ps, fuel, hf0⟩ := k
  obtain ⟨c, v, a, p, L, e, h1⟩ := rs_cells hf0
  refine ⟨c, v, a, p, L, ?_, h1⟩
  have : cs = #[.int .i64 c, .string v, .slice a L.length p] := Array.toList_inj.1 e
  rw [this]
end Go.Proofs.YtlpibpkbgmcclaaDoor
