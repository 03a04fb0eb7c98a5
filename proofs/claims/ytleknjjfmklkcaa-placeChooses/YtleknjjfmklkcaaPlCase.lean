/- A law's argument as it came in: a case (two numbers, two slices of numbers). -/
import Derived.Test.YtleknjjfmklkcaaPlLive
import Derived.Test.YtleknjjfmklkcaaCameV
namespace Go.Proofs.Ytleknjjfmklkcaa
open Go.RowKit
set_option linter.unusedVariables false
theorem case_open {w : World} {v : Value} (c : CameV 24 4 w v) : ∃ (id gen : Int) (a : Option Addr) (n k : Nat) (a2 : Option Addr) (n2 k2 : Nat) (l l2 : List Int), v = .agg #[.int .i64 id, .int .i64 gen, .slice a n k, .slice a2 n2 k2] ∧ l.length = n ∧ n ≤ 9223372036854775807 ∧ IntsAt w a l ∧ l2.length = n2 ∧ n2 ≤ 9223372036854775807 ∧ IntsAt w a2 l2 := by
  obtain ⟨⟨cs, rfl, hcs4⟩, H, enc, d, ps, fuel, hf0⟩ := c
  have k1 : Try.prog.cellsOf 3 = 1 := by kernel_rfl
  have k2 : Try.prog.cellsOf 22 = 1 := by kernel_rfl
  have k4 : Try.prog.cellsOf 24 = 4 := by kernel_rfl
  obtain ⟨ys, n, _, hx, hl, hlen, hf⟩ := DataW.trod_struct Try.underlying24 hf0
  rw [k4] at hl
  obtain ⟨l, rfl⟩ : ∃ l : List Value, cs = l.toArray := ⟨cs.toList, by simp⟩
  simp only [Value.cells] at hl hf
  match l, hl with
  | [c0, c1, c2, c3], _ =>
    match ys, hlen with
    | [y0, y1, y2, y3], _ =>
      have h0 := hf 0 _ rfl
      have h1 := hf 1 _ rfl
      have h2 := hf 2 _ rfl
      have h3 := hf 3 _ rfl
      simp [k1, k2] at h0 h1 h2 h3
      obtain ⟨a0, e0, -, -⟩ := DataW.trod_int Try.underlying3 h0
      obtain ⟨a1, e1, -, -⟩ := DataW.trod_int Try.underlying3 h1
      have B : ∀ (c : Value) y, DataW.trod enc Try.prog w 0 (fun _ => true) true n 22 [c] = some y → ∃ a l q, c = .slice a l q ∧ Came 22 w a l q := by
        intro c y hc
        rcases DataW.trod_slice Try.underlying22 hc with ⟨e, _⟩ | ⟨a, len, cap, _, _, _, _, e, _⟩
        · simp at e; subst e; exact ⟨none, 0, 0, rfl, H, enc, _, _, n, hc⟩
        · simp at e; subst e; exact ⟨some a, len, cap, rfl, H, enc, _, _, n, hc⟩
      obtain ⟨ka, kn, kc, rfl, hk⟩ := B _ _ h2
      obtain ⟨ta, tn, tc, rfl, ht⟩ := B _ _ h3
      simp at e0 e1
      subst e0 e1
      obtain ⟨kl, hkl, _, hk63, hkA⟩ := came_ints hk
      obtain ⟨tl, htl, _, ht63, htA⟩ := came_ints ht
      exact ⟨a0, a1, ka, kn, kc, ta, tn, tc, kl, tl, rfl, hkl, hk63, hkA, htl, ht63, htA⟩
end Go.Proofs.Ytleknjjfmklkcaa
