/- A law's argument as it came in: a slice of records, each with its places. -/
import Derived.Test.YtaiafbihcfbglaaCameRc
import Derived.Test.YtaiafbihcfbglaaRpMem
namespace Go.Proofs.Ytaiafbihcfbglaa
open Go.RowKit
set_option linter.unusedVariables false
theorem came_recs {w : World} {a : Option Addr} {l c : Nat} (h : Came 23 w a l c) : ∃ ls : List RT, ls.length = l ∧ l ≤ c ∧ l ≤ 9223372036854775807 ∧ RecsAt w a ls ∧ ∀ x ∈ ls, x.1.cm := by
  obtain ⟨H, enc, d, ps, fuel, hf⟩ := h
  rcases Go.Deep.open_slice Try.underlying23 hf with ⟨hcs, _⟩ | ⟨x, l', c', m, n, Dd, Pl, hcs, hb, hl, hm, hmm, hx, hi⟩
  · simp [Value.cells] at hcs
    obtain ⟨rfl, rfl, rfl⟩ := hcs
    exact ⟨[], rfl, by omega, by omega, RecsAt.nil _ _, fun x hx => by simp at hx⟩
  · simp [Value.cells] at hcs
    obtain ⟨rfl, rfl, rfl⟩ := hcs
    unfold maxLen at hm
    have k14 : Try.prog.cellsOf 33 = 14 := by kernel_rfl
    rw [if_pos rfl] at hmm
    rw [k14] at hi
    have each : ∀ i, i < l → ∃ y : RT, (LocsAt w y.2.1 y.1.ls ∧ y.1.cm) ∧ ∀ j v, (rtC y).toList[j]? = some v → w.cell? ((x.add (i * 14)).add j) = some v := by
      intro i hil
      obtain ⟨cs', hc, ht⟩ := hi i (by omega)
      obtain ⟨r, ra, rc, e, h1, h2⟩ := rc_cells ht
      obtain ⟨_, hcl, hat⟩ := World.cells?_some hc
      refine ⟨(r, ra, rc), ⟨h1, h2⟩, fun j v hj => ?_⟩
      have hj14 : j < 14 := by have := (List.getElem?_eq_some_iff.1 hj).1; rwa [rtC_len] at this
      rw [hat j hj14]
      have e2 : cs' = (rtC (r, ra, rc)).toList := by
        have := congrArg Array.toList e
        simpa [rtC] using this
      rw [e2]
      exact hj
    by_cases h0 : l = 0
    · subst h0; exact ⟨[], rfl, hl, by omega, RecsAt.nil _ _, fun x hx => by simp at hx⟩
    · have hne : Nonempty RT := ⟨(Rc.zero, none, 0)⟩
      have cho : ∃ f : Nat → RT, ∀ i, i < l → (LocsAt w (f i).2.1 (f i).1.ls ∧ (f i).1.cm) ∧ ∀ j v, (rtC (f i)).toList[j]? = some v → w.cell? ((x.add (i * 14)).add j) = some v := by
        refine ⟨fun i => if hil : i < l then Classical.choose (each i hil) else Classical.choice hne, fun i hil => ?_⟩
        simp only [dif_pos hil]
        exact Classical.choose_spec (each i hil)
      obtain ⟨f, hf2⟩ := cho
      refine ⟨(List.range l).map f, by simp, hl, by omega, ⟨?_, fun y hy => ?_⟩, fun y hy => ?_⟩
      · have h00 := (hf2 0 (by omega)).2 0 _ rfl
        rw [Nat.zero_mul, show x.add 0 = x from rfl] at h00
        obtain ⟨e, hblt⟩ := plain_addr h00
        refine .inr ⟨x.block, x.off, by rw [← e], hblt, fun i y hy => ?_⟩
        have hil : i < l := by have := (List.getElem?_eq_some_iff.1 hy).1; simpa using this
        simp [hil] at hy
        subst hy
        intro j v hj
        have h2 := (hf2 i hil).2 j v hj
        rw [e, add_plain, add_plain] at h2
        exact h2
      · obtain ⟨i, hi, rfl⟩ := List.mem_map.1 hy
        exact (hf2 i (List.mem_range.1 hi)).1.1
      · obtain ⟨i, hi, rfl⟩ := List.mem_map.1 hy
        exact (hf2 i (List.mem_range.1 hi)).1.2
end Go.Proofs.Ytaiafbihcfbglaa
