/- A map's keys are texts that a machine holds: a longer one is not there. -/
import Derived.Test.YtlpibpkbgmcclaaDoorMdMem
import Derived.Sort.KeysCollected
namespace Go.Proofs.YtlpibpkbgmcclaaDoor
open Go.RowKit Go.Maps Go.Sort
set_option linter.unusedVariables false
theorem find_long (s : ByteArray) (hs : ¬ okS s) : ∀ (es : List MapEntry) (i : Nat), (∀ e ∈ es, ∃ x : List UInt8, e.key = encStr x ∧ x.length ≤ maxLen) → Instr.findNow .string (.string s) es i = some none := by
  intro es
  induction es with
  | nil => intro i _; rfl
  | cons e es ih =>
    intro i h
    obtain ⟨x, hx, hl⟩ := h e (List.mem_cons_self ..)
    have hne : (s == (⟨x.toArray⟩ : ByteArray)) = false := by
      cases hq : s == (⟨x.toArray⟩ : ByteArray)
      · rfl
      · exfalso
        have hq : s = ⟨x.toArray⟩ := by
          have h2 : s.data = x.toArray := by
            cases s
            exact eq_of_beq hq
          cases s; simp only at h2; rw [h2]
        apply hs
        rw [hq]
        show x.toArray.size ≤ _
        simpa using hl
    simp only [Instr.findNow, hx, encStr, Instr.sameNow, hne]
    exact ih (i + 1) fun e he => h e (List.mem_cons_of_mem _ he)
theorem look1_long {w : World} {b n : Nat} {f : ByteArray → Option Value} (h : MAt w 9 b n lStr okS f) {t e : TypeId} (ht : Tryd.prog.underlying t = some (.map 9 e)) {z : Value} (hz : (zeroValue e).run Tryd.prog w = .ok z w) (s : ByteArray) (hs : ¬ okS s) :
    (Instr.lookup t (.map (some b)) (.string s) false).run Tryd.prog w = .ok z w := by
  obtain ⟨D, ⟨es, clock, hb, F, _, rfl⟩, _⟩ := h
  have hk : ∀ e ∈ es.toList, ∃ x : List UInt8, e.key = encStr x ∧ x.length ≤ maxLen := fun e he => by
    obtain ⟨l, hl⟩ := F.keys e he
    obtain ⟨x, hx, _, hlen⟩ := Maps.keyOf_str Tryd.underlying9 hl
    exact ⟨x, hx, hlen⟩
  have hf := find_long s hs es.toList 0 hk
  have hu := run_underlying (P := Tryd.prog) Tryd.underlying9 w
  have hc := MapKept.run_checkKey (P := Tryd.prog) Tryd.underlying9 (d := .string) (k := .string s) trivial es.isEmpty 9999 (w := w)
  have hfk : (Instr.findKey 9 (.string s) es.toList).run Tryd.prog w = .ok none w := by
    simp [Instr.findKey, hu, hf, Result.andThen]
  simp only [Instr.lookup, run_underlying ht, MapKept.run_getObj_map hb, Sem.run_bind, Sem.run_pure, Result.andThen_ok, hc, hfk, hz]
  simp
end Go.Proofs.YtlpibpkbgmcclaaDoor
