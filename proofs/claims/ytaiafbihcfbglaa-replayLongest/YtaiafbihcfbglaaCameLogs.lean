/- A law's argument as it came in: logs, a slice of slices of strings, each within the reach. -/
import Derived.Test.YtaiafbihcfbglaaRpLogs
import Derived.SizedLaws
namespace Go.Proofs.Ytaiafbihcfbglaa
open Go.RowKit
set_option linter.unusedVariables false
/-- what a law knows of a slice that came in, and of what all in it weighs -/
def CameSz (t : TypeId) (w : World) (a : Option Addr) (l c : Nat) : Prop := ∃ (H : Type) (enc : TypeId × Value → H) (d : DataW H) (ps : List MemPlace), DataW.Trod enc Try.prog w 0 (fun _ => true) true t (.slice a l c) d ps ∧ ∀ n ∈ d.weights Try.prog t, n ≤ reachBytes
theorem weightsAll_mem {H : Type} {P : Program} {e : TypeId} : ∀ {ds : List (DataW H)} {d : DataW H}, d ∈ ds → ∀ n ∈ d.weights P e, n ∈ DataW.weightsAll P e ds
  | d0 :: ds, d, hd, n, hn => by
    simp only [DataW.weightsAll, List.mem_append]
    rcases List.mem_cons.1 hd with rfl | h
    · exact Or.inl hn
    · exact Or.inr (weightsAll_mem h n hn)
theorem strs_sz {H : Type} {enc : TypeId × Value → H} {w : World} {fuel : Nat} {cs : List Value} {y : DataW H × List MemPlace} (h : DataW.trod enc Try.prog w 0 (fun _ => true) true fuel 22 cs = some y) (hw : ∀ n ∈ y.1.weights Try.prog 22, n ≤ reachBytes) :
    ∃ g : LG, cs = [lgV g] ∧ g.ss.length ≤ 9223372036854775807 ∧ StrsAt w g.a g.ss ∧ ∀ s ∈ g.ss, s.size ≤ 150000000000000 := by
  rcases Go.ChangeShapes.open_strings Try.underlying22 Try.underlying9 (by kernel_rfl) h with ⟨hcs, _⟩ | ⟨x, l, c, ss, hcs, _, hl, hm, hz, hy, hcell, _⟩
  · exact ⟨⟨none, 0, []⟩, hcs, by simp, .inl rfl, fun s hs => by simp at hs⟩
  · simp only [if_true] at hz
    unfold maxLen at hm
    have hlen : (ss.take l).length = l := by rw [List.length_take]; omega
    refine ⟨⟨some x, c, ss.take l⟩, by rw [hcs]; unfold lgV; simp only [hlen], by simp only [hlen]; omega, ?_, ?_⟩
    · by_cases h0 : l = 0
      · exact .inl (by subst h0; rfl)
      · obtain ⟨e, hb⟩ := plain_addr (hcell 0 (by omega))
        refine .inr ⟨x.block, x.off, by simp only [← e], hb, fun i s hs => ?_⟩
        simp only at hs
        have hi : i < l := by have := (List.getElem?_eq_some_iff.1 hs).1; rw [List.length_take] at this; omega
        rw [List.getElem?_take, if_pos hi] at hs
        have := hcell i (by omega)
        rw [e, add_plain] at this
        rw [this, List.getD_eq_getElem?_getD, hs]; rfl
    · intro s hs
      simp only at hs
      have hmem : (DataW.lit (.string s.data.toList) : DataW H) ∈ Go.ChangeShapes.strs (ss.take l) := by
        unfold Go.ChangeShapes.strs
        exact List.mem_map.2 ⟨s, hs, rfl⟩
      have h1 := hw s.data.toList.length (by
        rw [hy]
        simp only [DataW.weights, Try.underlying22, List.mem_cons, List.mem_append]
        exact Or.inr (Or.inl (weightsAll_mem hmem _ (List.mem_singleton.2 rfl))))
      unfold reachBytes at h1
      have h2 : s.data.toList.length = s.size := by rw [Array.length_toList]; rfl
      omega
theorem came_logs {w : World} {a : Option Addr} {l c : Nat} (h : CameSz 46 w a l c) : ∃ gs : List LG, gs.length = l ∧ l ≤ 9223372036854775807 ∧ LogsAt w a gs ∧ ∀ g ∈ gs, g.ss.length ≤ 9223372036854775807 ∧ ∀ s ∈ g.ss, s.size ≤ 150000000000000 := by
  obtain ⟨H, enc, d, ps, ⟨fuel, hf⟩, hw⟩ := h
  rcases Go.Deep.open_slice Try.underlying46 hf with ⟨hcs, _⟩ | ⟨x, l', c', m, n, Dd, Pl, hcs, hb, hl, hm, hmm, hx, hi⟩
  · simp [Value.cells] at hcs
    obtain ⟨rfl, rfl, rfl⟩ := hcs
    exact ⟨[], rfl, by omega, ⟨.inl rfl, fun x hx => by simp at hx⟩, fun x hx => by simp at hx⟩
  · simp [Value.cells] at hcs
    obtain ⟨rfl, rfl, rfl⟩ := hcs
    unfold maxLen at hm
    have k1 : Try.prog.cellsOf 22 = 1 := by kernel_rfl
    rw [if_pos rfl] at hmm
    rw [k1] at hi
    have hwD : ∀ i, i < l → ∀ n ∈ (Dd i).weights Try.prog 22, n ≤ reachBytes := fun i hil n hn => hw n (by
      have hd : d = .slice ((List.range l).map Dd) ((List.range (m - l)).map fun j => Dd (l + j)) := congrArg Prod.fst hx
      rw [hd]
      simp only [DataW.weights, Try.underlying46, List.mem_cons, List.mem_append]
      exact Or.inr (Or.inl (weightsAll_mem (List.mem_map.2 ⟨i, List.mem_range.2 hil, rfl⟩) n hn)))
    have each : ∀ i, i < l → ∃ g : LG, w.cell? (x.add i) = some (lgV g) ∧ g.ss.length ≤ 9223372036854775807 ∧ StrsAt w g.a g.ss ∧ ∀ s ∈ g.ss, s.size ≤ 150000000000000 := by
      intro i hil
      obtain ⟨cs', hc, ht⟩ := hi i (by omega)
      obtain ⟨g, rfl, h1, h2, h3⟩ := strs_sz ht (hwD i hil)
      obtain ⟨_, hcl, hat⟩ := World.cells?_some hc
      have := hat 0 (by omega)
      rw [Nat.mul_one] at this
      exact ⟨g, this, h1, h2, h3⟩
    by_cases h0 : l = 0
    · subst h0; exact ⟨[], rfl, by omega, ⟨.inl rfl, fun x hx => by simp at hx⟩, fun x hx => by simp at hx⟩
    · have cho : ∃ f : Nat → LG, ∀ i, i < l → w.cell? (x.add i) = some (lgV (f i)) ∧ (f i).ss.length ≤ 9223372036854775807 ∧ StrsAt w (f i).a (f i).ss ∧ ∀ s ∈ (f i).ss, s.size ≤ 150000000000000 := by
        refine ⟨fun i => if hil : i < l then Classical.choose (each i hil) else ⟨none, 0, []⟩, fun i hil => ?_⟩
        simp only [dif_pos hil]
        exact Classical.choose_spec (each i hil)
      obtain ⟨f, hf2⟩ := cho
      refine ⟨(List.range l).map f, by simp, by omega, ⟨?_, fun g hg => ?_⟩, fun g hg => ?_⟩
      · have h00 := (hf2 0 (by omega)).1
        obtain ⟨e, hblt⟩ := plain_addr h00
        refine .inr ⟨x.block, x.off, by rw [← e], hblt, fun i g hg => ?_⟩
        have hil : i < l := by have := (List.getElem?_eq_some_iff.1 hg).1; simpa using this
        simp [hil] at hg
        subst hg
        have h2 := (hf2 i hil).1
        rw [e, add_plain] at h2
        exact h2
      · obtain ⟨i, hi, rfl⟩ := List.mem_map.1 hg
        exact (hf2 i (List.mem_range.1 hi)).2.2.1
      · obtain ⟨i, hi, rfl⟩ := List.mem_map.1 hg
        exact ⟨(hf2 i (List.mem_range.1 hi)).2.1, (hf2 i (List.mem_range.1 hi)).2.2.2⟩
end Go.Proofs.Ytaiafbihcfbglaa
