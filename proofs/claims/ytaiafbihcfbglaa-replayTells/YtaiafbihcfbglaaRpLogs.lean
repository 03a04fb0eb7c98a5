/- Logs in memory: a slice of slices of strings. -/
import Derived.Test.YtaiafbihcfbglaaRpPre
namespace Go.Proofs.Ytaiafbihcfbglaa
open Go.RowKit
set_option linter.unusedVariables false
/-- a log: where it lies, its capacity, its sectors -/
structure LG where
  a : Option Addr
  c : Nat
  ss : List ByteArray
def lgV (g : LG) : Value := .slice g.a g.ss.length g.c
def LogsAt (w : World) (a : Option Addr) (gs : List LG) : Prop := (gs = [] ∨ ∃ b o, a = some ⟨b, o, none⟩ ∧ b < w.heap.size ∧ ∀ (i : Nat) (g : LG), gs[i]? = some g → w.cell? ⟨b, o + i, none⟩ = some (lgV g)) ∧ ∀ g ∈ gs, StrsAt w g.a g.ss
theorem LogsAt.below {w w' : World} {a : Option Addr} {gs : List LG} (h : LogsAt w a gs) (hb : Below w.heap.size w w') : LogsAt w' a gs := by
  refine ⟨?_, fun g hg => (h.2 g hg).below hb⟩
  rcases h.1 with q | ⟨b, o, ha, hlt, hc⟩
  · exact .inl q
  · exact .inr ⟨b, o, ha, Nat.lt_of_lt_of_le hlt hb.size, fun i g hg => (hb.cell (p := ⟨b, o + i, none⟩) hlt).trans (hc i g hg)⟩
theorem LogsAt.nth {w : World} {a : Option Addr} {gs : List LG} (h : LogsAt w a gs) {k : Nat} {g : LG} (hg : gs[k]? = some g) : ∃ b o, a = some ⟨b, o, none⟩ ∧ b < w.heap.size ∧ w.cell? ⟨b, o + k, none⟩ = some (.slice g.a g.ss.length g.c) ∧ StrsAt w g.a g.ss := by
  rcases h.1 with q | ⟨b, o, ha, hlt, hc⟩
  · rw [q] at hg; simp at hg
  · exact ⟨b, o, ha, hlt, hc k g hg, h.2 g (List.mem_of_getElem? hg)⟩
def lgS (gs : List LG) : List (List ByteArray) := gs.map LG.ss
theorem choR_yes {gs : List LG} {k : Nat} {g : LG} (hg : gs[k]? = some g) (h : (choR (lgS gs) k).2 < 0 ∨ (choR (lgS gs) k).1.length < (prefR g.ss).length) : choR (lgS gs) (k + 1) = (prefR g.ss, (k : Int)) := by
  have e : (lgS gs).getD k [] = g.ss := by unfold lgS; rw [List.getD_eq_getElem?_getD, List.getElem?_map, hg]; rfl
  simp only [choR, e]
  rw [if_pos h]
theorem choR_no {gs : List LG} {k : Nat} {g : LG} (hg : gs[k]? = some g) (h1 : ¬ (choR (lgS gs) k).2 < 0) (h2 : ¬ (choR (lgS gs) k).1.length < (prefR g.ss).length) : choR (lgS gs) (k + 1) = choR (lgS gs) k := by
  have e : (lgS gs).getD k [] = g.ss := by unfold lgS; rw [List.getD_eq_getElem?_getD, List.getElem?_map, hg]; rfl
  simp only [choR, e]
  rw [if_neg (by simp [h1]; omega)]
/-- the longest of the first k logs' prefixes, in a row -/
def ChI (gs : List LG) (k : Nat) (w wr : World) (x y : Value) : Prop := ∃ (l : List RT) (a : Option Addr) (c : Nat), x = .slice a l.length c ∧ l.length ≤ c ∧ y = .int .i64 (choR (lgS gs) k).2 ∧ l.map Prod.fst = (choR (lgS gs) k).1 ∧ RecsAt wr a l ∧ Below w.heap.size w wr
theorem ChI.nil (gs : List LG) (w : World) : ChI gs 0 w w (.slice none 0 0) (.int .i64 (-1)) := ⟨[], none, 0, rfl, Nat.le_refl _, rfl, rfl, RecsAt.nil _ _, Below.refl _ _⟩
def ChP (gs : List LG) (w : World) (e : Ending) (w' : World) : Prop := ∃ x y, e = .returned (.tuple #[x, y]) ∧ ChI gs gs.length w w' x y
end Go.Proofs.Ytaiafbihcfbglaa
