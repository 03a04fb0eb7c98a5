/- One bank of disks, and two of them, in a law's walk. -/
import Derived.Test.YtnpioaidbmllkaaDkCt
namespace Go.Proofs.Ytnpioaidbmllkaa
open Go.RowKit
set_option linter.unusedVariables false
structure One (w0 w : World) (b : Nat) (D : Nat → Dk) (C : Nat → Ct) : Prop where
  bk : Bk w b D
  ct : Cont D C
  foot : ∀ k, Foot b D k → w0.heap.size ≤ k
  below : Below w0.heap.size w0 w
theorem One.did {w0 w w' : World} {b : Nat} {D : Nat → Dk} {C C' : Nat → Ct} (h : One w0 w b D C) (d : Did b D w C' w') : ∃ D', One w0 w' b D' C' ∧ Step b D w D' w' := by
  obtain ⟨D', hB, hS, hC⟩ := d
  have hz := h.below.size
  refine ⟨D', ⟨hB, hC, fun k hk => ?_, h.below.trans (hS.below hz h.foot)⟩, hS⟩
  rcases hS.foot k hk with hx | hx
  · exact h.foot k hx
  · omega
theorem One.go {w0 w w' : World} {b : Nat} {D : Nat → Dk} {C C' : Nat → Ct} (h : One w0 w b D C) (d : Did b D w C' w') : ∃ D', One w0 w' b D' C' := (h.did d).imp fun _ h => h.1
theorem One.stay {w0 w w' : World} {b : Nat} {D : Nat → Dk} {C : Nat → Ct} (h : One w0 w b D C) (hb : Below w.heap.size w w') : One w0 w' b D C :=
  ⟨h.bk.below hb, h.ct, h.foot, h.below.trans (hb.mono h.below.size)⟩
structure Two (w0 w : World) (b : Nat) (D : Nat → Dk) (C : Nat → Ct) (c : Nat) (E : Nat → Dk) (C2 : Nat → Ct) : Prop where
  fst : One w0 w b D C
  snd : One w0 w c E C2
  apart : ∀ k, Foot b D k → ¬ Foot c E k
theorem Two.left {w0 w w' : World} {b c : Nat} {D E : Nat → Dk} {C C' C2 : Nat → Ct} (h : Two w0 w b D C c E C2) (d : Did b D w C' w') : ∃ D', Two w0 w' b D' C' c E C2 := by
  obtain ⟨D', h1, hS⟩ := h.fst.did d
  refine ⟨D', h1, ⟨h.snd.bk.other hS h.apart, h.snd.ct, h.snd.foot, h1.below⟩, fun k hk he => ?_⟩
  rcases hS.foot k hk with hx | hx
  · exact h.apart k hx he
  · have := h.snd.bk.lt he; omega
theorem Two.right {w0 w w' : World} {b c : Nat} {D E : Nat → Dk} {C C' C2 : Nat → Ct} (h : Two w0 w b D C c E C2) (d : Did c E w C' w') : ∃ E', Two w0 w' b D C c E' C' := by
  obtain ⟨E', h1, hS⟩ := h.snd.did d
  refine ⟨E', ⟨h.fst.bk.other hS (fun k hk he => h.apart k he hk), h.fst.ct, h.fst.foot, h1.below⟩, h1, fun k hk he => ?_⟩
  rcases hS.foot k he with hx | hx
  · exact h.apart k hk hx
  · have := h.fst.bk.lt hk; omega
theorem Two.stay {w0 w w' : World} {b c : Nat} {D E : Nat → Dk} {C C2 : Nat → Ct} (h : Two w0 w b D C c E C2) (hb : Below w.heap.size w w') : Two w0 w' b D C c E C2 := ⟨h.fst.stay hb, h.snd.stay hb, h.apart⟩
/-- behind Copy -/
theorem One.two {w0 w w' : World} {b : Nat} {D E : Nat → Dk} {C : Nat → Ct} (h : One w0 w b D C) (hB : Bk w' w.heap.size E) (hC : Cont E C) (hf : ∀ i, Foot w.heap.size E i → w.heap.size ≤ i) (hb : Below w.heap.size w w') : Two w0 w' b D C w.heap.size E C :=
  ⟨h.stay hb, ⟨hB, hC, fun k hk => Nat.le_trans h.below.size (hf k hk), (h.stay hb).below⟩, fun k hk he => by have := h.bk.lt hk; have := hf k he; omega⟩
def C0 : Nat → Ct := fun _ => ⟨false, fun _ => ByteArray.empty, []⟩
theorem cont0 : Cont (fun _ => dk0) C0 := fun _ _ => rfl
theorem few0 : Few 0 C0 := fun _ _ => ⟨Nat.le_refl _, fun y hy => by cases hy⟩
theorem foot_new0 {w0 w : World} (h : Below w0.heap.size w0 w) (k : Nat) (hk : Foot w.heap.size (fun _ => dk0) k) : w0.heap.size ≤ k := by
  rcases hk with hx | ⟨d, _, hx⟩
  · have := h.size; omega
  · cases hx
theorem one_new0 {w0 w w' : World} (h : Below w0.heap.size w0 w) (hB : Bk w' w.heap.size fun _ => dk0) (hb : Below w.heap.size w w') : One w0 w' w.heap.size (fun _ => dk0) C0 :=
  ⟨hB, cont0, foot_new0 h, h.trans (hb.mono h.size)⟩
theorem bools_one {w : World} (b : Bool) : BoolsAt (w.alloc (.cells #[.bool b] 4)) (some ⟨w.heap.size, 0, none⟩) [b] := .inr ⟨w.heap.size, 0, rfl, by rw [World.size_alloc]; omega, fun i s hs => by
  match i, hs with
  | 0, hs => cases hs; exact cell_of_block (c := #[.bool b]) (heap_alloc_new _ _)⟩
theorem bools_keep {w w' : World} {a : Option Addr} {l : List Bool} (h : BoolsAt w a l) (hb : Below w.heap.size w w') : BoolsAt w' a l := by
  rcases h with h | ⟨b, o, ha, hlt, hc⟩
  · exact .inl h
  · exact .inr ⟨b, o, ha, Nat.lt_of_lt_of_le hlt hb.size, fun i s hs => (hb.cell (p := ⟨b, o + i, none⟩) hlt).trans (hc i s hs)⟩
end Go.Proofs.Ytnpioaidbmllkaa
