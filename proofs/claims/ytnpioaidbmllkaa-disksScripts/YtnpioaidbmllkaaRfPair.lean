/- The program's disks beside the document's. -/
import Derived.Test.YtnpioaidbmllkaaRfCrash
namespace Go.Proofs.Ytnpioaidbmllkaa
open Go.RowKit
set_option linter.unusedVariables false
structure Pair (w0 w : World) (b : Nat) (D : Nat → Dk) (C : Nat → Ct) (rb : Nat) (v : Value) (R : Nat → Rk) (C2 : Nat → Ct) : Prop where
  one : One w0 w b D C
  rbk : RB w rb v 12 R
  ct : ContR R C2
  foot : ∀ q, RFoot rb v 12 R q → w0.heap.size ≤ q
  apart : ∀ q, Foot b D q → ¬ RFoot rb v 12 R q
theorem Pair.left {w0 w w' : World} {b : Nat} {D : Nat → Dk} {C C' : Nat → Ct} {rb : Nat} {v : Value} {R : Nat → Rk} {C2 : Nat → Ct} (h : Pair w0 w b D C rb v R C2) (d : Did b D w C' w') : ∃ D', Pair w0 w' b D' C' rb v R C2 := by
  obtain ⟨D', h1, hS⟩ := h.one.did d
  refine ⟨D', h1, h.rbk.keep fun q hq => hS.block q (h.rbk.lt hq) fun hf => h.apart q hf hq, h.ct, h.foot, fun q hq hr => ?_⟩
  rcases hS.foot q hq with hx | hx
  · exact h.apart q hx hr
  · have := h.rbk.lt hr; omega
theorem Pair.right {w0 w w' : World} {b : Nat} {D : Nat → Dk} {C : Nat → Ct} {rb : Nat} {v : Value} {R : Nat → Rk} {C2 C2' : Nat → Ct} (h : Pair w0 w b D C rb v R C2) (d : DidR rb v R w C2' w') : ∃ R', Pair w0 w' b D C rb v R' C2' := by
  obtain ⟨R', hB, hS, hC⟩ := d
  have hz := h.one.below.size
  refine ⟨R', ⟨h.one.bk.keep fun q hq => hS.block q (h.one.bk.lt hq) fun hf => h.apart q hq hf, h.one.ct, h.one.foot, h.one.below.trans (hS.below hz h.foot)⟩, hB, hC, fun q hq => ?_, fun q hq hr => ?_⟩
  · rcases hS.foot q hq with hx | hx
    · exact h.foot q hx
    · omega
  · rcases hS.foot q hr with hx | hx
    · exact h.apart q hq hx
    · have := h.one.bk.lt hq; omega
theorem Pair.stay {w0 w w' : World} {b : Nat} {D : Nat → Dk} {C : Nat → Ct} {rb : Nat} {v : Value} {R : Nat → Rk} {C2 : Nat → Ct} (h : Pair w0 w b D C rb v R C2) (hb : Below w.heap.size w w') : Pair w0 w' b D C rb v R C2 :=
  ⟨h.one.stay hb, h.rbk.below hb, h.ct, h.foot, h.apart⟩
theorem Tidy.wr {C : Nat → Ct} (h : Tidy C) (d n : Int) (s : ByteArray) : Tidy (wrC C d n s) := fun e he hl => by
  unfold wrC at *
  split at hl
  · next hz =>
    obtain ⟨h4, h5, hf⟩ := live_in (have_in (take_in hz).1).1
    unfold updC at hl
    split at hl
    · exact absurd (hf.symm.trans hl) (by decide)
    · next hne => rw [if_pos hz]; unfold updC; rw [if_neg hne]; exact h e he hl
  · next hz => rw [if_neg hz]; exact h e he hl
theorem Tidy.sp {C : Nat → Ct} (h : Tidy C) (d n : Int) (s : ByteArray) : Tidy (spC C d n s) := fun e he hl => by
  unfold spC at *
  split at hl
  · next hz =>
    obtain ⟨h4, h5, hf⟩ := live_in (have_in (take_in hz).1).1
    unfold updC at hl
    split at hl
    · exact absurd (hf.symm.trans hl) (by decide)
    · next hne => rw [if_pos hz]; unfold updC; rw [if_neg hne]; exact h e he hl
  · next hz => rw [if_neg hz]; exact h e he hl
theorem Tidy.fl {C : Nat → Ct} (h : Tidy C) (d : Int) : Tidy (flC C d) := fun e he hl => by
  unfold flC at *
  split at hl
  · next hz =>
    unfold updC at hl
    rw [if_pos hz]
    unfold updC
    split at hl
    · next hne => rw [if_pos hne]
    · next hne => rw [if_neg hne]; exact h e he hl
  · next hz => rw [if_neg hz]; exact h e he hl
theorem Tidy.ag {C : Nat → Ct} (h : Tidy C) (d : Int) (l : Bool) : Tidy (agC C d l) := fun e he hl => by
  unfold agC at *
  split at hl
  · next hz => rw [if_pos hz]; exact h e he hl
  · next hz =>
    rw [if_neg hz]
    unfold updC at hl ⊢
    split at hl
    · next hne => rw [if_pos hne]
    · next hne => rw [if_neg hne]; exact h e he hl
theorem Tidy.cr (kl tl : List Bool) (C : Nat → Ct) : Tidy (crC kl tl C) := fun e he hl => rfl
theorem tidy0 : Tidy C0 := fun e he hl => rfl
/-- what a call of a script does -/
def opC (x : OpR) (C : Nat → Ct) : Nat → Ct :=
  if x.act = 0 then wrC C x.d x.n x.s else if x.act = 2 then flC C x.d else if x.act = 3 then crC x.kl x.tl C else if x.act = 4 then spC C x.d x.n x.s else if x.act = 5 then agC C x.d true else if x.act = 6 then agC C x.d false else C
theorem opC_0 {x : OpR} {C : Nat → Ct} (h : x.act = 0) : opC x C = wrC C x.d x.n x.s := by unfold opC; rw [if_pos h]
theorem opC_2 {x : OpR} {C : Nat → Ct} (h : x.act = 2) : opC x C = flC C x.d := by unfold opC; rw [if_neg (by omega), if_pos h]
theorem opC_3 {x : OpR} {C : Nat → Ct} (h : x.act = 3) : opC x C = crC x.kl x.tl C := by unfold opC; rw [if_neg (by omega), if_neg (by omega), if_pos h]
theorem opC_4 {x : OpR} {C : Nat → Ct} (h : x.act = 4) : opC x C = spC C x.d x.n x.s := by unfold opC; rw [if_neg (by omega), if_neg (by omega), if_neg (by omega), if_pos h]
theorem opC_5 {x : OpR} {C : Nat → Ct} (h : x.act = 5) : opC x C = agC C x.d true := by unfold opC; rw [if_neg (by omega), if_neg (by omega), if_neg (by omega), if_neg (by omega), if_pos h]
theorem opC_6 {x : OpR} {C : Nat → Ct} (h : x.act = 6) : opC x C = agC C x.d false := by unfold opC; rw [if_neg (by omega), if_neg (by omega), if_neg (by omega), if_neg (by omega), if_neg (by omega), if_pos h]
theorem opC_n {x : OpR} {C : Nat → Ct} (h0 : x.act ≠ 0) (h2 : x.act ≠ 2) (h3 : x.act ≠ 3) (h4 : x.act ≠ 4) (h5 : x.act ≠ 5) (h6 : x.act ≠ 6) : opC x C = C := by unfold opC; rw [if_neg h0, if_neg h2, if_neg h3, if_neg h4, if_neg h5, if_neg h6]
theorem Tidy.op {C : Nat → Ct} (h : Tidy C) (x : OpR) : Tidy (opC x C) := by
  unfold opC
  repeat' split
  · exact h.wr _ _ _
  · exact h.fl _
  · exact Tidy.cr _ _ _
  · exact h.sp _ _ _
  · exact h.ag _ _
  · exact h.ag _ _
  · exact h
theorem Few.op {N : Nat} {C : Nat → Ct} (h : Few N C) (x : OpR) : Few (N + 1) (opC x C) := by
  unfold opC
  repeat' split
  · exact h.wr _ _ _
  · exact (h.fl _).mono (Nat.le_succ _)
  · exact Few.cr _ _
  · exact (h.sp _ _ _).mono (Nat.le_succ _)
  · exact (h.ag _ _).mono (Nat.le_succ _)
  · exact (h.ag _ _).mono (Nat.le_succ _)
  · exact h.mono (Nat.le_succ _)
/-- a list of bools that came in lies outside -/
theorem bools_offR {w0 w : World} {b : Nat} {D : Nat → Dk} {C : Nat → Ct} {rb : Nat} {v : Value} {R : Nat → Rk} {C2 : Nat → Ct} (h : Pair w0 w b D C rb v R C2) {a : Option Addr} {l : List Bool} (hb : BoolsAt w0 a l) : l = [] ∨ ∀ x, a = some x → ¬ RFoot rb v 12 R x.block := by
  rcases hb with hb | ⟨g, o, rfl, hlt, _⟩
  · exact .inl hb
  · exact .inr fun x hx hf => by cases hx; have := h.foot g hf; omega
end Go.Proofs.Ytnpioaidbmllkaa
