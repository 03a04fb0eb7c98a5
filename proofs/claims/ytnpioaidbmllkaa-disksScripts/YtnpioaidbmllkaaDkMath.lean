/- What becomes of what disks have, over many calls. -/
import Derived.Test.YtnpioaidbmllkaaCameOps
import Derived.Test.YtnpioaidbmllkaaDkLaw
namespace Go.Proofs.Ytnpioaidbmllkaa
open Go.RowKit
set_option linter.unusedVariables false
/-- behind the writes of calls -/
def wrs (C : Nat → Ct) : List OpR → Nat → Ct
  | [] => C
  | x :: l => wrs (wrC C x.d x.n x.s) l
theorem wrs_snoc (l : List OpR) (x : OpR) : ∀ C, wrs C (l ++ [x]) = wrC (wrs C l) x.d x.n x.s := by
  induction l with
  | nil => intro C; rfl
  | cons y l ih => intro C; exact ih _
theorem wrs_take {C : Nat → Ct} {l : List OpR} {k : Nat} {x : OpR} (h : l[k]? = some x) : wrs C (l.take (k + 1)) = wrC (wrs C (l.take k)) x.d x.n x.s := by
  rw [List.take_add_one, h]; exact wrs_snoc _ _ _
theorem Few.wrs {N : Nat} {l : List OpR} : ∀ {C : Nat → Ct}, Few N C → Few (N + l.length) (wrs C l) := by
  induction l generalizing N with
  | nil => intro C h; exact h
  | cons x l ih =>
    intro C h
    have := ih (h.wr x.d x.n x.s)
    rw [List.length_cons, show N + (l.length + 1) = N + 1 + l.length by omega]
    exact this
/-- the disks of which the first k were flushed -/
def flK (C : Nat → Ct) (k : Nat) : Nat → Ct := fun e => if e < k ∧ (C e).lost = false then ⟨(C e).lost, secW (C e).sec (C e).ws, []⟩ else C e
theorem flK_zero (C : Nat → Ct) : flK C 0 = C := by funext e; unfold flK; rw [if_neg (by omega)]
theorem flK_lost (C : Nat → Ct) (k e : Nat) : (flK C k e).lost = (C e).lost := by unfold flK; split <;> rfl
theorem flK_step (C : Nat → Ct) {k : Nat} (hk : k < 12) : flC (flK C k) (k : Int) = flK C (k + 1) := by
  have hl := flK_lost C k k
  have hE : eLiveC (flK C k) (k : Int) = if (C k).lost then 6 else 0 := by unfold eLiveC; rw [if_neg (by omega), Int.toNat_natCast, hl]
  unfold flC
  rw [hE, Int.toNat_natCast]
  cases hc : (C k).lost
  · rw [if_pos (by rfl)]
    funext e
    unfold updC
    by_cases c : e = k
    · subst c
      rw [if_pos rfl]
      unfold flK
      rw [if_neg (by omega), if_pos ⟨by omega, hc⟩]
    · rw [if_neg c]
      unfold flK
      by_cases d : e < k
      · by_cases q : (C e).lost = false
        · rw [if_pos ⟨d, q⟩, if_pos ⟨by omega, q⟩]
        · rw [if_neg (fun h => q h.2), if_neg (fun h => q h.2)]
      · rw [if_neg (by omega), if_neg (by omega)]
  · rw [if_neg (by decide)]
    funext e
    unfold flK
    by_cases c : e = k
    · subst c; rw [if_neg (by omega), if_neg (fun h => by rw [hc] at h; cases h.2)]
    · by_cases d : e < k
      · by_cases q : (C e).lost = false
        · rw [if_pos ⟨d, q⟩, if_pos ⟨by omega, q⟩]
        · rw [if_neg (fun h => q h.2), if_neg (fun h => q h.2)]
      · rw [if_neg (by omega), if_neg (by omega)]
theorem Few.flK {N : Nat} {C : Nat → Ct} (h : Few N C) (k : Nat) : Few N (flK C k) := fun e he => by
  unfold Go.Proofs.Ytnpioaidbmllkaa.flK
  split
  · exact ⟨Nat.zero_le _, fun y hy => by cases hy⟩
  · exact h e he
theorem live_same {C C' : Nat → Ct} (h : ∀ e, (C' e).lost = (C e).lost) (d : Int) : eLiveC C' d = eLiveC C d := by unfold eLiveC; rw [h]
theorem have_same {C C' : Nat → Ct} (h : ∀ e, (C' e).lost = (C e).lost) (d n : Int) : eHaveC C' d n = eHaveC C d n := by unfold eHaveC; rw [live_same h]
theorem fl_cr_lost (kl tl : List Bool) (C : Nat → Ct) (e : Nat) : (crC kl tl (flK C 12) e).lost = (C e).lost := flK_lost C 12 e
/-- what is flushed is read as ahead of that, and a crash does nothing to it -/
theorem fl_cr_read (kl tl : List Bool) (C : Nat → Ct) (d n : Int) : rdC (crC kl tl (flK C 12)) d n = rdC C d n := by
  unfold rdC
  rw [have_same (fl_cr_lost kl tl C)]
  split
  · next hz =>
    obtain ⟨h3, h6, h7⟩ := have_in hz
    obtain ⟨h4, h5, hl⟩ := live_in h3
    unfold crC
    have : flK C 12 d.toNat = ⟨(C d.toNat).lost, secW (C d.toNat).sec (C d.toNat).ws, []⟩ := by unfold flK; rw [if_pos ⟨by omega, hl⟩]
    simp only [this]
    rfl
  · rfl
theorem cr_wait (kl tl : List Bool) (C : Nat → Ct) (d : Int) : wtC (crC kl tl C) d = 0 := by
  unfold wtC; split <;> rfl
theorem OpsAt.at {w w' : World} {a : Option Addr} {ops : List OpR} (h : OpsAt w a ops) (hb : Below w.heap.size w w') {k : Nat} {x : OpR} (hx : ops[k]? = some x) : ∃ b o, a = some ⟨b, o, none⟩ ∧ OpAt w' b (o + k * 6) x ∧ OpIs w' x := by
  rcases h with h | ⟨b, o, ha, hlt, hc⟩
  · rw [h] at hx; cases hx
  · exact ⟨b, o, ha, (hc k x hx).1.below hlt hb, (hc k x hx).2.below hb⟩
theorem bools_off {w w' : World} {b : Nat} {D : Nat → Dk} {C : Nat → Ct} (h : One w w' b D C) {a : Option Addr} {l : List Bool} (hb : BoolsAt w a l) : l = [] ∨ ∀ x, a = some x → ¬ Foot b D x.block := by
  rcases hb with hb | ⟨g, o, rfl, hlt, _⟩
  · exact .inl hb
  · exact .inr fun x hx hf => by cases hx; have := h.foot g hf; omega
end Go.Proofs.Ytnpioaidbmllkaa
