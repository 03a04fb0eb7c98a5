/- Behind a crash that tears nothing each sector is as it was flushed, or as one of the writes that waited for it. -/
import Derived.Test.YtnpioaidbmllkaaDisksAloneWalk
namespace Go.Proofs.Ytnpioaidbmllkaa
open Go.RowKit
set_option linter.unusedVariables false
/-- writes, each of which is flushed -/
def wfs (C : Nat → Ct) : List OpR → Nat → Ct
  | [] => C
  | x :: l => wfs (flC (wrC C x.d x.n x.s) x.d) l
theorem wfs_snoc (l : List OpR) (x : OpR) : ∀ C, wfs C (l ++ [x]) = flC (wrC (wfs C l) x.d x.n x.s) x.d := by
  induction l with
  | nil => intro C; rfl
  | cons y l ih => intro C; exact ih _
theorem wfs_take {C : Nat → Ct} {l : List OpR} {k : Nat} {x : OpR} (h : l[k]? = some x) : wfs C (l.take (k + 1)) = flC (wrC (wfs C (l.take k)) x.d x.n x.s) x.d := by
  rw [List.take_add_one, h]; exact wfs_snoc _ _ _
/-- nothing waits -/
def Still (C : Nat → Ct) : Prop := ∀ e, e < 12 → (C e).ws = []
theorem Still.few {C : Nat → Ct} (h : Still C) : Few 0 C := fun e he => by rw [h e he]; exact ⟨Nat.le_refl _, fun y hy => by cases hy⟩
theorem Still.wf {C : Nat → Ct} (h : Still C) (d n : Int) (s : ByteArray) : Still (flC (wrC C d n s) d) := fun e he => by
  have hl : ∀ q, (wrC C d n s q).lost = (C q).lost := fun q => by
    unfold wrC
    split
    · unfold updC; split
      · next hh => rw [hh]
      · rfl
    · rfl
  unfold flC
  by_cases hz : eLiveC (wrC C d n s) d = 0
  · rw [if_pos hz]
    unfold updC
    split
    · rfl
    · next hne =>
      obtain ⟨h1, h2, _⟩ := live_in hz
      rw [wr_off (by omega)]
      exact h e he
  · rw [if_neg hz]
    rw [live_same hl] at hz
    unfold wrC
    rw [if_neg (fun ht => hz (have_in (take_in ht).1).1)]
    exact h e he
theorem Still.wfs {l : List OpR} : ∀ {C : Nat → Ct}, Still C → Still (wfs C l) := by
  induction l with
  | nil => intro C h; exact h
  | cons x l ih => intro C h; exact ih (h.wf _ _ _)
theorem still0 : Still C0 := fun _ _ => rfl
/-- what waits was written by one of the calls -/
structure From (C1 : Nat → Ct) (l : List OpR) (C : Nat → Ct) : Prop where
  lost : ∀ e, (C e).lost = (C1 e).lost
  sec : ∀ e, (C e).sec = (C1 e).sec
  ws : ∀ e, e < 12 → ∀ x ∈ (C e).ws, ∃ y ∈ l, y.d = (e : Int) ∧ y.n = (x.1 : Int) ∧ y.s = x.2
theorem From.start {C : Nat → Ct} (h : Still C) : From C [] C := ⟨fun _ => rfl, fun _ => rfl, fun e he x hx => by rw [h e he] at hx; cases hx⟩
theorem From.step {C1 C : Nat → Ct} {l : List OpR} (h : From C1 l C) (y : OpR) : From C1 (l ++ [y]) (wrC C y.d y.n y.s) := by
  have hold : From C1 (l ++ [y]) C := ⟨h.lost, h.sec, fun e he x hx => by obtain ⟨z, hz, q⟩ := h.ws e he x hx; exact ⟨z, List.mem_append.2 (.inl hz), q⟩⟩
  unfold wrC
  split
  · next hz =>
    obtain ⟨h3, h6, h7⟩ := have_in (take_in hz).1
    obtain ⟨h4, h5, hl⟩ := live_in h3
    refine ⟨fun e => ?_, fun e => ?_, fun e he x hx => ?_⟩
    · unfold updC; split
      · next hh => rw [hh]; exact h.lost _
      · exact h.lost e
    · unfold updC; split
      · next hh => rw [hh]; exact h.sec _
      · exact h.sec e
    · unfold updC at hx
      split at hx
      · next hh =>
        rcases List.mem_append.1 hx with hx | hx
        · rw [← hh] at hx; exact hold.ws e he x hx
        · rw [List.mem_singleton.1 hx]
          exact ⟨y, List.mem_append.2 (.inr (List.mem_singleton.2 rfl)), by omega, by show y.n = ((y.n.toNat : Nat) : Int); omega, rfl⟩
      · exact hold.ws e he x hx
  · exact hold
theorem From.wrs {C1 : Nat → Ct} (hs : Still C1) : ∀ {l m : List OpR} {C : Nat → Ct}, From C1 m C → From C1 (m ++ l) (wrs C l) := by
  intro l
  induction l with
  | nil => intro m C h; rw [List.append_nil]; exact h
  | cons x l ih =>
    intro m C h
    have := ih (h.step x)
    rw [List.append_assoc] at this
    exact this
theorem secC_one (kl : List Bool) : ∀ (ws : List (Nat × ByteArray)) (f : Nat → ByteArray) (p n : Nat), secC kl [] f p ws n = f n ∨ ∃ x ∈ ws, x.1 = n ∧ secC kl [] f p ws n = x.2 := by
  intro ws
  induction ws with
  | nil => intro f p n; exact .inl rfl
  | cons y l ih =>
    intro f p n
    show secC kl [] (if at_ kl p then (fun m => if m = y.1 then (if at_ [] p then halfS y.2 else y.2) else f m) else f) (p + 1) l n = f n ∨ _
    have hat : at_ [] p = false := rfl
    rcases ih (if at_ kl p then (fun m => if m = y.1 then (if at_ [] p then halfS y.2 else y.2) else f m) else f) (p + 1) n with h | ⟨x, hx, h1, h2⟩
    · by_cases hk : at_ kl p = true
      · rw [if_pos hk] at h
        by_cases hn : n = y.1
        · refine .inr ⟨y, List.mem_cons_self, hn.symm, ?_⟩
          show secC kl [] (if at_ kl p then (fun m => if m = y.1 then (if at_ [] p then halfS y.2 else y.2) else f m) else f) (p + 1) l n = y.2
          rw [if_pos hk, h]
          simp only [if_pos hn, hat]
          rfl
        · left
          rw [if_pos hk, h]
          simp only [if_neg hn]
      · rw [if_neg hk] at h
        left
        rw [if_neg hk, h]
    · exact .inr ⟨x, List.mem_cons_of_mem _ hx, h1, h2⟩
def sameOp (o y : OpR) (s : ByteArray) : Bool := y.d == o.d && y.n == o.n && decide (y.s = s)
theorem crash_found {C1 C : Nat → Ct} {l : List OpR} (hs : Still C1) (h : From C1 l C) (kl : List Bool) (o : OpR) : rdC (crC kl [] C) o.d o.n = rdC C1 o.d o.n ∨ ∃ y ∈ l, sameOp o y (rdC (crC kl [] C) o.d o.n) = true := by
  unfold rdC
  rw [have_same (C := C1) (C' := crC kl [] C) h.lost]
  split
  · next hz =>
    obtain ⟨h3, h6, h7⟩ := have_in hz
    obtain ⟨h4, h5, hl⟩ := live_in h3
    rw [hs _ (by omega)]
    show secC kl [] (C o.d.toNat).sec (plcC C o.d.toNat) (C o.d.toNat).ws o.n.toNat = (C1 o.d.toNat).sec o.n.toNat ∨ ∃ y ∈ l, sameOp o y (secC kl [] (C o.d.toNat).sec (plcC C o.d.toNat) (C o.d.toNat).ws o.n.toNat) = true
    rcases secC_one kl (C o.d.toNat).ws (C o.d.toNat).sec (plcC C o.d.toNat) o.n.toNat with hx | ⟨x, hx, h1, h2⟩
    · left; rw [hx, h.sec]
    · right
      obtain ⟨y, hy, q1, q2, q3⟩ := h.ws o.d.toNat (by omega) x hx
      refine ⟨y, hy, ?_⟩
      unfold sameOp
      rw [h2, q1, q2, q3, h1]
      have e1 : ((o.d.toNat : Nat) : Int) = o.d := by omega
      have e2 : ((o.n.toNat : Nat) : Int) = o.n := by omega
      rw [e1, e2]
      simp
  · exact .inl rfl
/-- found, of the first j calls -/
def fnd (s t : ByteArray) (o : OpR) (l : List OpR) (j : Nat) : Bool := decide (s = t) || (l.take j).any fun y => sameOp o y s
theorem fnd_zero (s t : ByteArray) (o : OpR) (l : List OpR) : fnd s t o l 0 = decide (s = t) := by unfold fnd; simp
theorem fnd_step {s t : ByteArray} {o y : OpR} {l : List OpR} {j : Nat} (h : l[j]? = some y) : fnd s t o l (j + 1) = (fnd s t o l j || sameOp o y s) := by
  unfold fnd
  rw [List.take_add_one, h, List.any_append]
  simp [Bool.or_assoc]
theorem fnd_all {C1 C : Nat → Ct} {l : List OpR} (hs : Still C1) (h : From C1 l C) (kl : List Bool) (o : OpR) {j : Nat} (hj : l.length ≤ j) : fnd (rdC (crC kl [] C) o.d o.n) (rdC C1 o.d o.n) o l j = true := by
  unfold fnd
  rw [List.take_of_length_le hj]
  rcases crash_found hs h kl o with hx | ⟨y, hy, hx⟩
  · rw [hx]; simp
  · rw [Bool.or_eq_true]
    exact .inr (List.any_eq_true.2 ⟨y, hy, hx⟩)
end Go.Proofs.Ytnpioaidbmllkaa
