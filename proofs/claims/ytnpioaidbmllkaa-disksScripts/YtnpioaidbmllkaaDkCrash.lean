/- A crash: what becomes of each write is told by two lists. -/
import Derived.Test.YtnpioaidbmllkaaDkSettle
import Derived.Deep.Grids
import Derived.BigQuiet
namespace Go.Proofs.Ytnpioaidbmllkaa
open Go.RowKit
def BoolsAt (w : World) (a : Option Addr) (l : List Bool) : Prop := l = [] ∨ ∃ b o, a = some ⟨b, o, none⟩ ∧ b < w.heap.size ∧ ∀ (i : Nat) (s : Bool), l[i]? = some s → w.cell? ⟨b, o + i, none⟩ = some (.bool s)
/-- which method does a write -/
def wayF (k t : Bool) : Nat := if k then (if t then 51 else 38) else 50
set_option maxRecDepth 100000 in
set_option maxHeartbeats 2000000 in
theorem way_any (k t : Bool) (w : World) : Calls Try.prog 41 #[.bool k, .bool t] w fun e w' => e = .returned (.func (.func (wayF k t)) #[] #[]) ∧ w = w' := by
  cases k
  · go_enter Try.func41, Try.ntmps41
    go_wp2_with fail
    go_ret
    exact ⟨rfl, rfl⟩
  · cases t
    · go_enter Try.func41, Try.ntmps41
      go_wp2_with fail
      go_ret
      exact ⟨rfl, rfl⟩
    · go_enter Try.func41, Try.ntmps41
      go_wp2_with fail
      go_ret
      exact ⟨rfl, rfl⟩
def at_ (l : List Bool) (p : Nat) : Bool := l[p]?.getD false
set_option maxRecDepth 100000 in
set_option maxHeartbeats 2000000 in
theorem at_any (a : Option Addr) (n cap p : Nat) (l : List Bool) (w : World) (hl : l.length = n) (h : BoolsAt w a l) : Calls Try.prog 42 #[.slice a n cap, .int .i64 (p : Int)] w fun e w' => e = .returned (.bool (at_ l p)) ∧ w = w' := by
  by_cases hp : p < n
  · obtain ⟨x, hx⟩ : ∃ x, l[p]? = some x := ⟨_, List.getElem?_eq_getElem (by omega)⟩
    rcases h with h | ⟨b, o, rfl, hb, hc⟩
    · rw [h] at hx; simp at hx
    have hck := hc p x hx
    have HX : Hid (at_ l p = x) := by unfold at_; rw [hx]; exact rfl
    have hd : decide ((p : Int) < (n : Int)) = true := by simp; omega
    have hdi : (p : Int) < (n : Int) := by omega
    have hni : (0 : Int) ≤ (p : Int) := by omega
    clear hc hx hl
    rw [HX.out]
    go_enter Try.func42, Try.ntmps42
    go_wp2_with fail
    go_ret
    exact ⟨rfl, rfl⟩
  · have HX : Hid (at_ l p = false) := by unfold at_; rw [List.getElem?_eq_none (by omega)]; exact rfl
    have hd : decide ((p : Int) < (n : Int)) = false := by simp; omega
    clear h hl
    rw [HX.out]
    go_enter Try.func42, Try.ntmps42
    go_wp2_with fail
    go_ret
    exact ⟨rfl, rfl⟩
/-- what a crash's next finds: the place, and the two lists -/
structure CrAt (w : World) (pb kb tb : Nat) (p : Int) (ka ta : Option Addr) (kn tn kc tc : Nat) (kl tl : List Bool) : Prop where
  place : w.cell? ⟨pb, 0, none⟩ = some (.int .i64 p)
  free : w.frozen? ⟨pb, 0, none⟩ = false
  keep : w.cell? ⟨kb, 0, none⟩ = some (.slice ka kn kc)
  torn : w.cell? ⟨tb, 0, none⟩ = some (.slice ta tn tc)
  kAt : BoolsAt w ka kl
  tAt : BoolsAt w ta tl
  kLen : kl.length = kn
  tLen : tl.length = tn
  kSm : kn ≤ 9223372036854775807
  tSm : tn ≤ 9223372036854775807
  kne : kb ≠ pb
  tne : tb ≠ pb
  kap : kl = [] ∨ ∀ a, ka = some a → a.block ≠ pb
  tap : tl = [] ∨ ∀ a, ta = some a → a.block ≠ pb
theorem BoolsAt.keep {w w' : World} {a : Option Addr} {l : List Bool} (h : BoolsAt w a l) (hs : l = [] ∨ ∀ x, a = some x → w'.heap[x.block]? = w.heap[x.block]?) (hz : w.heap.size ≤ w'.heap.size) : BoolsAt w' a l := by
  rcases h with h | ⟨b, o, rfl, hlt, hc⟩
  · exact .inl h
  · rcases hs with hs | hs
    · exact .inl hs
    · exact .inr ⟨b, o, rfl, Nat.lt_of_lt_of_le hlt hz, fun i s hi => (World.cell?_of_block (w := w) (a := ⟨b, o + i, none⟩) (hs ⟨b, o, none⟩ rfl)).trans (hc i s hi)⟩
theorem CrAt.set {w : World} {pb kb tb : Nat} {p : Int} {ka ta : Option Addr} {kn tn kc tc : Nat} {kl tl : List Bool} (h : CrAt w pb kb tb p ka ta kn tn kc tc kl tl) (q : Int) : CrAt (w.setCell ⟨pb, 0, none⟩ (.int .i64 q)) pb kb tb q ka ta kn tn kc tc kl tl :=
  ⟨World.cell?_setCell_same _ _ _ h.place, by rw [World.frozen?_setCell]; exact h.free, by rw [World.cell?_setCell_other _ _ _ _ (by simp; exact fun e => absurd e.symm h.kne)]; exact h.keep, by rw [World.cell?_setCell_other _ _ _ _ (by simp; exact fun e => absurd e.symm h.tne)]; exact h.torn,
   h.kAt.keep (h.kap.imp id fun hk x hx => Below.heap_setCell _ _ _ _ (hk x hx)) (by simp [World.setCell]), h.tAt.keep (h.tap.imp id fun hk x hx => Below.heap_setCell _ _ _ _ (hk x hx)) (by simp [World.setCell]), h.kLen, h.tLen, h.kSm, h.tSm, h.kne, h.tne, h.kap, h.tap⟩
set_option maxRecDepth 100000 in
set_option maxHeartbeats 4000000 in
theorem next_any (w : World) (pb kb tb q : Nat) (ka ta : Option Addr) (kn tn kc tc : Nat) (kl tl : List Bool) (h : CrAt w pb kb tb ((q : Int) - 1) ka ta kn tn kc tc kl tl) (hq : q < 1000000) :
    Calls Try.prog 40 #[.pointer (some ⟨pb, 0, none⟩), .pointer (some ⟨kb, 0, none⟩), .pointer (some ⟨tb, 0, none⟩)] w fun e w' => e = .returned (.func (.func (wayF (at_ kl q) (at_ tl q))) #[] #[]) ∧ ∃ m, w' = (w.setCell ⟨pb, 0, none⟩ (.int .i64 (q : Int))).drewN m := by
  have hp := h.place
  have hf := h.free
  have h2 := h.set (q : Int)
  clear h
  go_enter Try.func40, Try.ntmps40
  go_wp2_with fail
  clear hp hf
  generalize hW : w.setCell ⟨pb, 0, none⟩ (.int .i64 (q : Int)) = W at *
  have HW := hide hW
  clear hW
  have c1 := h2.place
  have c2 := h2.keep
  have c3 := h2.torn
  have r1 : ∀ m, Calls Try.prog 42 #[.slice ka kn kc, .int .i64 (q : Int)] (W.drewN m) fun e w' => e = .returned (.bool (at_ kl q)) ∧ ∃ m, w' = W.drewN m := fun m => Calls.quiet_of_same ((at_any ka kn kc q kl (W.drewN m) h2.kLen h2.kAt).mono fun _ _ h => ⟨h.1, h.2.symm⟩)
  have r2 : ∀ m, Calls Try.prog 42 #[.slice ta tn tc, .int .i64 (q : Int)] (W.drewN m) fun e w' => e = .returned (.bool (at_ tl q)) ∧ ∃ m, w' = W.drewN m := fun m => Calls.quiet_of_same ((at_any ta tn tc q tl (W.drewN m) h2.tLen h2.tAt).mono fun _ _ h => ⟨h.1, h.2.symm⟩)
  have r3 : ∀ m, Calls Try.prog 41 #[.bool (at_ kl q), .bool (at_ tl q)] (W.drewN m) fun e w' => e = .returned (.func (.func (wayF (at_ kl q) (at_ tl q))) #[] #[]) ∧ ∃ m, w' = W.drewN m := fun _ => Calls.quiet_of_same ((way_any _ _ _).mono fun _ _ h => ⟨h.1, h.2.symm⟩)
  clear h2
  generalize hKK : at_ kl q = K at *
  generalize hTT : at_ tl q = T at *
  have HKK := hide hKK
  have HTT := hide hTT
  clear hKK hTT
  go_quiet (first | (with_reducible exact r1 _) | (with_reducible exact r2 _) | (with_reducible exact r3 _))
  clear r1 r2 r3 c1 c2 c3
  go_wp2_with fail
  go_ret
  exact ⟨by rw [HKK.out, HTT.out]; rfl, nq, by rw [HW.out]⟩
/-- the sectors behind writes of a crash, the first of which has place p -/
def secC (kl tl : List Bool) (f : Nat → ByteArray) : Nat → List (Nat × ByteArray) → Nat → ByteArray
  | _, [] => f
  | p, x :: l => secC kl tl (if at_ kl p then (fun m => if m = x.1 then (if at_ tl p then halfS x.2 else x.2) else f m) else f) (p + 1) l
theorem secC_snoc (kl tl : List Bool) (l : List (Nat × ByteArray)) (x : Nat × ByteArray) : ∀ (f : Nat → ByteArray) (p : Nat), secC kl tl f p (l ++ [x]) = if at_ kl (p + l.length) then (fun m => if m = x.1 then (if at_ tl (p + l.length) then halfS x.2 else x.2) else secC kl tl f p l m) else secC kl tl f p l := by
  induction l with
  | nil => intro f p; rfl
  | cons y l ih =>
    intro f p
    have := ih (if at_ kl p then (fun m => if m = y.1 then (if at_ tl p then halfS y.2 else y.2) else f m) else f) (p + 1)
    rw [show p + 1 + l.length = p + (y :: l).length by rw [List.length_cons]; omega] at this
    exact this
def dkCr (kl tl : List Bool) (p : Nat) (x : Dk) (i : Nat) : Dk := ⟨x.lost, secC kl tl x.sec p (x.ws.take i), x.wv, x.ws⟩
theorem dkCr_zero (kl tl : List Bool) (p : Nat) (x : Dk) : dkCr kl tl p x 0 = x := rfl
theorem dkCr_step {kl tl : List Bool} {p : Nat} {x : Dk} {i : Nat} {y : Nat × ByteArray} (h : x.ws[i]? = some y) : dkCr kl tl p x (i + 1) = if at_ kl (p + i) then (if at_ tl (p + i) then putS (dkCr kl tl p x i) y.1 (halfS y.2) else putS (dkCr kl tl p x i) y.1 y.2) else dkCr kl tl p x i := by
  have hi : i < x.ws.length := (List.getElem?_eq_some_iff.1 h).1
  have e : x.ws.take (i + 1) = x.ws.take i ++ [y] := by rw [List.take_add_one, h]; rfl
  have hl : (x.ws.take i).length = i := by rw [List.length_take]; omega
  unfold dkCr putS
  simp only [e, secC_snoc, hl]
  cases at_ kl (p + i)
  · rfl
  · cases at_ tl (p + i) <;> rfl
/-- the frame of a crash's next -/
theorem CrAt.kept {w w' : World} {pb kb tb : Nat} {p : Int} {ka ta : Option Addr} {kn tn kc tc : Nat} {kl tl : List Bool} (h : CrAt w pb kb tb p ka ta kn tn kc tc kl tl) (hz : w.heap.size ≤ w'.heap.size) (h1 : w'.heap[pb]? = w.heap[pb]?) (h2 : w'.heap[kb]? = w.heap[kb]?) (h3 : w'.heap[tb]? = w.heap[tb]?) (h4 : kl = [] ∨ ∀ a, ka = some a → w'.heap[a.block]? = w.heap[a.block]?) (h5 : tl = [] ∨ ∀ a, ta = some a → w'.heap[a.block]? = w.heap[a.block]?) : CrAt w' pb kb tb p ka ta kn tn kc tc kl tl :=
  ⟨(World.cell?_of_block (w := w) (a := ⟨pb, 0, none⟩) h1).trans h.place, (World.frozen?_of_block (w := w) (a := ⟨pb, 0, none⟩) h1).trans h.free, (World.cell?_of_block (w := w) (a := ⟨kb, 0, none⟩) h2).trans h.keep, (World.cell?_of_block (w := w) (a := ⟨tb, 0, none⟩) h3).trans h.torn, h.kAt.keep h4 hz, h.tAt.keep h5 hz, h.kLen, h.tLen, h.kSm, h.tSm, h.kne, h.tne, h.kap, h.tap⟩
/-- the blocks that a crash's next reads or writes -/
def Ext (pb kb tb : Nat) (ka ta : Option Addr) (kl tl : List Bool) (k : Nat) : Prop := k = pb ∨ k = kb ∨ k = tb ∨ (kl ≠ [] ∧ ∃ a, ka = some a ∧ k = a.block) ∨ (tl ≠ [] ∧ ∃ a, ta = some a ∧ k = a.block)
theorem CrAt.ext {w w' : World} {pb kb tb : Nat} {p : Int} {ka ta : Option Addr} {kn tn kc tc : Nat} {kl tl : List Bool} (h : CrAt w pb kb tb p ka ta kn tn kc tc kl tl) (hz : w.heap.size ≤ w'.heap.size) (hs : ∀ k, Ext pb kb tb ka ta kl tl k → w'.heap[k]? = w.heap[k]?) : CrAt w' pb kb tb p ka ta kn tn kc tc kl tl := by
  refine h.kept hz (hs _ (.inl rfl)) (hs _ (.inr (.inl rfl))) (hs _ (.inr (.inr (.inl rfl)))) ?_ ?_
  · by_cases c : kl = []
    · exact .inl c
    · exact .inr fun a ha => hs _ (.inr (.inr (.inr (.inl ⟨c, a, ha, rfl⟩))))
  · by_cases c : tl = []
    · exact .inl c
    · exact .inr fun a ha => hs _ (.inr (.inr (.inr (.inr ⟨c, a, ha, rfl⟩))))
structure StepP (pb b : Nat) (D : Nat → Dk) (w : World) (D' : Nat → Dk) (w' : World) : Prop where
  os : w'.os = w.os
  tape : w'.tape = w.tape
  output : w'.output = w.output
  size : w.heap.size ≤ w'.heap.size
  block : ∀ k, k < w.heap.size → k ≠ pb → ¬ Foot b D k → w'.heap[k]? = w.heap[k]?
  foot : ∀ k, Foot b D' k → Foot b D k ∨ w.heap.size ≤ k
theorem StepP.refl (pb b : Nat) (D : Nat → Dk) (w : World) : StepP pb b D w D w := ⟨rfl, rfl, rfl, Nat.le_refl _, fun _ _ _ _ => rfl, fun _ h => .inl h⟩
theorem StepP.trans {pb b : Nat} {D E F : Nat → Dk} {u v w : World} (h : StepP pb b D u E v) (k : StepP pb b E v F w) : StepP pb b D u F w :=
  ⟨k.os.trans h.os, k.tape.trans h.tape, k.output.trans h.output, Nat.le_trans h.size k.size,
   fun i hi hp hn => (k.block i (Nat.lt_of_lt_of_le hi h.size) hp fun hf => (h.foot i hf).elim hn (fun hx => by omega)).trans (h.block i hi hp hn),
   fun i hf => (k.foot i hf).elim (h.foot i) fun hx => .inr (Nat.le_trans h.size hx)⟩
theorem StepP.of {pb b : Nat} {D D' : Nat → Dk} {w w' : World} (h : Step b D w D' w') : StepP pb b D w D' w' := ⟨h.os, h.tape, h.output, h.size, fun k hk _ hn => h.block k hk hn, h.foot⟩
theorem StepP.set {pb b : Nat} {D : Nat → Dk} {w : World} (v : Value) (m : Nat) : StepP pb b D w D ((w.setCell ⟨pb, 0, none⟩ v).drewN m) := ⟨rfl, rfl, rfl, by show _ ≤ (w.heap.modify _ _).size; rw [Array.size_modify]; exact Nat.le_refl _, fun _ _ hp _ => Below.heap_setCell _ _ _ _ hp, fun _ h => .inl h⟩
theorem foot_upd {b d : Nat} {D : Nat → Dk} {x : Dk} (hx : x.wv = (D d).wv) (k : Nat) : Foot b (upd D d x) k ↔ Foot b D k := by
  unfold Foot
  constructor
  · rintro (h | ⟨e, he, h⟩)
    · exact .inl h
    · refine .inr ⟨e, he, ?_⟩
      by_cases c : e = d
      · subst c; rw [upd_at, hx] at h; exact h
      · rw [upd_ne c] at h; exact h
  · rintro (h | ⟨e, he, h⟩)
    · exact .inl h
    · refine .inr ⟨e, he, ?_⟩
      by_cases c : e = d
      · subst c; rw [upd_at, hx]; exact h
      · rw [upd_ne c]; exact h
end Go.Proofs.Ytnpioaidbmllkaa
