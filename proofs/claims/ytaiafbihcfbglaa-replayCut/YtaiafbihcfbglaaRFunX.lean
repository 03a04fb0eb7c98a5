/- Ranges over functions whose rounds write into boxes and own rows: what every such walk uses. No function of the program stands here. Ranges over functions whose elements are known to be good where they are yielded (an element may point to memory that the function has just made): the contract of such a function, and the walk of the statement. No function of the program stands here. Whole structs loaded and stored inside a fence, guarded or not. No function of the program stands here. -/
import Derived.RangeFuncBox
import Derived.RangeFuncLeaves
import Derived.RangeFuncNested
import Derived.Shelf.Abstract
import Derived.WalkKit
import Derived.OwnWalkIn
import Derived.TacticsInMore
import Derived.LoopNIn
import Derived.LoopIn
import Derived.Stop.RegionWithIn
import Derived.Test.YtaiafbihcfbglaaRow
import Derived.Laws.Rows
import Derived.Laws.Tables
namespace Go.Proofs.Ytaiafbihcfbglaa
open Go.RowKit Go.Shelf
set_option linter.unusedVariables false
attribute [local go_sem] Oper.semAt_some
/-- what a round keeps: all blocks below n₀ but one -/
def Kp (n₀ bi : Nat) (W W' : World) : Prop := W.heap.size ≤ W'.heap.size ∧ ∀ k, k < n₀ → k ≠ bi → W'.heap[k]? = W.heap[k]?
theorem Kp.refl (n₀ bi : Nat) (W : World) : Kp n₀ bi W W := ⟨Nat.le_refl _, fun _ _ _ => rfl⟩
theorem Kp.trans {n₀ bi : Nat} {A B C : World} (h : Kp n₀ bi A B) (k : Kp n₀ bi B C) : Kp n₀ bi A C :=
  ⟨Nat.le_trans h.1 k.1, fun i hi h1 => (k.2 i hi h1).trans (h.2 i hi h1)⟩
theorem Kp.cell {n₀ bi : Nat} {W W' : World} (h : Kp n₀ bi W W') {p : Addr} (h0 : p.block < n₀) (h1 : p.block ≠ bi) : W'.cell? p = W.cell? p :=
  World.cell?_of_block (h.2 p.block h0 h1)
theorem kp_put {n₀ bi : Nat} {w : World} (hn : n₀ ≤ w.heap.size) (W : World) (l : Nat) (o o' : Obj) (hl : w.heap.size ≤ l) (_ : W.heap[l]? = some o) (_ : o.isCells = false) (_ : o.isWalk = false) : Kp n₀ bi W (W.putObj l o') :=
  ⟨by simp, fun k hk _ => World.putObj_heap_other (by omega)⟩
theorem own_kept {W W' : World} {B z n : Nat} {e : TypeId} {v : Value} {xs : List Value} {row : Option Nat} (h : W.ownsRow B e z v n xs) (hg : W.grownBy W' row) (hr : ∀ r, row = some r → ∃ o : Obj, W.heap[r]? = some o ∧ o.isCells = false) : W'.ownsRow B e z v n xs := by
  refine h.kept hg ?_
  obtain ⟨_, ⟨rfl, rfl⟩ | ⟨g, cap, cur, rfl, _, hgg, _⟩⟩ := h
  · exact .inl rfl
  · right
    intro e
    obtain ⟨o, ho, hc⟩ := hr g e.symm
    rw [hgg] at ho
    cases ho
    cases hc
theorem below_grown {w W W' : World} {B : Nat} {row : Option Nat} (h : Below w.heap.size w W) (hg : W.grownBy W' row) (hr : ∀ r, row = some r → B ≤ r) (hB : w.heap.size ≤ B) (hz : B ≤ W.heap.size) : Below w.heap.size w W' :=
  ⟨hg.os.trans h.os, hg.tape.trans h.tape, hg.output.trans h.output, Nat.le_trans h.size hg.size, fun k hk => (hg.block k (by omega) fun e => by have := hr k e.symm; omega).trans (h.block k hk)⟩
theorem keeps_alloc (B : Nat) (W : World) (o : Obj) : KeepsFrom B W (W.alloc o) := ⟨by simp, fun k o' _ hk _ => (Below.heap_alloc _ _ _ (Array.getElem?_eq_some_iff.1 hk).1).trans hk⟩
theorem keeps_set (B : Nat) (W : World) {rb : Nat} (hrb : rb < B) (v : Value) : KeepsFrom B W (W.setCell ⟨rb, 0, none⟩ v) := ⟨by simp [World.setCell], fun k o' hB hk _ => (Below.heap_setCell _ _ _ _ (by show k ≠ rb; omega)).trans hk⟩
/-- Q, but nothing at a panic -/
def Calm (Q : Exit → Act → World → Prop) : Exit → Act → World → Prop
  | .panic _, _, _ => False
  | e, a, w => Q e a w
theorem calm_imp {Q : Exit → Act → World → Prop} : ∀ (e : Exit) (a : Act) (w : World), Calm Q e a w → Q e a w := fun e a w h => by
  cases e <;> first | exact h | exact (h : False).elim
theorem wpIn_calm {F : Fence} {n : Nat} {P : Program} {c : Code} {Q : Exit → Act → World → Prop} {a : Act} {w : World} (h : c.wpIn F n P (Calm Q) a w) : c.wpIn F n P Q a w :=
  wpIn_mono h calm_imp
theorem calm_normal {Q : Exit → Act → World → Prop} {a : Act} {w : World} (h : Q .normal a w) : Calm Q .normal a w := h
/-- what 'v = append(v, ..)' on a variable in a box leaves -/
structure Appd (W W' : World) (bi : Nat) (v : Value) : Prop where
  os : W'.os = W.os
  tape : W'.tape = W.tape
  output : W'.output = W.output
  size : W.heap.size ≤ W'.heap.size
  others : KeepsOthers W W'
  block : ∀ k, k < W.heap.size → some k ≠ v.ownBlock → k ≠ bi → W'.heap[k]? = W.heap[k]?
theorem appd {W w1 : World} {n₀ bi z : Nat} {t e : TypeId} {v v' : Value} {k m : Nat} {xs ys : List Value} {tmp : Obj}
    (hv : Boxed W bi t v) (hte : t ≠ e) (hrow : W.ownsRow n₀ e z v k xs) (hown' : w1.ownsRow n₀ e z v' m ys) (hgrow : (W.alloc tmp).grownBy w1 v.ownBlock) :
    Boxed w1 bi t v ∧ Boxed (w1.setCell ⟨bi, 0, none⟩ v') bi t v' ∧ (w1.setCell ⟨bi, 0, none⟩ v').ownsRow n₀ e z v' m ys ∧ Appd W (w1.setCell ⟨bi, 0, none⟩ v') bi v := by
  have hv1 : Boxed w1 bi t v := (hv.alloc tmp).kept hgrow (hv.not_row hte hrow)
  have hsz := hgrow.size
  rw [World.size_alloc] at hsz
  refine ⟨hv1, hv1.set v', hown'.kept (grownBy_setCell' w1 bi v') (.inr (hv1.not_row hte hown').symm), hgrow.os, hgrow.tape, hgrow.output, ?_, ?_, ?_⟩
  · simp [World.setCell]; omega
  · refine ((KeepsOthers.alloc W tmp).trans (KeepsOthers.of_grownBy hgrow fun j o ej hj => ?_)).trans (KeepsOthers.setCell _ _ _)
    rcases (hrow.alloc tmp).2 with ⟨rfl, _⟩ | ⟨g, cap, cur, rfl, _, hgb, _⟩
    · simp [Value.ownBlock] at ej
    · obtain rfl : g = j := by simpa [Value.ownBlock] using ej
      rw [hgb] at hj; cases hj; rfl
  · intro j hj h1 h2
    rw [Below.heap_setCell _ _ _ _ (by simpa using h2), hgrow.block j (by simp; omega) h1]
    exact Below.heap_alloc _ _ _ hj
theorem Appd.low {W W' : World} {bi n₀ z k : Nat} {e : TypeId} {v : Value} {xs : List Value} (h : Appd W W' bi v) (hr : W.ownsRow n₀ e z v k xs) (hn : n₀ ≤ W.heap.size) {j : Nat} (hj : j < n₀) (hne : j ≠ bi) : W'.heap[j]? = W.heap[j]? :=
  h.block j (by omega) (fun e' => by have := row_base hr e'.symm; omega) hne
theorem cell_put {W : World} {k l : Nat} {v : Value} {t : TypeId} {o : Obj} (h : W.heap[k]? = some (.cells #[v] t (0, 0))) (hne : k ≠ l) : (W.putObj l o).cell? ⟨k, 0, none⟩ = some v :=
  cell_of_block (c := #[v]) ((World.putObj_heap_other hne).trans h)
theorem own_same {W W' : World} {B z n : Nat} {e : TypeId} {v : Value} {xs : List Value} (h : W.ownsRow B e z v n xs) (hk : ∀ g cur t fr, B ≤ g → W.heap[g]? = some (.cells cur t fr) → W'.heap[g]? = W.heap[g]?) : W'.ownsRow B e z v n xs := by
  obtain ⟨hl, ⟨rfl, rfl⟩ | ⟨g, cap, cur, rfl, hB, hg, hc, hm, hs, ht⟩⟩ := h
  · exact ⟨hl, .inl ⟨rfl, rfl⟩⟩
  · exact ⟨hl, .inr ⟨g, cap, cur, rfl, hB, (hk g _ _ _ hB hg).trans hg, hc, hm, hs, ht⟩⟩
theorem grown_none {W W' : World} (h : Below W.heap.size W W') : W.grownBy W' none := ⟨h.os, h.tape, h.output, h.size, fun k hk _ => h.block k hk⟩
theorem new_at (w : World) (o : Obj) {k : Nat} (h : w.heap.size = k) : (w.alloc o).heap[k]? = some o := by rw [← h]; exact heap_alloc_new w o
theorem old_at {w : World} (o : Obj) {k : Nat} {x : Obj} (h : w.heap[k]? = some x) : (w.alloc o).heap[k]? = some x := (Below.heap_alloc _ _ _ (Array.getElem?_eq_some_iff.1 h).1).trans h
end Go.Proofs.Ytaiafbihcfbglaa
namespace Go.Proofs.Ytaiafbihcfbglaa
open Go.RowKit Go.Shelf
set_option linter.unusedVariables false
/-- the contract: each element is yielded in a world where Pre holds of it and of those ahead of it -/
def SeqPre {α : Type} (F : Fence) (n : Nat) (P : Program) (g : Nat) (lb : Array Value) (encs : α → Array Value) (Kp : World → World → Prop) (Pre : List α → α → World → Prop) (S Sp : List α → Prop) (w : World) : Prop :=
  ∀ (l : Nat) (J Jx : List α → World → Prop) (W : World), Below w.heap.size w W → AbidesFrom W.heap.size J → AbidesFrom W.heap.size Jx →
    (∀ pre x W1, J pre W1 → Pre pre x W1 → YieldAt F (n - 1) P l (encs x) W1 fun e W' =>
      (e = .returned (.bool true) ∧ J (pre ++ [x]) W' ∧ Kp W1 W') ∨ (e = .returned (.bool false) ∧ Jx (pre ++ [x]) W')) →
    J [] W →
    CallsIn F n P g (#[.func (.yield l) #[] #[]] ++ lb) W fun e W' => (∃ v, e = .returned v) ∧ ((∃ ys, S ys ∧ J ys W') ∨ (∃ pre, Sp pre ∧ Jx pre W'))
/-- the loop's record, as it stands from round to round -/
def recAt (fn : FuncId) (tmps : Array Value) (ps : Array Tmp) (assign body : Code) (D : Nat) (st : LoopState) (pe : Option Code) : Obj := .loop { state := st, pending := pe, fn := fn, tmps := tmps, params := ps, assign := assign, body := body, defers := D }
/-- the two blocks of the loop's own: the record, and what is deferred -/
def TwoB (fn : FuncId) (tmps : Array Value) (ps : Array Tmp) (assign body : Code) (D : Nat) (st : LoopState) (pe : Option Code) (W : World) : Prop := W.heap[D + 1]? = some (recAt fn tmps ps assign body D st pe) ∧ W.heap[D]? = some (.deferred (some []))
theorem TwoB.keep {fn : FuncId} {tmps : Array Value} {ps : Array Tmp} {assign body : Code} {D : Nat} {st : LoopState} {pe : Option Code} {W W' : World} (h : TwoB fn tmps ps assign body D st pe W) (hk : KeepsFrom D W W') : TwoB fn tmps ps assign body D st pe W' :=
  ⟨hk.same _ _ (by omega) h.1 rfl, hk.same _ _ (Nat.le_refl _) h.2 rfl⟩
theorem TwoB.lt {fn : FuncId} {tmps : Array Value} {ps : Array Tmp} {assign body : Code} {D : Nat} {st : LoopState} {pe : Option Code} {W : World} (h : TwoB fn tmps ps assign body D st pe W) : D + 1 < W.heap.size := (Array.getElem?_eq_some_iff.1 h.1).1
theorem TwoB.put {fn : FuncId} {tmps : Array Value} {ps : Array Tmp} {assign body : Code} {D : Nat} {st st' : LoopState} {pe pe' : Option Code} {W : World} (h : TwoB fn tmps ps assign body D st pe W) : TwoB fn tmps ps assign body D st' pe' (W.putObj (D + 1) (recAt fn tmps ps assign body D st' pe')) :=
  ⟨World.putObj_heap_same h.lt, (World.putObj_heap_other (by omega)).trans h.2⟩
theorem TwoB.grown {fn : FuncId} {tmps : Array Value} {ps : Array Tmp} {assign body : Code} {D B : Nat} {st : LoopState} {pe : Option Code} {W W' : World} {row : Option Nat} (h : TwoB fn tmps ps assign body D st pe W) (hg : W.grownBy W' row) (hr : ∀ r, row = some r → B ≤ r ∧ ∃ o : Obj, W.heap[r]? = some o ∧ o.isWalk = true) : TwoB fn tmps ps assign body D st pe W' :=
  ⟨(grownBy_keeps hg (fun r e => (hr r e).2) h.1 rfl).trans h.1, (grownBy_keeps hg (fun r e => (hr r e).2) h.2 rfl).trans h.2⟩
/-- the statement 'for .. := range g': each round is walked from where its element is good -/
theorem wpIn_rangeFunc_pre {F : Fence} {n : Nat} {P : Program} {α : Type} {g : Operand} {ps : Array Tmp} {assign body : Code} {Q : Exit → Act → World → Prop} {a : Act} {w : World}
    (hro : F.round = none) (h1 : 1 ≤ n) {gf : Nat} {lb : Array Value} (hg : a.eval g = .func (.func gf) #[] lb) (hFg : F.fn gf) (eg : ∀ args w, (callFunc gf args).run P w = .ok (.enter gf args) w)
    {encs : α → Array Value} {Kp : World → World → Prop} {Pre : List α → α → World → Prop} {S Sp : List α → Prop} {w0 : World} (hseq : SeqPre F (n - 1) P gf lb encs Kp Pre S Sp w0)
    (hKt : ∀ {A B C : World}, Kp A B → Kp B C → Kp A C) (hKb : ∀ (W : World) (l : Nat) (o o' : Obj), w.heap.size ≤ l → W.heap[l]? = some o → o.isCells = false → o.isWalk = false → Kp W (W.putObj l o')) (hb0 : Below w0.heap.size w0 w) (hps : ∀ x, (encs x).size = ps.size)
    (I : List α → World → Prop) (Ix : Code → List α → World → Prop) (hI : OwnFrom w.heap.size I) (hIx : ∀ c, OwnFrom w.heap.size (Ix c)) (h0 : I [] w)
    (Ax : List α → α → Act → World → Prop) (hAx : ∀ pre x a', OwnFrom w.heap.size (fun (_ : Unit) W => Ax pre x a' W))
    (hassign : ∀ (l : Nat) (pre : List α) (x : α) (W : World) (K : Act → World → Prop), I pre W → Pre pre x W → (∀ a' W', KeepsFrom w.heap.size W W' → Kp W W' → Ax pre x a' W' → K a' W') →
      assign.wpIn (F.inRound l) (n - 1 - 1) P (Exit.then K (fun _ _ _ => False)) { tmps := (ps.zip (encs x)).foldl (fun t (p, v) => t.setIfInBounds p v) a.tmps, defers := [] } W)
    (hbody : ∀ (l : Nat) (pre : List α) (x : α) (a' : Act) (W : World), Ax pre x a' W → body.wpIn (F.inRound l) (n - 1 - 1) P (ownPostG w.heap.size Kp I Ix (pre ++ [x]) W) a' W)
    (hdone : ∀ (D : Nat) (ys : List α) (W : World), w.heap.size ≤ D → S ys → I ys W → W.heap[D]? = some (.deferred (some [])) → Q .normal { a with defers := { target := .collected D, args := #[] } :: a.defers } W)
    (hstop : ∀ (D : Nat) (c : Code) (pre : List α) (W : World), w.heap.size ≤ D → Sp pre → Ix c pre W → W.heap[D]? = some (.deferred (some [])) → c.wpIn F n P Q { a with defers := { target := .collected D, args := #[] } :: a.defers } W) :
    (Code.rangeFunc g ps assign body).wpIn F n P Q a w := by
  refine wpIn_rangeFunc fun fn hfn => ?_
  rw [hro]
  obtain ⟨W1, hW1⟩ : ∃ W1, W1 = (w.alloc (.deferred (some []))).alloc (recAt fn a.tmps ps assign body w.heap.size .ready none) := ⟨_, rfl⟩
  have hz1 : W1.heap.size = w.heap.size + 2 := by rw [hW1]; simp only [World.size_alloc]
  have hT1 : TwoB fn a.tmps ps assign body w.heap.size .ready none W1 := by
    rw [hW1]
    exact ⟨new_at _ _ (by rw [World.size_alloc]), old_at _ (new_at w _ rfl)⟩
  have hbw : Below w.heap.size w W1 := by rw [hW1]; exact ((Below.refl _ w).alloc (Nat.le_refl _) _).alloc (by rw [World.size_alloc]; omega) _
  have hI1 : I [] W1 := by rw [hW1]; exact hI.alloc _ (hI.alloc _ h0)
  have hnw : ∀ {A : World} {row : Option Nat}, (∀ r, row = some r → W1.heap.size ≤ r ∧ ∃ o : Obj, A.heap[r]? = some o ∧ o.isWalk = true) → (∀ r, row = some r → w.heap.size ≤ r ∧ ∃ o : Obj, A.heap[r]? = some o ∧ o.isCells = false) :=
    fun hr r e => by obtain ⟨q1, o, q2, q3⟩ := hr r e; exact ⟨by omega, o, q2, Obj.not_cells_of_walk q3⟩
  refine ⟨w.heap.size + 1, [{ target := .collected w.heap.size, args := #[] }], W1, { target := .fn (.func gf) lb, args := #[.func (.yield (w.heap.size + 1)) #[] #[]] }, W1, gf, #[.func (.yield (w.heap.size + 1)) #[] #[]] ++ lb, W1, ?_, ?_, ?_, ?_, fun _ => h1, ?_⟩
  · rw [hW1]; exact run_enterLoop_outer _ _ _ _ _
  · simp only [resolve, hg]; simp [go_sem]
  · intro f' hf'; simp [Target.leads] at hf'; subst hf'; exact hFg
  · simp [invoke, go_sem, eg]
  refine (hseq (w.heap.size + 1) (fun pre W => I pre W ∧ TwoB fn a.tmps ps assign body w.heap.size .ready none W) (fun pre W => ∃ c, Ix c pre W ∧ TwoB fn a.tmps ps assign body w.heap.size .done (some c) W) W1 (hb0.trans (hbw.mono hb0.size))
    (fun s A B row hs hg' hr => ⟨hI s A B row hs.1 hg' (hnw hr), hs.2.grown hg' hr⟩)
    (fun s A B row hs hg' hr => by obtain ⟨c, hc, ht⟩ := hs; exact ⟨c, hIx c s A B row hc hg' (hnw hr), ht.grown hg' hr⟩) ?_ ⟨hI1, hT1⟩).mono ?_
  · rintro pre x W ⟨hi, ht⟩ hpre
    have hy := run_yield (P := P) (args := encs x) ht.1 (hps x)
    refine ⟨fn, _, assign, body, hy, roundIn_of_wpIn hfn (hassign _ pre x W _ hi hpre ?_)⟩
    intro a' Wa hka hpa hax
    have hta := ht.keep hka
    refine ⟨_, run_beginRound hta.1 rfl, ?_⟩
    have htb : TwoB fn a.tmps ps assign body w.heap.size .busy none (Wa.putObj (w.heap.size + 1) (recAt fn a.tmps ps assign body w.heap.size .busy none)) := hta.put
    have hkb : Kp Wa (Wa.putObj (w.heap.size + 1) (recAt fn a.tmps ps assign body w.heap.size .busy none)) := hKb _ _ _ _ (by omega) hta.1 rfl rfl
    refine wpIn_mono (hbody _ pre x a' _ ((hAx pre x a').putObj (s := ()) _ hax (by omega) hta.1 rfl)) ?_
    have leave : ∀ (c : Code) (W3 : World), KeepsFrom w.heap.size (Wa.putObj (w.heap.size + 1) (recAt fn a.tmps ps assign body w.heap.size .busy none)) W3 → Ix c (pre ++ [x]) W3 →
        ∃ v W4, (Instr.endRound (w.heap.size + 1) (some c)).run P W3 = .ok v W4 ∧ ((Ending.returned v = .returned (.bool true) ∧ (I (pre ++ [x]) W4 ∧ TwoB fn a.tmps ps assign body w.heap.size .ready none W4) ∧ Kp W W4) ∨ (Ending.returned v = .returned (.bool false) ∧ ∃ c, Ix c (pre ++ [x]) W4 ∧ TwoB fn a.tmps ps assign body w.heap.size .done (some c) W4)) := fun c W3 hk3 hx3 =>
      ⟨_, _, run_endRound (P := P) (some c) (htb.keep hk3).1, .inr ⟨rfl, c, (hIx c).putObj _ hx3 (by omega) (htb.keep hk3).1 rfl, (htb.keep hk3).put⟩⟩
    rintro e a3 W3 hp
    cases e with
    | normal =>
      obtain ⟨hk3, hkp3, hi3⟩ := hp
      have ht3 := htb.keep hk3
      exact ⟨_, _, run_endRound (P := P) none ht3.1, .inl ⟨rfl, ⟨hI.putObj _ hi3 (by omega) ht3.1 rfl, ht3.put⟩, hKt hpa (hKt (hKt hkb hkp3) (hKb _ _ _ _ (by omega) ht3.1 rfl rfl))⟩⟩
    | ret => exact leave _ W3 hp.1 hp.2
    | exit id => exact leave _ W3 hp.1 hp.2
    | goto t => exact leave _ W3 hp.1 hp.2
    | panic ch => exact hp.elim
    | outgrown => exact hp.elim
  · rintro e W2 ⟨⟨v, rfl⟩, (⟨ys, hS, hi, ht⟩ | ⟨pre, hSp, c, hi, ht⟩)⟩
    · exact ⟨none, _, run_endLoop (P := P) ht.1 (by simp), hdone _ ys _ (Nat.le_refl _) hS (hI.putObj _ hi (by omega) ht.1 rfl) ((World.putObj_heap_other (by omega)).trans ht.2)⟩
    · exact ⟨some c, _, run_endLoop (P := P) ht.1 (by simp), hstop _ c pre _ (Nat.le_refl _) hSp ((hIx c).putObj _ hi (by omega) ht.1 rfl) ((World.putObj_heap_other (by omega)).trans ht.2)⟩
end Go.Proofs.Ytaiafbihcfbglaa
namespace Go.Proofs.Ytaiafbihcfbglaa
open Go.RowKit Go.Shelf
set_option linter.unusedVariables false
theorem wantIn {F : Fence} {n : Nat} {P : Program} {ops : Array Oper} {rest : List Oper} {o : Oper} {a : Act} {w : World} {Q : Exit → Act → World → Prop} (hw : Region.wanted o (yielded ops a.tmps) = true)
    (h : ∀ K : Act → World → Prop, (∀ a w, wpListIn F n P ops Q rest a w → K a w) → o.wpIn F n P a w K Q) : wpListIn F n P ops Q (o :: rest) a w :=
  wpListIn_step fun K hK => by rw [if_pos hw]; exact h K hK
theorem load_rowIn {F : Fence} {n : Nat} {P : Program} {ops : Array Oper} {rest : List Oper} {o : Oper} {a : Act} {w : World} {Q : Exit → Act → World → Prop} (hw : Region.wanted o (yielded ops a.tmps) = true) (ty : TypeId) (x : Operand) (ho : o.op = .load ty x)
    (g : Nat) (hx : a.eval x = .pointer (some ⟨g, 0, none⟩)) (t : TypeId) (cs : Array Value) (fr : Nat × Nat) (d : TypeDesc) (hg : w.heap[g]? = some (.cells cs t fr))
    (hu : P.underlying ty = some d) (hd : (match d with | .struct _ | .array _ _ => true | _ => false) = true) (hi : (P.info? ty).map (·.size) = some cs.size)
    (h : wpListIn F n P ops Q rest (a.put o.dst (.agg cs)) w) : wpListIn F n P ops Q (o :: rest) a w := by
  refine wantIn hw fun K hK => ?_
  unfold Oper.wpIn
  refine ⟨by simp [Oper.about, ho], ?_⟩
  rw [Oper.semAt_plain F _ _ (by rw [ho]; intro c hc; cases hc)]
  simp only [execOp, ho, hx, Instr.loadAt, Instr.sureAddr, Sem.run_bind, Sem.run_pure, Result.andThen_ok, run_loadVar_row w g t ty cs fr d hg hu hd hi]
  exact hK _ _ h
theorem store_rowIn {F : Fence} {n : Nat} {P : Program} {ops : Array Oper} {rest : List Oper} {o : Oper} {a : Act} {w : World} {Q : Exit → Act → World → Prop} (hw : Region.wanted o (yielded ops a.tmps) = true) (ty : TypeId) (x y : Operand) (ho : o.op = .store ty x y)
    (g : Nat) (cells : Array Value) (hx : a.eval x = .pointer (some ⟨g, 0, none⟩)) (hy : a.eval y = .agg cells)
    (t : TypeId) (old : Array Value) (hg : w.heap[g]? = some (.cells old t (0, 0))) (hi : (P.info? ty).map (·.size) = some cells.size)
    (hold : old.size = cells.size) (h1 : cells.all (·.oneCell') = true)
    (h : wpListIn F n P ops Q rest (a.put o.dst undef) (w.setRow g cells)) : wpListIn F n P ops Q (o :: rest) a w := by
  refine wantIn hw fun K hK => ?_
  unfold Oper.wpIn
  refine ⟨by simp [Oper.about, ho], ?_⟩
  rw [Oper.semAt_plain F _ _ (by rw [ho]; intro c hc; cases hc)]
  simp only [execOp, ho, hx, hy, Instr.storeAt, Instr.sureAddr, Sem.run_bind, Sem.run_pure, Result.andThen_ok, run_storeVar_row w g t ty old cells hg hi hold h1]
  exact hK _ _ h
end Go.Proofs.Ytaiafbihcfbglaa
