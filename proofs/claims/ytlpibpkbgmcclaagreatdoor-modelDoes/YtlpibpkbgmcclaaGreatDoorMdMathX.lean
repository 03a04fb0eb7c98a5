/- A map that is written once, as functions: what it knows, what a request does, what it answers, how its state is told. What the model's walks ask of the world: the digest's constants, and the table of the powers of ten. -/
import Derived.Test.YtlpibpkbgmcclaaGreatDoorRqMathX
import Derived.Test.YtlpibpkbgmcclaaGreatDoorShFinX
import Derived.Test.YtlpibpkbgmcclaaGreatDoorShMixed
import Derived.Lib.LaidTab
import Derived.Lib.ItoaNum
namespace Go.Proofs.YtlpibpkbgmcclaaGreatDoor
open Go.RowKit
set_option linter.unusedVariables false
/-- what a key has: a value, or that it is gone -/
structure Hd where
  v : ByteArray
  g : Bool
abbrev MT := ByteArray → Option Hd
def MT.Ok (T : MT) : Prop := ∀ k h, T k = some h → keyOk k ∧ h.v.size ≤ 400
def MT.val (T : MT) (k : ByteArray) : Option ByteArray := match T k with | some h => if h.g = true then none else some h.v | none => none
def MT.set (T : MT) (k : ByteArray) (h : Hd) : MT := fun x => if x = k then some h else T x
def dgV2 (v : ByteArray) : ByteArray := dig (bt v) v.size
def stV2 (v : ByteArray) : ByteArray := dcN v.size ++ ⟨#[32]⟩ ++ hexS (dgV2 v)
/-- the error of a request -/
noncomputable def MT.code (T : MT) (r : Rq) : Int := if rqE r ≠ 0 then rqE r else if r.d = 0 then (if (T r.k).isSome then 13 else 0) else if r.d = 4 then 0 else if (T.val r.k).isSome then 0 else 9
/-- its value -/
noncomputable def MT.ans (T : MT) (r : Rq) : ByteArray := if rqE r = 0 then (match T.val r.k with | some v => if r.d = 1 then v else if r.d = 3 then stV2 v else ByteArray.empty | none => ByteArray.empty) else ByteArray.empty
/-- what is known behind it -/
noncomputable def MT.next (T : MT) (r : Rq) : MT := if rqE r = 0 then (if r.d = 0 ∧ T r.k = none then T.set r.k ⟨r.v, false⟩ else if r.d = 2 ∧ (T.val r.k).isSome = true then T.set r.k ⟨ByteArray.empty, true⟩ else T) else T
/-- all keys of a kind, rising -/
def Rising (P : ByteArray → Prop) (A : List ByteArray) : Prop := A.Pairwise (fun a b => a.data.toList < b.data.toList) ∧ ∀ k, k ∈ A ↔ P k
/-- the keys of the answer -/
def KsIs (T : MT) (r : Rq) (L : List ByteArray) : Prop := if rqE r = 0 ∧ r.d = 4 then ∃ A, Rising (fun k => (T.val k).isSome = true ∧ ¬ k.data.toList < r.k.data.toList) A ∧ L = A.take 16 else L = []
theorem lt_irr (a : List UInt8) : ¬ a < a := List.lt_irrefl a
theorem rising_eq {P : ByteArray → Prop} : ∀ {A B : List ByteArray}, Rising P A → Rising P B → A = B := by
  have key : ∀ (A B : List ByteArray), A.Pairwise (fun a b => a.data.toList < b.data.toList) → B.Pairwise (fun a b => a.data.toList < b.data.toList) → (∀ k, k ∈ A ↔ k ∈ B) → A = B := by
    intro A
    induction A with
    | nil =>
      intro B _ _ h
      cases B with
      | nil => rfl
      | cons b B => have := (h b).2 (by simp); simp at this
    | cons a A ih =>
      intro B hA hB h
      cases B with
      | nil => have := (h a).1 (by simp); simp at this
      | cons b B =>
        obtain ⟨ha, hA2⟩ := List.pairwise_cons.1 hA
        obtain ⟨hb, hB2⟩ := List.pairwise_cons.1 hB
        have e : a = b := by
          rcases List.mem_cons.1 ((h a).1 (by simp)) with q | q
          · exact q
          · rcases List.mem_cons.1 ((h b).2 (by simp)) with z | z
            · exact z.symm
            · exact absurd (List.lt_trans (ha b z) (hb a q)) (lt_irr _)
        subst e
        congr 1
        refine ih B hA2 hB2 fun k => ?_
        constructor
        · intro hk
          rcases List.mem_cons.1 ((h k).1 (List.mem_cons_of_mem _ hk)) with q | q
          · subst q; exact absurd (ha k hk) (lt_irr _)
          · exact q
        · intro hk
          rcases List.mem_cons.1 ((h k).2 (List.mem_cons_of_mem _ hk)) with q | q
          · subst q; exact absurd (hb k hk) (lt_irr _)
          · exact q
  intro A B hA hB
  exact key A B hA.1 hB.1 fun k => (hA.2 k).trans (hB.2 k).symm
theorem KsIs.eq {T : MT} {r : Rq} {L M : List ByteArray} (h : KsIs T r L) (h2 : KsIs T r M) : L = M := by
  unfold KsIs at h h2
  by_cases q : rqE r = 0 ∧ r.d = 4
  · rw [if_pos q] at h h2
    obtain ⟨A, hA, rfl⟩ := h
    obtain ⟨B, hB, rfl⟩ := h2
    rw [rising_eq hA hB]
  · rw [if_neg q] at h h2
    rw [h, h2]
/-- one key in a state -/
def enS (T : MT) (k : ByteArray) : ByteArray := match T k with | some h => if h.g = true then k ++ ⟨#[33, 32]⟩ else k ++ (⟨#[61]⟩ ++ hexS h.v ++ ⟨#[32]⟩) | none => ByteArray.empty
def sts (T : MT) : List ByteArray → ByteArray
  | [] => ByteArray.empty
  | k :: A => enS T k ++ sts T A
/-- how all that is known is told -/
def StIs (T : MT) (s : ByteArray) : Prop := ∃ A, Rising (fun k => (T k).isSome = true) A ∧ s = sts T A
theorem StIs.eq {T : MT} {s t : ByteArray} (h : StIs T s) (h2 : StIs T t) : s = t := by
  obtain ⟨A, hA, rfl⟩ := h
  obtain ⟨B, hB, rfl⟩ := h2
  rw [rising_eq hA hB]
theorem val_some {T : MT} {k v : ByteArray} (h : T.val k = some v) : T k = some ⟨v, false⟩ := by
  unfold MT.val at h
  cases hT : T k with
  | none => rw [hT] at h; cases h
  | some x =>
    rw [hT] at h
    obtain ⟨a, b⟩ := x
    cases b with
    | true => simp at h
    | false => simp at h; rw [h]
theorem val_of {T : MT} {k v : ByteArray} (h : T k = some ⟨v, false⟩) : T.val k = some v := by unfold MT.val; rw [h]; rfl
theorem val_none {T : MT} {k : ByteArray} (h : T.val k = none) : T k = none ∨ ∃ v, T k = some ⟨v, true⟩ := by
  unfold MT.val at h
  cases hT : T k with
  | none => exact .inl rfl
  | some x =>
    rw [hT] at h
    obtain ⟨a, b⟩ := x
    cases b with
    | true => exact .inr ⟨a, rfl⟩
    | false => simp at h
theorem set_hit (T : MT) (k : ByteArray) (h : Hd) : T.set k h k = some h := by unfold MT.set; rw [if_pos rfl]
theorem set_miss (T : MT) {k x : ByteArray} (h : Hd) (e : x ≠ k) : T.set k h x = T x := by unfold MT.set; rw [if_neg e]
theorem rqE_key {r : Rq} (h : rqE r = 0) (hd : r.d ≠ 4) : keyOk r.k ∧ r.v.size ≤ 400 := by
  obtain ⟨_, _, _, q⟩ := rqE_ok h
  rcases q with q | q
  · exact absurd q.1 hd
  · refine ⟨q.1, ?_⟩
    have := q.2
    unfold nsz textS at this
    simp only [ByteArray.size_append] at this
    omega
theorem ok_set {T : MT} (h : T.Ok) {k : ByteArray} {x : Hd} (hk : keyOk k) (hv : x.v.size ≤ 400) : (T.set k x).Ok := fun q y hq => by
  unfold MT.set at hq
  by_cases e : q = k
  · rw [if_pos e] at hq
    cases hq
    rw [e]
    exact ⟨hk, hv⟩
  · rw [if_neg e] at hq
    exact h q y hq
theorem ok_next {T : MT} (h : T.Ok) (r : Rq) : (T.next r).Ok := by
  unfold MT.next
  by_cases he : rqE r = 0
  · rw [if_pos he]
    by_cases h0 : r.d = 0 ∧ T r.k = none
    · rw [if_pos h0]
      have := rqE_key he (by omega)
      exact ok_set h this.1 this.2
    · rw [if_neg h0]
      by_cases h2 : r.d = 2 ∧ (T.val r.k).isSome = true
      · rw [if_pos h2]
        have := rqE_key he (by omega)
        exact ok_set h this.1 (by show 0 ≤ _; omega)
      · rw [if_neg h2]; exact h
  · rw [if_neg he]; exact h
end Go.Proofs.YtlpibpkbgmcclaaGreatDoor
namespace Go.Proofs.YtlpibpkbgmcclaaGreatDoor
open Go.RowKit
theorem tab_below {P : Program} {w w' : World} {name : String} {k : IntKind} {zs : List Int} (h : Lib.TabIs P w name k zs) (hb : Below w.heap.size w w') : Lib.TabIs P w' name k zs := by
  unfold Lib.TabIs World.var? at h ⊢
  cases hg : P.globalNamed name with
  | none => rw [hg] at h; cases h
  | some g =>
    rw [hg] at h
    simp only [Option.bind_some] at h ⊢
    cases hc : w.heap[g]? with
    | none => rw [hc] at h; cases h
    | some o => rw [hb.block g (by rcases Nat.lt_or_ge g w.heap.size with q | q; exact q; rw [Array.getElem?_eq_none q] at hc; cases hc), hc]; rw [hc] at h; exact h
structure KM (w : World) : Prop where
  k : KAt w
  tab : Lib.TabIs Tryz.prog w "internal/strconv.uint64pow10" .u64 Lib.pow10Tab
theorem KM.below {w w' : World} (h : KM w) (hb : Below w.heap.size w w') : KM w' := ⟨h.k.below hb, tab_below h.tab hb⟩
end Go.Proofs.YtlpibpkbgmcclaaGreatDoor
