/- What the laws of layer 12 call, told by the records that there are. -/
import Derived.Test.YtaiafbihcfbglaaRpLawMath
import Derived.Test.YtaiafbihcfbglaaRpPrefix
import Derived.Test.YtaiafbihcfbglaaRpSmall
namespace Go.Proofs.Ytaiafbihcfbglaa
open Go.RowKit
set_option linter.unusedVariables false
/-- a row that has the records P -/
def RowP (P : List Rc) (w : World) (a : Option Addr) (n c : Nat) : Prop := ∃ l : List RT, l.length = n ∧ n ≤ c ∧ n ≤ 70 ∧ l.map Prod.fst = P ∧ (∀ x ∈ l, x.1.fit) ∧ RecsAt w a l
theorem RowP.below {P : List Rc} {w w' : World} {a : Option Addr} {n c : Nat} (h : RowP P w a n c) (hb : Below w.heap.size w w') : RowP P w' a n c := by
  obtain ⟨l, h1, h2, h3, h4, h5, h6⟩ := h
  exact ⟨l, h1, h2, h3, h4, h5, h6.below hb⟩
theorem RowP.len {P : List Rc} {w : World} {a : Option Addr} {n c : Nat} (h : RowP P w a n c) : P.length = n := by
  obtain ⟨l, h1, _, _, h4, _⟩ := h
  rw [← h4, List.length_map, h1]
theorem RowP.le {P : List Rc} {w : World} {a : Option Addr} {n c : Nat} (h : RowP P w a n c) : n ≤ 70 := by
  obtain ⟨l, _, _, h3, _⟩ := h
  exact h3
theorem RowP.cap {P : List Rc} {w : World} {a : Option Addr} {n c : Nat} (h : RowP P w a n c) : n ≤ c := by
  obtain ⟨l, _, h3, _⟩ := h
  exact h3
theorem rowP_nil (w : World) : RowP [] w none 0 0 := ⟨[], rfl, Nat.le_refl _, by omega, rfl, fun x hx => by simp at hx, RecsAt.nil _ _⟩
def PxP (P : List Rc) (w : World) (e : Ending) (w' : World) : Prop := ∃ (a : Option Addr) (n c : Nat), e = .returned (.slice a n c) ∧ RowP P w' a n c ∧ Below w.heap.size w w'
theorem px_any (a : Option Addr) (m c : Nat) (ss : List ByteArray) (w : World) (hl : ss.length = m) (hm : m ≤ 9223372036854775807) (hS : StrsAt w a ss) (hsz : ∀ s ∈ ss, s.size ≤ 150000000000000) : Calls Try.prog 12 #[.slice a m c] w (PxP (prefR ss) w) := by
  refine (prefix_any a m c ss w hl hm hS hsz).mono ?_
  rintro e w' ⟨l, a', c', rfl, hc, hmp, hr, hb⟩
  refine ⟨a', l.length, c', rfl, ⟨l, rfl, hc, ?_, hmp, fit_of hmp (pref_fit hsz), hr⟩, hb⟩
  have := pref_64 ss
  rw [← hmp, List.length_map] at this
  omega
theorem pb_any {P Q : List Rc} {a1 a2 : Option Addr} {n m c1 c2 : Nat} {w : World} (h1 : RowP P w a1 n c1) (h2 : RowP Q w a2 m c2) : Calls Try.prog 16 #[.slice a1 n c1, .slice a2 m c2] w fun e w' => e = .returned (.bool (begR P Q)) ∧ Below w.heap.size w w' := by
  obtain ⟨l, e1, q1, q2, q3, q4, q5⟩ := h1
  obtain ⟨k, f1, p1, p2, p3, p4, p5⟩ := h2
  have q := pbegins_any a1 a2 c1 c2 n m l k w e1 f1 p1 (by omega) (by omega) q5 p5 (ls_of q4 p4)
  rw [begB_eq, q3, p3] at q
  exact q
/-- the places of those of P that the sectors have not -/
noncomputable def misQ (ss : List ByteArray) (P : List Rc) : List Int := ((List.range P.length).filter fun i => decide (ss[i]? ≠ (P[i]?).map wR)).map Int.ofNat
theorem misQ_eq (ss : List ByteArray) (l : List RT) : misL ss l l.length = misQ ss (l.map Prod.fst) := by
  unfold misL misQ
  rw [List.length_map]
  congr 1
  refine List.filter_congr fun i _ => ?_
  unfold misB
  rw [List.getElem?_map, Option.map_map]
  rfl
theorem pm_any {P : List Rc} {ss : List ByteArray} {a1 a2 : Option Addr} {n m c1 c2 : Nat} {w : World} (hs : ss.length = n) (h63 : n ≤ 100000) (h1 : StrsAt w a1 ss) (h2 : RowP P w a2 m c2) : Calls Try.prog 20 #[.slice a1 n c1, .slice a2 m c2] w fun e w' => ∃ a' c', e = .returned (.slice a' (misQ ss P).length c') ∧ (misQ ss P).length ≤ c' ∧ IntsAt w' a' (misQ ss P) ∧ Below w.heap.size w w' ∧ ∀ b o, a' = some ⟨b, o, none⟩ → w.heap.size ≤ b := by
  obtain ⟨l, e1, q1, q2, q3, q4, q5⟩ := h2
  have q := pmiss_any a1 a2 c1 c2 n m ss l w hs e1 h63 (by omega) h1 q5 q4
  rw [← e1, misQ_eq, q3] at q
  rw [← e1]
  exact q
theorem misQ_len (ss : List ByteArray) (P : List Rc) : (misQ ss P).length ≤ P.length := by
  unfold misQ
  rw [List.length_map]
  have := List.length_filter_le (fun i => decide (ss[i]? ≠ (P[i]?).map wR)) (List.range P.length)
  rwa [List.length_range] at this
theorem misQ_of {ss : List ByteArray} {P : List Rc} : ∃ l : List RT, l.map Prod.fst = P ∧ misL ss l l.length = misQ ss P ∧ l.length = P.length := by
  refine ⟨P.map fun r => (r, none, 0), ?_, ?_, by simp⟩
  · rw [List.map_map]; exact List.map_id P
  · rw [misQ_eq, List.map_map]; exact congrArg (misQ ss) (List.map_id P)
/-- short logs -/
theorem small_of {ss : List ByteArray} {m : Int} (h : smallB ss m 300 = true) : ∀ s ∈ ss, s.size ≤ 150000000000000 := fun s hs => by
  have := (small_iff.1 h).1 s hs
  omega
theorem small_len {ss : List ByteArray} {m n : Nat} (h : smallB ss (m : Int) 300 = true) (hl : ss.length = n) : n ≤ m := by
  have := (small_iff.1 h).2
  omega
end Go.Proofs.Ytaiafbihcfbglaa
