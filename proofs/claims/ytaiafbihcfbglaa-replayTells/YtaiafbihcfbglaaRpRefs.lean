/- What the document's replay answers, told by the records that there are; lists handed over. -/
import Derived.Test.YtaiafbihcfbglaaRpLaws
import Derived.Test.YtaiafbihcfbglaaRpRefPre
import Derived.Test.YtaiafbihcfbglaaRpTold
import Derived.Test.YtaiafbihcfbglaaRpLists
namespace Go.Proofs.Ytaiafbihcfbglaa
open Go.RowKit
set_option linter.unusedVariables false
theorem tx_any {P : List Rc} {a : Option Addr} {n c : Nat} {w : World} (h : RowP P w a n c) : Calls Try.prog 15 #[.slice a n c] w fun e w' => ∃ a' c', e = .returned (.slice a' n c') ∧ RowP P w' a' n c' ∧ Below w.heap.size w w' := by
  obtain ⟨l, h1, h2, h3, h4, h5, h6⟩ := h
  refine (rtold_any a c n l w h1 (by omega) h6).mono ?_
  rintro e w' ⟨a', c', rfl, hc, hr, hb⟩
  exact ⟨a', c', rfl, ⟨l, h1, hc, h3, h4, h5, hr⟩, hb⟩
theorem ox_any {P : List Rc} {a : Option Addr} {n c : Nat} {w : World} (h : RowP P w a n c) : Calls Try.prog 17 #[.slice a n c] w fun e w' => ∃ a' c', e = .returned (.slice a' n c') ∧ RowP P w' a' n c' ∧ Below w.heap.size w w' := by
  obtain ⟨l, h1, h2, h3, h4, h5, h6⟩ := h
  refine (rown_any a c n l w h1 (by omega) h6).mono ?_
  rintro e w' ⟨a', c', rfl, hc, hr, hb⟩
  exact ⟨a', c', rfl, ⟨l, h1, hc, h3, h4, h5, hr⟩, hb⟩
theorem lx_any {P : List Rc} {a1 a2 : Option Addr} {n m c1 c2 : Nat} {w : World} (h1 : RowP P w a1 n c1) (h2 : RowP P w a2 m c2) : Calls Try.prog 14 #[.slice a1 n c1, .slice a2 m c2] w fun e w' => e = .returned (.bool true) ∧ Below w.heap.size w w' := by
  obtain ⟨l, e1, q1, q2, q3, q4, q5⟩ := h1
  obtain ⟨k, f1, p1, p2, p3, p4, p5⟩ := h2
  have q := lists_any a1 a2 c1 c2 n m l k w e1 f1 (by omega) (by omega) q5 p5 (ls_of q4 p4)
  rw [samL_of (q3.trans p3.symm)] at q
  exact q
theorem qx_any (a : Option Addr) (m c : Nat) (ss : List ByteArray) (w : World) (hl : ss.length = m) (hm : m ≤ 100000) (hS : StrsAt w a ss) (hsz : ∀ s ∈ ss, s.size ≤ 100000) : Calls Try.prog 13 #[.slice a m c] w (PxP (prefR ss) w) := by
  refine (qprefix_any a c m ss w hl hm hS hsz).mono ?_
  rintro e w' ⟨l, a', c', rfl, hc, hmp, hr, hb⟩
  refine ⟨a', l.length, c', rfl, ⟨l, rfl, hc, ?_, hmp, fit_of hmp (pref_fit fun s hs => by have := hsz s hs; omega), hr⟩, hb⟩
  have := pref_64 ss
  rw [← hmp, List.length_map] at this
  omega
theorem qb_any {P Q : List Rc} {a1 a2 : Option Addr} {n m c1 c2 : Nat} {w : World} (h1 : RowP P w a1 n c1) (h2 : RowP Q w a2 m c2) : Calls Try.prog 18 #[.slice a1 n c1, .slice a2 m c2] w fun e w' => e = .returned (.bool (begR P Q)) ∧ Below w.heap.size w w' := by
  obtain ⟨l, e1, q1, q2, q3, q4, q5⟩ := h1
  obtain ⟨k, f1, p1, p2, p3, p4, p5⟩ := h2
  have q := qbegins_any a1 a2 c1 c2 n m l k w e1 f1 p1 (by omega) (by omega) q5 p5 (ls_of q4 p4)
  rw [begB_eq, q3, p3] at q
  exact q
theorem qm_any {P : List Rc} {ss : List ByteArray} {a1 a2 : Option Addr} {n m c1 c2 : Nat} {w : World} (hs : ss.length = n) (h63 : n ≤ 100000) (h1 : StrsAt w a1 ss) (h2 : RowP P w a2 m c2) : Calls Try.prog 21 #[.slice a1 n c1, .slice a2 m c2] w fun e w' => ∃ a' c', e = .returned (.slice a' (misQ ss P).length c') ∧ (misQ ss P).length ≤ c' ∧ IntsAt w' a' (misQ ss P) ∧ Below w.heap.size w w' ∧ ∀ b o, a' = some ⟨b, o, none⟩ → w.heap.size ≤ b := by
  obtain ⟨l, e1, q1, q2, q3, q4, q5⟩ := h2
  have q := qmiss_any a1 a2 c1 c2 n m ss l w hs e1 h63 (by omega) h1 q5 q4
  rw [← e1, misQ_eq, q3] at q
  rw [← e1]
  exact q
end Go.Proofs.Ytaiafbihcfbglaa
