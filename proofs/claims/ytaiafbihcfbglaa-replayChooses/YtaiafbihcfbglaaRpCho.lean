/- What a law knows of replay.Choose: the row of the longest prefix, and which log's it is. -/
import Derived.Test.YtaiafbihcfbglaaRpLaws
import Derived.Test.YtaiafbihcfbglaaRpChoose
import Derived.Test.YtaiafbihcfbglaaCameLogs
namespace Go.Proofs.Ytaiafbihcfbglaa
open Go.RowKit
set_option linter.unusedVariables false
theorem lgS_at {gs : List LG} {i : Nat} {g : LG} (h : gs[i]? = some g) : (lgS gs).getD i [] = g.ss := by
  unfold lgS
  rw [List.getD_eq_getElem?_getD, List.getElem?_map, h]
  rfl
theorem lgS_mem {gs : List LG} {i : Nat} (h : i < gs.length) : ∃ g, gs[i]? = some g ∧ g ∈ gs ∧ (lgS gs).getD i [] = g.ss :=
  ⟨gs[i], List.getElem?_eq_getElem h, List.getElem_mem h, lgS_at (List.getElem?_eq_getElem h)⟩
theorem cho_fit {gs : List LG} (hsz : ∀ g ∈ gs, ∀ s ∈ g.ss, s.size ≤ 150000000000000) : (∀ r ∈ (choR (lgS gs) gs.length).1, r.fit) ∧ (choR (lgS gs) gs.length).1.length ≤ 64 := by
  rcases cho_spec (lgS gs) gs.length with ⟨_, e⟩ | ⟨_, a, h1, _, h3, _⟩
  · rw [e]; exact ⟨fun r hr => by simp at hr, by simp⟩
  · obtain ⟨g, _, hg, e⟩ := lgS_mem h1
    rw [h3, e]
    exact ⟨pref_fit (hsz g hg), pref_64 _⟩
/-- what Choose answers, as a row -/
def CxP (Y : List Rc) (x : Int) (w : World) (e : Ending) (w' : World) : Prop := ∃ (a : Option Addr) (n c : Nat), e = .returned (.tuple #[.slice a n c, .int .i64 x]) ∧ RowP Y w' a n c ∧ Below w.heap.size w w'
theorem cx_of {gs : List LG} {w w' : World} {e : Ending} (hsz : ∀ g ∈ gs, ∀ s ∈ g.ss, s.size ≤ 150000000000000) (h : ChP gs w e w') : CxP (choR (lgS gs) gs.length).1 (choR (lgS gs) gs.length).2 w e w' := by
  obtain ⟨x, y, rfl, l, a, c, rfl, hc, rfl, hm, hr, hb⟩ := h
  obtain ⟨q1, q2⟩ := cho_fit hsz
  refine ⟨a, l.length, c, rfl, ⟨l, rfl, hc, ?_, hm, fit_of hm q1, hr⟩, hb⟩
  rw [← hm, List.length_map] at q2
  omega
theorem cx_any (a : Option Addr) (c n : Nat) (gs : List LG) (w : World) (hl : gs.length = n) (hn : n ≤ 9223372036854775807) (h : LogsAt w a gs) (hsz : ∀ g ∈ gs, g.ss.length ≤ 9223372036854775807 ∧ ∀ s ∈ g.ss, s.size ≤ 150000000000000) : Calls Try.prog 22 #[.slice a n c] w (CxP (choR (lgS gs) gs.length).1 (choR (lgS gs) gs.length).2 w) :=
  (choose_any a c n gs w hl hn h hsz).mono fun e w' q => cx_of (fun g hg => (hsz g hg).2) q
end Go.Proofs.Ytaiafbihcfbglaa
