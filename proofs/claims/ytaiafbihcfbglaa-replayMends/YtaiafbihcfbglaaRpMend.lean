/- What ReplayMends needs: a row's record at a place, what is missing, a copy that is mended. -/
import Derived.Test.YtaiafbihcfbglaaRpRow
namespace Go.Proofs.Ytaiafbihcfbglaa
open Go.RowKit
set_option linter.unusedVariables false
theorem RowP.nth {P : List Rc} {w : World} {a : Option Addr} {n c : Nat} (h : RowP P w a n c) {j : Nat} (hj : j < n) : ∃ b o xa xc, a = some ⟨b, o, none⟩ ∧ b < w.heap.size ∧ w.rangeAt b (o + j * 14) (rtC (P.getD j Rc.zero, xa, xc)).toList ∧ LocsAt w xa (P.getD j Rc.zero).ls ∧ (P.getD j Rc.zero).fit := by
  obtain ⟨l, h1, h2, h3, h4, h5, h6⟩ := h
  obtain ⟨⟨x, xa, xc⟩, hx⟩ : ∃ x, l[j]? = some x := ⟨_, List.getElem?_eq_getElem (by omega)⟩
  have e : P.getD j Rc.zero = x := by
    rw [List.getD_eq_getElem?_getD, ← h4, List.getElem?_map, hx]
    rfl
  rw [e]
  obtain ⟨b, o, h7, h8, h9, h10⟩ := h6.nth hx
  exact ⟨b, o, xa, xc, h7, h8, h9, h10, h5 _ (List.mem_of_getElem? hx)⟩
theorem misQ_at {ss : List ByteArray} {P : List Rc} {i : Nat} {x : Int} (h : (misQ ss P)[i]? = some x) : ∃ j : Nat, j < P.length ∧ x = (j : Int) ∧ ∀ y, 0 < i → (misQ ss P)[i - 1]? = some y → y < x := by
  obtain ⟨l, h1, h2, h3⟩ := misQ_of (ss := ss) (P := P)
  rw [← h2] at h ⊢
  rw [← h3]
  exact misL_at h
theorem mend_fin {good L1 cs : List ByteArray} {P : List Rc} (hP : prefR good = P) (hg : ∀ s ∈ good, s.size ≤ 150000000000000) (hs : ∀ s ∈ cs, s.size ≤ 150000000000000) (hc : ∀ (j : Nat) (s : ByteArray), L1[j]? = some s → cs[j]? = some s) (hlen : P.length ≤ cs.length) :
    (∀ s ∈ fixL P cs (misQ L1 P), s.size ≤ 150000000000000) ∧ begR P (prefR (fixL P cs (misQ L1 P))) = true ∧ misQ (fixL P cs (misQ L1 P)) P = [] ∧ (fixL P cs (misQ L1 P)).length = cs.length := by
  obtain ⟨l, h1, h2, h3⟩ := misQ_of (ss := L1) (P := P)
  have hall := fix_all (other := L1) (cs := cs) (l := l) (P := P) h1 hc hlen
  rw [h2] at hall
  refine ⟨fun s q => ?_, fix_beg hP.symm hall, ?_, fixL_len _ _ _⟩
  · rcases fixL_mem P (misQ L1 P) cs s q with q | ⟨x, hx, rfl⟩
    · exact hs s q
    · obtain ⟨i, hi⟩ := List.getElem?_of_mem hx
      obtain ⟨j, h4, h5, _⟩ := misQ_at hi
      subst h5
      obtain ⟨r, hr⟩ : ∃ r, P[j]? = some r := ⟨_, List.getElem?_eq_getElem h4⟩
      have e : P.getD (Int.toNat (j : Int)) Rc.zero = r := by rw [Int.toNat_natCast, List.getD_eq_getElem?_getD, hr]; rfl
      rw [e]
      rw [← hP] at hr
      obtain ⟨s, e1, e2, _⟩ := pref_text hr
      rw [e2]
      exact hg s (List.mem_of_getElem? e1)
  · have q := fix_none (l := l) h1 hall
    rw [misQ_eq, h1] at q
    exact q
theorem fix_take {P : List Rc} {cs : List ByteArray} {M : List Int} {i j : Nat} (h : M[i]? = some (j : Int)) : fixL P cs (M.take (i + 1)) = (fixL P cs (M.take i)).set j (wR (P.getD j Rc.zero)) := by
  rw [List.take_add_one, h]
  exact fixL_snoc P cs (M.take i) (j : Int)
theorem IntsAt.nth {w : World} {a : Option Addr} {l : List Int} (h : IntsAt w a l) {i : Nat} {x : Int} (hx : l[i]? = some x) : ∃ b o, a = some ⟨b, o, none⟩ ∧ b < w.heap.size ∧ w.cell? ⟨b, o + i, none⟩ = some (.int .i64 x) := by
  rcases h with q | ⟨b, o, ha, hlt, hc⟩
  · rw [q] at hx; simp at hx
  · exact ⟨b, o, ha, hlt, hc i x hx⟩
theorem IntsAt.set {w : World} {a : Option Addr} {l : List Int} (h : IntsAt w a l) {g p : Nat} {v : Value} (hf : ∀ b o, a = some ⟨b, o, none⟩ → b ≠ g) : IntsAt (w.setCell ⟨g, p, none⟩ v) a l := by
  rcases h with q | ⟨b, o, ha, hlt, hc⟩
  · exact .inl q
  · refine .inr ⟨b, o, ha, by rw [World.size_setCell]; exact hlt, fun i s hs => ?_⟩
    rw [← hc i s hs]
    exact World.cell?_of_block (a := ⟨b, o + i, none⟩) (Below.heap_setCell _ _ _ _ (hf b o ha))
/-- the copy, while it is mended -/
def CpyAt (B : Nat) (v : Value) (m : Nat) (cs : List ByteArray) (w : World) : Prop := ∃ a c, v = .slice a m c ∧ m ≤ c ∧ c ≤ 9223372036854775807 ∧ cs.length = m ∧ (m = 0 ∨ ∃ g, a = some ⟨g, 0, none⟩ ∧ B ≤ g ∧ SB g cs w)
theorem cpy_of {w : World} {B m : Nat} {v : Value} {cs : List ByteArray} (h : w.ownsRow B 9 1 v m (stV cs)) (hl : cs.length = m) : CpyAt B v m cs w := by
  by_cases h0 : m = 0
  · obtain ⟨hz, ⟨rfl, e⟩ | ⟨g, cap, cur, rfl, hB, hg, hc, hm, hs, ht⟩⟩ := h
    · exact ⟨none, 0, by rw [e], by omega, by omega, hl, .inl h0⟩
    · unfold maxLen at hm
      exact ⟨_, cap, rfl, hc, hm, hl, .inl h0⟩
  · obtain ⟨g, cap, e, hg, hc, hm, hsb⟩ := row_sb h hl h0
    exact ⟨_, cap, e, hc, hm, hl, .inr ⟨g, rfl, hg, hsb⟩⟩
theorem CpyAt.strs {B m : Nat} {a : Option Addr} {c : Nat} {cs : List ByteArray} {w : World} (h : CpyAt B (.slice a m c) m cs w) : StrsAt w a cs := by
  obtain ⟨a', c', e, h1, h2, h3, h4⟩ := h
  cases e
  rcases h4 with h4 | ⟨g, rfl, _, hsb⟩
  · exact .inl (List.length_eq_zero_iff.1 (by omega))
  · exact hsb.strs
theorem StrsAt.news2 {w : World} {ad : Addr} {l : List ByteArray} (h : StrsAt w (some ad) l) : ∀ j u, (stV l)[j]? = some u → w.cell? (ad.add j) = some u := by
  rcases h with q | ⟨b, o, e, hlt, hc⟩
  · intro j u hj
    rw [q] at hj
    simp [stV] at hj
  · cases e
    exact StrsAt.news (.inr ⟨b, o, rfl, hlt, hc⟩)
theorem CpyAt.below {B m : Nat} {v : Value} {cs : List ByteArray} {w w' : World} (h : CpyAt B v m cs w) (hb : Below w.heap.size w w') : CpyAt B v m cs w' := by
  obtain ⟨a', c', e, k1, k2, k3, h4⟩ := h
  refine ⟨a', c', e, k1, k2, k3, ?_⟩
  rcases h4 with h4 | ⟨g', e3, k4, hsb⟩
  · exact .inl h4
  · exact .inr ⟨g', e3, k4, hsb.below hb hsb.lt⟩
theorem CpyAt.open {B m c : Nat} {a : Option Addr} {cs : List ByteArray} {w : World} (h : CpyAt B (.slice a m c) m cs w) (h0 : m ≠ 0) : ∃ g, a = some ⟨g, 0, none⟩ ∧ B ≤ g ∧ SB g cs w ∧ m ≤ c ∧ c ≤ 9223372036854775807 ∧ cs.length = m := by
  obtain ⟨a', c', e, k1, k2, k3, h4⟩ := h
  cases e
  rcases h4 with h4 | ⟨g', e3, k4, hsb⟩
  · exact absurd h4 h0
  · exact ⟨g', e3, k4, hsb, k1, k2, k3⟩
def slN : Value → Nat
  | .slice _ n _ => n
  | _ => 0
/-- the copy, while it grows -/
def GrI (L1 : List ByteArray) (l1 n : Nat) (w1 wr : World) (v : Value) : Prop := ∃ (a : Option Addr) (m c : Nat), v = .slice a m c ∧ l1 ≤ m ∧ (m = l1 ∨ m ≤ n) ∧ GR w1 wr 9 1 v m (stV (L1 ++ List.replicate (m - l1) ByteArray.empty))
theorem GrI.first {L1 : List ByteArray} {l1 n : Nat} {w1 w2 : World} {v : Value} (hl : L1.length = l1) (h : w2.ownsRow w1.heap.size 9 1 v l1 (stV L1)) (hb : Below w1.heap.size w1 w2) : GrI L1 l1 n w1 w2 v := by
  have hg : GR w1 w2 9 1 v l1 (stV L1) := ⟨h, hb⟩
  obtain ⟨a, c, e, _⟩ := hg.form
  exact ⟨a, l1, c, e, Nat.le_refl _, .inl rfl, by rw [Nat.sub_self]; simpa using hg⟩
theorem GrI.next {L1 : List ByteArray} {l1 n m : Nat} {w1 w2 : World} {v : Value} (h1 : l1 ≤ m) (hm : m < n) (h : GR w1 w2 9 1 v (m + 1) (stV (L1 ++ List.replicate (m - l1) ByteArray.empty) ++ [.string ByteArray.empty])) : GrI L1 l1 n w1 w2 v ∧ slN v = m + 1 := by
  obtain ⟨a, c, e, _⟩ := h.form
  refine ⟨⟨a, m + 1, c, e, by omega, .inr (by omega), ?_⟩, by rw [e]; rfl⟩
  rw [show m + 1 - l1 = (m - l1) + 1 by omega, List.replicate_succ', ← List.append_assoc, stV_snoc]
  exact h
theorem grow_len {L1 : List ByteArray} {l1 m : Nat} (hl : L1.length = l1) (h : l1 ≤ m) : (L1 ++ List.replicate (m - l1) ByteArray.empty).length = m := by
  rw [List.length_append, List.length_replicate]; omega
theorem grow_at {L1 : List ByteArray} {k : Nat} : ∀ (j : Nat) (s : ByteArray), L1[j]? = some s → (L1 ++ List.replicate k ByteArray.empty)[j]? = some s := fun j s h => by
  rw [List.getElem?_append_left (List.getElem?_eq_some_iff.1 h).1]; exact h
theorem grow_sz {L1 : List ByteArray} {k : Nat} (h : ∀ s ∈ L1, s.size ≤ 150000000000000) : ∀ s ∈ L1 ++ List.replicate k ByteArray.empty, s.size ≤ 150000000000000 := fun s q => by
  rcases List.mem_append.1 q with q | q
  · exact h s q
  · rw [(List.mem_replicate.1 q).2]; simp
end Go.Proofs.Ytaiafbihcfbglaa
