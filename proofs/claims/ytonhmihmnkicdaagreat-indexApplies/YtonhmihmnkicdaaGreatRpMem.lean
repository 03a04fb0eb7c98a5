/- Rows of records in memory: fourteen cells each, each with its slice of places. -/
import Derived.Test.YtonhmihmnkicdaaGreatRcRd
namespace Go.Proofs.YtonhmihmnkicdaaGreat
open Go.RowKit
set_option linter.unusedVariables false
/-- a record, and where its places lie -/
abbrev RT := Rc × Option Addr × Nat
def rtC (x : RT) : Array Value := rcs x.1 x.2.1 x.2.2
def rtV (l : List RT) : List Value := l.flatMap fun x => (rtC x).toList
theorem rtC_len (x : RT) : (rtC x).toList.length = 14 := rfl
theorem rtV_snoc (l : List RT) (x : RT) : rtV (l ++ [x]) = rtV l ++ (rtC x).toList := by simp [rtV]
theorem rtV_len : ∀ l : List RT, (rtV l).length = l.length * 14
  | [] => rfl
  | x :: l => by show ((rtC x).toList ++ rtV l).length = _; rw [List.length_append, rtV_len l, rtC_len, List.length_cons]; omega
theorem rtV_at : ∀ {l : List RT} {i : Nat} {x : RT}, l[i]? = some x → ∀ j, j < 14 → (rtV l)[i * 14 + j]? = (rtC x).toList[j]?
  | [], i, x, h, _, _ => by simp at h
  | y :: l, 0, x, h, j, hj => by
    simp at h; subst h
    show ((rtC y).toList ++ rtV l)[0 * 14 + j]? = _
    rw [Nat.zero_mul, Nat.zero_add, List.getElem?_append_left (by rw [rtC_len]; exact hj)]
  | y :: l, i + 1, x, h, j, hj => by
    have := rtV_at (l := l) (i := i) (x := x) (by simpa using h) j hj
    show ((rtC y).toList ++ rtV l)[(i + 1) * 14 + j]? = _
    rw [List.getElem?_append_right (by rw [rtC_len]; omega), rtC_len, show (i + 1) * 14 + j - 14 = i * 14 + j by omega]
    exact this
/-- records that lie one behind the other, each with its places -/
def RecsAt (w : World) (a : Option Addr) (l : List RT) : Prop := (l = [] ∨ ∃ b o, a = some ⟨b, o, none⟩ ∧ b < w.heap.size ∧ ∀ (i : Nat) (x : RT), l[i]? = some x → w.rangeAt b (o + i * 14) (rtC x).toList) ∧ ∀ x ∈ l, LocsAt w x.2.1 x.1.ls
theorem range_block {w w' : World} {b o : Nat} {vs : List Value} (h : w.rangeAt b o vs) (hb : w'.heap[b]? = w.heap[b]?) : w'.rangeAt b o vs := fun j v hv => (World.cell?_of_block (a := ⟨b, o + j, none⟩) hb).trans (h j v hv)
theorem RecsAt.below {w w' : World} {a : Option Addr} {l : List RT} (h : RecsAt w a l) (hb : Below w.heap.size w w') : RecsAt w' a l := by
  refine ⟨?_, fun x hx => (h.2 x hx).below hb⟩
  rcases h.1 with q | ⟨b, o, ha, hlt, hc⟩
  · exact .inl q
  · exact .inr ⟨b, o, ha, Nat.lt_of_lt_of_le hlt hb.size, fun i x hx => range_block (hc i x hx) (hb.block b hlt)⟩
theorem RecsAt.nth {w : World} {a : Option Addr} {l : List RT} (h : RecsAt w a l) {k : Nat} {x : RT} (hx : l[k]? = some x) : ∃ b o, a = some ⟨b, o, none⟩ ∧ b < w.heap.size ∧ w.rangeAt b (o + k * 14) (rtC x).toList ∧ LocsAt w x.2.1 x.1.ls := by
  rcases h.1 with q | ⟨b, o, ha, hlt, hc⟩
  · rw [q] at hx; simp at hx
  · exact ⟨b, o, ha, hlt, hc k x hx, h.2 x (List.mem_of_getElem? hx)⟩
theorem RecsAt.nil (w : World) (a : Option Addr) : RecsAt w a [] := ⟨.inl rfl, fun x hx => by simp at hx⟩
theorem RecsAt.take {w : World} {a : Option Addr} {l : List RT} (h : RecsAt w a l) (n : Nat) : RecsAt w a (l.take n) := by
  refine ⟨?_, fun x hx => h.2 x (List.mem_of_mem_take hx)⟩
  rcases h.1 with q | ⟨b, o, ha, hlt, hc⟩
  · exact .inl (by rw [q]; simp)
  · refine .inr ⟨b, o, ha, hlt, fun i x hx => hc i x ?_⟩
    rw [List.getElem?_take] at hx
    split at hx
    · exact hx
    · cases hx
/-- a row of one's own that holds these records, their places lie somewhere else -/
theorem recs_own {w : World} {B : Nat} {t : TypeId} {v : Value} {l : List RT} (h : w.ownsRow B t 14 v l.length (rtV l)) (hl : ∀ x ∈ l, LocsAt w x.2.1 x.1.ls) : ∃ a c, v = .slice a l.length c ∧ l.length ≤ c ∧ RecsAt w a l := by
  obtain ⟨hz, ⟨rfl, e⟩ | ⟨g, cap, cur, rfl, hB, hg, hc, hm, hs, ht⟩⟩ := h
  · exact ⟨none, 0, by rw [e], by omega, .inl (List.length_eq_zero_iff.1 e), hl⟩
  · refine ⟨_, cap, rfl, hc, .inr ⟨g, 0, rfl, lt_of_block hg, fun i x hx j u hu => ?_⟩, hl⟩
    have hj : j < 14 := by have := (List.getElem?_eq_some_iff.1 hu).1; rwa [rtC_len] at this
    have key := rtV_at hx j hj
    rw [hu] at key
    have : w.cell? ⟨g, 0 + i * 14 + j, none⟩ = some u := by
      rw [cell_of_block hg, Nat.zero_add]
      rw [← ht, List.getElem?_take] at key
      split at key
      · rw [← key, Array.getElem?_toList]
      · cases key
    exact this
theorem rec_row : (Tryz.prog.info? 43).map (fun i => (i.zero, i.size)) = some (some (.agg (rcs Rc.zero none 0)), 14) := by kernel_rfl
theorem ref_row : (Tryz.prog.info? 40).map (fun i => (i.zero, i.size)) = some (some (.agg (rcs Rc.zero none 0)), 14) := by kernel_rfl
end Go.Proofs.YtonhmihmnkicdaaGreat
