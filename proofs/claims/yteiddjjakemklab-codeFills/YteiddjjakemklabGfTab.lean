/- A table in memory: one block of 511 cells (255 powers, 256 logarithms); what it is behind k rounds of New's loop. No walk stands here. -/
import Derived.Test.YteiddjjakemklabGfMath
import Derived.Test.YteiddjjakemklabRows
import Derived.WalkKit
import Derived.WalkSpells
import Derived.WalkLawsBesides
namespace Go.Proofs.Yteiddjjakemklab
open Go.RowKit
theorem hide {p : Prop} (h : p) : Hid p := h
def tabZero : Array Value := Array.replicate 511 (.int .u8 0)
/-- the block behind k rounds -/
def tabK : Nat → Array Value
  | 0 => tabZero
  | k + 1 => ((tabK k).setIfInBounds k (.int .u8 (Gf.pw k : Nat))).setIfInBounds (255 + Gf.pw k) (.int .u8 (k : Nat))
/-- x at the head of round k -/
def xk (k : Nat) : Nat := if k < 255 then Gf.pw k else 1
theorem tabZero_size : tabZero.size = 511 := by simp [tabZero]
theorem tabK_size (k : Nat) : (tabK k).size = 511 := by
  induction k with
  | zero => exact tabZero_size
  | succ k ih => simp [tabK, ih]
theorem tabK_low : ∀ k, k ≤ 255 → ∀ n, n < 255 → (tabK k)[n]? = some (.int .u8 ((if n < k then Gf.pw n else 0 : Nat) : Int)) := by
  intro k
  induction k with
  | zero => intro _ n hn; simp [tabK, tabZero, Array.getElem?_replicate]; omega
  | succ k ih =>
    intro hk n hn
    have hs := tabK_size k
    simp only [tabK, Array.getElem?_setIfInBounds, Array.size_setIfInBounds, hs]
    rw [if_neg (by omega)]
    by_cases e : k = n
    · subst e; rw [if_pos rfl, if_pos (by omega), if_pos (by omega)]
    · rw [if_neg e, ih (by omega) n hn]
      by_cases c : n < k
      · rw [if_pos c, if_pos (by omega)]
      · rw [if_neg c, if_neg (by omega)]
theorem tabK_high : ∀ k, k ≤ 255 → ∀ x, x < 256 → (tabK k)[255 + x]? = some (.int .u8 ((if 0 < x ∧ Gf.lg x < k then Gf.lg x else 0 : Nat) : Int)) := by
  intro k
  induction k with
  | zero => intro _ n hn; simp [tabK, tabZero, Array.getElem?_replicate]; omega
  | succ k ih =>
    intro hk x hx
    have hs := tabK_size k
    have hp := Gf.pw_pos (n := k) (by omega)
    have hl := Gf.lg_pw (n := k) (by omega)
    have hu := Gf.pw_lt (n := k) (by omega)
    simp only [tabK, Array.getElem?_setIfInBounds, Array.size_setIfInBounds, hs]
    by_cases e : Gf.pw k = x
    · subst e; rw [if_pos rfl, if_pos (by omega), hl, if_pos (by omega)]
    · rw [if_neg (by omega), if_neg (by omega), ih (by omega) x hx]
      by_cases c : 0 < x ∧ Gf.lg x < k
      · rw [if_pos c, if_pos (by omega)]
      · rw [if_neg c]
        by_cases d : 0 < x ∧ Gf.lg x < k + 1
        · exfalso
          have : Gf.lg x = k := by omega
          exact e (by rw [← this]; exact Gf.pw_lg d.1 hx)
        · rw [if_neg d]
/-- the table, as New leaves it -/
def TabAt (w : World) (b : Nat) : Prop := w.heap[b]? = some (.cells (tabK 255) 48 (0, 0))
theorem TabAt.power {w : World} {b : Nat} (h : TabAt w b) {n : Nat} (hn : n < 255) : w.cell? ⟨b, n, none⟩ = some (.int .u8 (Gf.pw n : Nat)) := by
  unfold TabAt at h
  simp [World.cell?, h, tabK_low 255 (by omega) n hn, hn]
theorem high_num {x : Nat} (hx : x < 256) : (if 0 < x ∧ Gf.lg x < 255 then Gf.lg x else 0 : Nat) = Gf.lg x := by
  rcases Nat.eq_zero_or_pos x with h0 | h0
  · subst h0; rw [Gf.lg_zero]; rfl
  · have := Gf.lg_lt h0 hx; rw [if_pos ⟨h0, this⟩]
theorem TabAt.which {w : World} {b : Nat} (h : TabAt w b) {x : Nat} (hx : x < 256) : w.cell? ⟨b, 255 + x, none⟩ = some (.int .u8 (Gf.lg x : Nat)) := by
  unfold TabAt at h
  have e := tabK_high 255 (by omega) x hx
  rw [high_num hx] at e
  rw [← e]
  simp [World.cell?, h]
theorem TabAt.lt {w : World} {b : Nat} (h : TabAt w b) : b < w.heap.size := lt_of_block h
theorem TabAt.below {w w' : World} {b B : Nat} (h : TabAt w b) (hb : Below B w w') (hB : b < B) : TabAt w' b := by
  unfold TabAt at *; rw [hb.block b hB]; exact h
theorem TabAt.drewN {w : World} {b : Nat} (h : TabAt w b) (n : Nat) : TabAt (w.drewN n) b := h
theorem TabAt.drew {w : World} {b : Nat} (h : TabAt w b) : TabAt w.drew b := h
/-- a store into a block of cells -/
theorem block_setCell {w : World} {b i : Nat} {c : Array Value} {t : TypeId} (u : Value) (h : w.heap[b]? = some (.cells c t (0, 0))) :
    (w.setCell ⟨b, i, none⟩ u).heap[b]? = some (.cells (c.setIfInBounds i u) t (0, 0)) := by
  have hlt := lt_of_block h
  have h' : w.heap[b] = .cells c t (0, 0) := by simpa [Array.getElem?_eq_getElem hlt] using h
  show (w.heap.modify b _)[b]? = _
  rw [Array.getElem?_eq_getElem (by simpa using hlt), Array.getElem_modify_self, h']
  rfl
theorem free_of_block {w : World} {b i : Nat} {c : Array Value} {t : TypeId} (h : w.heap[b]? = some (.cells c t (0, 0))) : w.frozen? ⟨b, i, none⟩ = false := by simp [World.frozen?, h]
theorem cell_of_block {w : World} {b i : Nat} {c : Array Value} {t : TypeId} (h : w.heap[b]? = some (.cells c t (0, 0))) : w.cell? ⟨b, i, none⟩ = c[i]? := by simp [World.cell?, h]
end Go.Proofs.Yteiddjjakemklab
