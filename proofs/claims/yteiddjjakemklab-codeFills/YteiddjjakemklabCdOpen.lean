/- A law's arguments as they came in: a slice of strings, of ints, of bools, read as a list; and Small of any such. -/
import Derived.Test.YteiddjjakemklabCdLive
import Derived.SliceStrings
import Derived.ChangeSlices
import Derived.Deep.Grids
namespace Go.Proofs.Yteiddjjakemklab
open Go.RowKit
/-- what a law knows of a slice that came in -/
def Came (t : TypeId) (w : World) (a : Option Addr) (l c : Nat) : Prop := ∃ (H : Type) (enc : TypeId × Value → H) (d : DataW H) (ps : List MemPlace), DataW.Trod enc Try.prog w 0 (fun _ => true) true t (.slice a l c) d ps
theorem plain_addr {w : World} {a : Addr} {v : Value} (h : w.cell? (a.add 0) = some v) : a = ⟨a.block, a.off, none⟩ ∧ a.block < w.heap.size := by
  rw [show a.add 0 = a from rfl] at h
  unfold World.cell? at h
  split at h
  · next c _ _ e =>
    split at h
    · cases h
    · next hs =>
      refine ⟨?_, lt_of_block e⟩
      cases a with
      | mk b o s => cases s with
        | none => rfl
        | some _ => simp at hs
  · cases h
theorem add_plain (b o i : Nat) : (⟨b, o, none⟩ : Addr).add i = ⟨b, o + i, none⟩ := by
  unfold Addr.add
  split
  · next h => subst h; rfl
  · rfl
theorem came_strs {w : World} {a : Option Addr} {l c : Nat} (h : Came 30 w a l c) : ∃ ls : List ByteArray, ls.length = l ∧ l ≤ c ∧ l ≤ 9223372036854775807 ∧ StrsAt w a ls := by
  obtain ⟨H, enc, d, ps, fuel, hf⟩ := h
  rcases Go.ChangeShapes.open_strings Try.underlying30 Try.underlying9 (by kernel_rfl) hf with ⟨hcs, _⟩ | ⟨x, l', c', ss, hcs, _, hl, hm, hz, _, hcell, _⟩
  · simp [Value.cells] at hcs
    obtain ⟨rfl, rfl, rfl⟩ := hcs
    exact ⟨[], rfl, by omega, by omega, .inl rfl⟩
  · simp [Value.cells] at hcs
    obtain ⟨rfl, rfl, rfl⟩ := hcs
    simp only [if_true] at hz
    unfold maxLen at hm
    refine ⟨ss.take l, by rw [List.length_take]; omega, hl, by omega, ?_⟩
    by_cases h0 : l = 0
    · exact .inl (by subst h0; rfl)
    · obtain ⟨e, hb⟩ := plain_addr (hcell 0 (by omega))
      refine .inr ⟨x.block, x.off, by rw [← e], hb, fun i s hs => ?_⟩
      have hi : i < l := by have := (List.getElem?_eq_some_iff.1 hs).1; rw [List.length_take] at this; omega
      rw [List.getElem?_take, if_pos hi] at hs
      have := hcell i (by omega)
      rw [e, add_plain] at this
      rw [this, List.getD_eq_getElem?_getD, hs]; rfl
/-- a slice of ints that reads as the list l -/
def NumsAt (w : World) (a : Option Addr) (l : List Int) : Prop := l = [] ∨ ∃ b o, a = some ⟨b, o, none⟩ ∧ b < w.heap.size ∧ ∀ (i : Nat) (s : Int), l[i]? = some s → w.cell? ⟨b, o + i, none⟩ = some (.int .i64 s)
theorem came_nums {w : World} {a : Option Addr} {l c : Nat} (h : Came 43 w a l c) : ∃ ls : List Int, ls.length = l ∧ l ≤ c ∧ l ≤ 9223372036854775807 ∧ NumsAt w a ls := by
  obtain ⟨H, enc, d, ps, fuel, hf⟩ := h
  rcases Go.ChangeShapes.open_ints Try.underlying43 Try.underlying3 (by kernel_rfl) hf with ⟨hcs, _⟩ | ⟨x, l', c', ss, hcs, _, hl, hm, hz, _, hcell, _⟩
  · simp [Value.cells] at hcs
    obtain ⟨rfl, rfl, rfl⟩ := hcs
    exact ⟨[], rfl, by omega, by omega, .inl rfl⟩
  · simp [Value.cells] at hcs
    obtain ⟨rfl, rfl, rfl⟩ := hcs
    simp only [if_true] at hz
    unfold maxLen at hm
    refine ⟨ss.take l, by rw [List.length_take]; omega, hl, by omega, ?_⟩
    by_cases h0 : l = 0
    · exact .inl (by subst h0; rfl)
    · obtain ⟨e, hb⟩ := plain_addr (hcell 0 (by omega))
      refine .inr ⟨x.block, x.off, by rw [← e], hb, fun i s hs => ?_⟩
      have hi : i < l := by have := (List.getElem?_eq_some_iff.1 hs).1; rw [List.length_take] at this; omega
      rw [List.getElem?_take, if_pos hi] at hs
      have := hcell i (by omega)
      rw [e, add_plain] at this
      rw [this, List.getD_eq_getElem?_getD, hs]; rfl
theorem came_bools {w : World} {a : Option Addr} {l c : Nat} (h : Came 38 w a l c) : ∃ ls : List Bool, ls.length = l ∧ l ≤ c ∧ l ≤ 9223372036854775807 ∧ BoolsAt w a ls := by
  obtain ⟨H, enc, d, ps, fuel, hf⟩ := h
  rcases Go.Deep.open_bools Try.underlying38 Try.underlying4 (by kernel_rfl) hf with ⟨hcs, _⟩ | ⟨x, l', c', B, hcs, _, hl, hm, _, hcell⟩
  · simp [Value.cells] at hcs
    obtain ⟨rfl, rfl, rfl⟩ := hcs
    exact ⟨[], rfl, by omega, by omega, .inl rfl⟩
  · simp [Value.cells] at hcs
    obtain ⟨rfl, rfl, rfl⟩ := hcs
    unfold maxLen at hm
    refine ⟨(List.range l).map B, by simp, hl, by omega, ?_⟩
    by_cases h0 : l = 0
    · exact .inl (by subst h0; rfl)
    · obtain ⟨e, hb⟩ := plain_addr (hcell 0 (by omega))
      refine .inr ⟨x.block, x.off, by rw [← e], hb, fun i s hs => ?_⟩
      have hi : i < l := by have := (List.getElem?_eq_some_iff.1 hs).1; simpa using this
      simp [hi] at hs
      have := hcell i (by omega)
      rw [e, add_plain] at this
      rw [this, hs]
theorem NumsAt.below {w w' : World} {a : Option Addr} {l : List Int} (h : NumsAt w a l) (hb : Below w.heap.size w w') : NumsAt w' a l := by
  rcases h with h | ⟨b, o, ha, hlt, hc⟩
  · exact .inl h
  · exact .inr ⟨b, o, ha, Nat.lt_of_lt_of_le hlt hb.size, fun i s hs => (hb.cell (p := ⟨b, o + i, none⟩) hlt).trans (hc i s hs)⟩
theorem BoolsAt.below {w w' : World} {a : Option Addr} {l : List Bool} (h : BoolsAt w a l) (hb : Below w.heap.size w w') : BoolsAt w' a l := by
  rcases h with h | ⟨b, o, ha, hlt, hc⟩
  · exact .inl h
  · exact .inr ⟨b, o, ha, Nat.lt_of_lt_of_le hlt hb.size, fun i s hs => (hb.cell (p := ⟨b, o + i, none⟩) hlt).trans (hc i s hs)⟩
set_option maxRecDepth 100000 in
set_option maxHeartbeats 1000000 in
theorem small_wide (a : Option Addr) (n cap : Nat) (many long : Int) (l : List ByteArray) (w : World) (hl : l.length = n) (hn : n ≤ 9223372036854775807) (hS : StrsAt w a l) :
    Calls Try.prog 11 #[.slice a n cap, .int .i64 many, .int .i64 long] w fun e w' => e = .returned (.bool (smallB l many long)) ∧ w = w' := by
  have HL := hide hl
  have HS := hide hS
  clear hl hS
  go_enter Try.func11, Try.ntmps11
  go_wp2_with fail
  go_loop [7] (fun y => ∃ k : Nat, k ≤ n ∧ y = .int .i64 k ∧ ∀ (i : Nat) (s : ByteArray), i < k → l[i]? = some s → (s.size : Int) ≤ long) (fun y => n - (intOf y).toNat)
  case atStart => exact ⟨0, by omega, rfl, fun _ _ h => by omega⟩
  case round =>
    obtain ⟨k, hk, rfl, hall⟩ := hrel
    have HA := hide hall
    clear hall
    by_cases hlt : k < n
    · obtain ⟨s, hs⟩ : ∃ s, l[k]? = some s := ⟨_, List.getElem?_eq_getElem (by have := HL.out; omega)⟩
      rcases HS.out with h | ⟨bs, o, rfl, hbs, hc⟩
      · rw [h] at hs; simp at hs
      have hck := hc k s hs
      have HK := hide hs
      clear hs hc
      by_cases he : long < (s.size : Int)
      · go_wp2_with fail
        go_ret
        exact ⟨ret_bool (small_no HK.out he).symm, rfl⟩
      · have he' : (s.size : Int) ≤ long := by omega
        clear he
        go_wp2_with fail
        go_round
        case rel => exact ⟨k + 1, by omega, by go_num, fun i t hi ht => by
          by_cases e : i = k
          · subst e; rw [HK.out] at ht; cases ht; exact he'
          · exact HA.out i t (by omega) ht⟩
        case measure => simp [intOf]; omega
    · go_wp2_with fail
      go_ret
      refine ⟨ret_bool ?_, rfl⟩
      rw [small_end fun i s hs => HA.out i s (by have := (List.getElem?_eq_some_iff.1 hs).1; have := HL.out; omega) hs, HL.out]
/-- the first n cells of an array -/
def StAt (w : World) (b : Nat) (t : TypeId) (n : Nat) (g : Nat → Value) : Prop := ∃ cur, w.heap[b]? = some (.cells cur t (0, 0)) ∧ ∀ i, i < n → cur[i]? = some (g i)
theorem StAt.cell {w : World} {b : Nat} {t : TypeId} {n : Nat} {g : Nat → Value} (h : StAt w b t n g) {p : Nat} (hp : p < n) : w.cell? ⟨b, p, none⟩ = some (g p) := by
  obtain ⟨cur, h, hc⟩ := h; exact (cell_of_block h).trans (hc p hp)
theorem StAt.free {w : World} {b : Nat} {t : TypeId} {n : Nat} {g : Nat → Value} (h : StAt w b t n g) (p : Nat) : w.frozen? ⟨b, p, none⟩ = false := by
  obtain ⟨cur, h, _⟩ := h; exact free_of_block h
theorem StAt.lt {w : World} {b : Nat} {t : TypeId} {n : Nat} {g : Nat → Value} (h : StAt w b t n g) : b < w.heap.size := by
  obtain ⟨cur, h, _⟩ := h; exact lt_of_block h
theorem StAt.set {w : World} {b : Nat} {t : TypeId} {n : Nat} {g : Nat → Value} (h : StAt w b t n g) (p : Nat) (x : Value) : StAt (w.setCell ⟨b, p, none⟩ x) b t n (fun q => if q = p then x else g q) := by
  obtain ⟨cur, h, hc⟩ := h
  refine ⟨_, block_setCell x h, fun i hi => ?_⟩
  show (cur.setIfInBounds p x)[i]? = some (if i = p then x else g i)
  rw [Array.getElem?_setIfInBounds]
  by_cases e : p = i
  · have : i < cur.size := (Array.getElem?_eq_some_iff.1 (hc i hi)).1
    rw [if_pos e, if_pos (by omega), if_pos e.symm]
  · rw [if_neg e, if_neg (fun h => e h.symm)]; exact hc i hi
theorem StAt.congr {w : World} {b : Nat} {t : TypeId} {n : Nat} {g g' : Nat → Value} (h : StAt w b t n g) (e : ∀ p, p < n → g p = g' p) : StAt w b t n g' := by
  obtain ⟨cur, h, hc⟩ := h; exact ⟨cur, h, fun i hi => (hc i hi).trans (by rw [e i hi])⟩
theorem StAt.other {w : World} {b : Nat} {t : TypeId} {n : Nat} {g : Nat → Value} (h : StAt w b t n g) {a : Addr} (hne : b ≠ a.block) (u : Value) : StAt (w.setCell a u) b t n g := by
  obtain ⟨cur, h, hc⟩ := h; exact ⟨cur, by rw [Below.heap_setCell _ _ _ _ hne]; exact h, hc⟩
theorem StAt.below {w w' : World} {b B : Nat} {t : TypeId} {n : Nat} {g : Nat → Value} (h : StAt w b t n g) (hb : Below B w w') (hB : b < B) : StAt w' b t n g := by
  obtain ⟨cur, h, hc⟩ := h; exact ⟨cur, by rw [hb.block b hB]; exact h, hc⟩
theorem StAt.of_row {w : World} {base : Nat} {t : TypeId} {v : Value} {n : Nat} {xs : List Value} (h : w.ownsRow base t 1 v n xs) (hn : n ≠ 0) : ∃ g cap, v = .slice (some ⟨g, 0, none⟩) n cap ∧ base ≤ g ∧ n ≤ cap ∧ cap ≤ 9223372036854775807 ∧ StAt w g t n (fun i => xs[i]?.getD (.bool false)) := by
  obtain ⟨hl, ⟨_, h⟩ | ⟨g, cap, cur, rfl, hb, hg, hc, hm, hs, ht⟩⟩ := h
  · exact absurd h hn
  · refine ⟨g, cap, rfl, hb, hc, hm, cur, hg, fun i hi => ?_⟩
    show cur[i]? = some (xs[i]?.getD (.bool false))
    have : i < cur.size := by omega
    rw [← ht, List.getElem?_take, if_pos (by omega)]
    simp [this]
end Go.Proofs.Yteiddjjakemklab
