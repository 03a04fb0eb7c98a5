/- Rows that grow by append, of elements of any size; lists of numbers and of places in memory. (For seats without needles: in the place of NeRow.) -/
import Derived.Test.YtlpibpkbgmcclaaDoorBaseX
import Derived.Maps.AppendAt
import Derived.Deep.Slices
import Derived.Deep.Fields
namespace Go.Proofs.YtlpibpkbgmcclaaDoor
open Go.RowKit
set_option linter.unusedVariables false
theorem drawn_below {B : Nat} {a w : World} (h : Below B a w) (n : Nat) : Below B a (w.drewN n) := ⟨h.os, h.tape, h.output, h.size, h.block⟩
theorem int_info : (Tryd.prog.info? 3).map (fun i => (i.zero, i.size, i.bytes)) = some (some (.int .i64 0), 1, 8) := by kernel_rfl
/-- a row of one's own -/
def GR (w wr : World) (e : TypeId) (size : Nat) (v : Value) (n : Nat) (xs : List Value) : Prop := wr.ownsRow w.heap.size e size v n xs ∧ Below w.heap.size w wr
theorem own_below {B size n : Nat} {e : TypeId} {v : Value} {xs : List Value} {w w' : World} (h : w.ownsRow B e size v n xs) (hb : Below w.heap.size w w') : w'.ownsRow B e size v n xs := by
  obtain ⟨hl, ⟨rfl, rfl⟩ | ⟨g, cap, cur, rfl, hB, hg, hc, hm, hs, ht⟩⟩ := h
  · exact ⟨hl, .inl ⟨rfl, rfl⟩⟩
  · exact ⟨hl, .inr ⟨g, cap, cur, rfl, hB, (hb.block g (lt_of_block hg)).trans hg, hc, hm, hs, ht⟩⟩
theorem own_mono {W : World} {B B' z n : Nat} {e : TypeId} {v : Value} {xs : List Value} (h : W.ownsRow B e z v n xs) (hb : B' ≤ B) : W.ownsRow B' e z v n xs := by
  obtain ⟨hl, ⟨rfl, rfl⟩ | ⟨g, cap, cur, rfl, hB, hg, hc, hm, hs, ht⟩⟩ := h
  · exact ⟨hl, .inl ⟨rfl, rfl⟩⟩
  · exact ⟨hl, .inr ⟨g, cap, cur, rfl, by omega, hg, hc, hm, hs, ht⟩⟩
theorem GR.nil (w wr : World) (e : TypeId) (size : Nat) (h : Below w.heap.size w wr) : GR w wr e size (.slice none 0 0) 0 [] := ⟨World.ownsRow_nil _ _ _ _, h⟩
theorem GR.below {w wr w' : World} {e : TypeId} {size n : Nat} {v : Value} {xs : List Value} (h : GR w wr e size v n xs) (hb : Below wr.heap.size wr w') : GR w w' e size v n xs := ⟨own_below h.1 hb, h.2.trans (hb.mono h.2.size)⟩
theorem GR.step {w wr w1 : World} {e : TypeId} {size n : Nat} {v v' : Value} {xs ys : List Value} {o : Obj} (h : GR w wr e size v n xs) (hown : w1.ownsRow w.heap.size e size v' (n + 1) ys) (hgr : (wr.alloc o).grownBy w1 v.ownBlock) : GR w w1 e size v' (n + 1) ys := by
  refine ⟨hown, Below.grown (h.2.alloc h.2.size o) hgr ?_ fun g hg => row_base h.1 hg⟩
  rw [World.size_alloc]
  exact Nat.le_succ_of_le h.2.size
theorem cell_two_new (w : World) (x y : Value) (t : TypeId) : ∀ j u, [x, y][j]? = some u → (w.alloc (.cells #[x, y] t)).cell? ((⟨w.heap.size, 0, none⟩ : Addr).add j) = some u := by
  intro j u hj
  rw [add_plain, cell_of_block (heap_alloc_new w (.cells #[x, y] t)), Nat.zero_add]
  match j, hj with
  | 0, hj => exact hj
  | 1, hj => exact hj
theorem GR.form {w wr : World} {e : TypeId} {size n : Nat} {v : Value} {xs : List Value} (h : GR w wr e size v n xs) : ∃ a c, v = .slice a n c ∧ n ≤ c ∧ c ≤ 9223372036854775807 ∧ (n = 0 ∨ ∃ g, a = some ⟨g, 0, none⟩ ∧ w.heap.size ≤ g ∧ g < wr.heap.size ∧ ∀ j u, xs[j]? = some u → wr.cell? ⟨g, 0 + j, none⟩ = some u) := by
  obtain ⟨⟨hl, ⟨rfl, rfl⟩ | ⟨g, cap, cur, rfl, hB, hg, hc, hm, hs, ht⟩⟩, hb⟩ := h
  · exact ⟨none, 0, rfl, Nat.le_refl _, by omega, .inl rfl⟩
  · unfold maxLen at hm
    refine ⟨_, cap, rfl, hc, hm, .inr ⟨g, rfl, hB, lt_of_block hg, fun j u hu => ?_⟩⟩
    rw [Nat.zero_add, cell_of_block hg]
    rw [← ht, List.getElem?_take] at hu
    split at hu
    · rw [← hu, Array.getElem?_toList]
    · cases hu
def IntsAt (w : World) (a : Option Addr) (l : List Int) : Prop := l = [] ∨ ∃ b o, a = some ⟨b, o, none⟩ ∧ b < w.heap.size ∧ ∀ i s, l[i]? = some s → w.cell? ⟨b, o + i, none⟩ = some (.int .i64 s)
theorem IntsAt.below {w w' : World} {a : Option Addr} {l : List Int} (h : IntsAt w a l) (hb : Below w.heap.size w w') : IntsAt w' a l := by
  rcases h with h | ⟨b, o, ha, hlt, hc⟩
  · exact .inl h
  · exact .inr ⟨b, o, ha, Nat.lt_of_lt_of_le hlt hb.size, fun i s hs => (hb.cell (p := ⟨b, o + i, none⟩) hlt).trans (hc i s hs)⟩
theorem IntsAt.drewN {w : World} {a : Option Addr} {l : List Int} (h : IntsAt w a l) (n : Nat) : IntsAt (w.drewN n) a l := h
def inV (l : List Int) : List Value := l.map fun x => .int .i64 x
theorem inV_snoc (l : List Int) (x : Int) : inV (l ++ [x]) = inV l ++ [.int .i64 x] := by simp [inV]
theorem GR.ints {w wr : World} {e : TypeId} {v : Value} {l : List Int} (h : GR w wr e 1 v l.length (inV l)) : ∃ a c, v = .slice a l.length c ∧ l.length ≤ c ∧ IntsAt wr a l := by
  obtain ⟨a, c, e1, hc, _, h0 | ⟨g, rfl, _, hlt, hcell⟩⟩ := h.form
  · exact ⟨a, c, e1, hc, .inl (List.length_eq_zero_iff.1 h0)⟩
  · exact ⟨_, c, e1, hc, .inr ⟨g, 0, rfl, hlt, fun i s hs => hcell i _ (by unfold inV; rw [List.getElem?_map, hs]; rfl)⟩⟩
/-- places that lie one behind the other -/
def LocsAt (w : World) (a : Option Addr) (l : List (Int × Int)) : Prop := l = [] ∨ ∃ b o, a = some ⟨b, o, none⟩ ∧ b < w.heap.size ∧ ∀ (i : Nat) (x : Int × Int), l[i]? = some x → w.cell? ⟨b, o + i * 2, none⟩ = some (.int .i64 x.1) ∧ w.cell? ⟨b, o + i * 2 + 1, none⟩ = some (.int .i64 x.2)
theorem LocsAt.below {w w' : World} {a : Option Addr} {l : List (Int × Int)} (h : LocsAt w a l) (hb : Below w.heap.size w w') : LocsAt w' a l := by
  rcases h with h | ⟨b, o, ha, hlt, hc⟩
  · exact .inl h
  · exact .inr ⟨b, o, ha, Nat.lt_of_lt_of_le hlt hb.size, fun i x hx => ⟨(hb.cell (p := ⟨b, o + i * 2, none⟩) hlt).trans (hc i x hx).1, (hb.cell (p := ⟨b, o + i * 2 + 1, none⟩) hlt).trans (hc i x hx).2⟩⟩
theorem LocsAt.drewN {w : World} {a : Option Addr} {l : List (Int × Int)} (h : LocsAt w a l) (n : Nat) : LocsAt (w.drewN n) a l := h
def lcV (l : List (Int × Int)) : List Value := l.flatMap fun x => [.int .i64 x.1, .int .i64 x.2]
theorem lcV_snoc (l : List (Int × Int)) (x : Int × Int) : lcV (l ++ [x]) = lcV l ++ [.int .i64 x.1, .int .i64 x.2] := by simp [lcV]
theorem lcV_at : ∀ {l : List (Int × Int)} {i : Nat} {x : Int × Int}, l[i]? = some x → (lcV l)[i * 2]? = some (.int .i64 x.1) ∧ (lcV l)[i * 2 + 1]? = some (.int .i64 x.2)
  | [], i, x, h => by simp at h
  | y :: l, 0, x, h => by simp at h; subst h; exact ⟨rfl, rfl⟩
  | y :: l, i + 1, x, h => by
    have := lcV_at (l := l) (i := i) (x := x) (by simpa using h)
    show ([Value.int .i64 y.1, .int .i64 y.2] ++ lcV l)[(i + 1) * 2]? = _ ∧ ([Value.int .i64 y.1, .int .i64 y.2] ++ lcV l)[(i + 1) * 2 + 1]? = _
    rw [show (i + 1) * 2 = i * 2 + 2 by omega]
    exact this
theorem GR.locs {w wr : World} {e : TypeId} {v : Value} {l : List (Int × Int)} (h : GR w wr e 2 v l.length (lcV l)) : ∃ a c, v = .slice a l.length c ∧ l.length ≤ c ∧ LocsAt wr a l := by
  obtain ⟨a, c, e1, hc, _, h0 | ⟨g, rfl, _, hlt, hcell⟩⟩ := h.form
  · exact ⟨a, c, e1, hc, .inl (List.length_eq_zero_iff.1 h0)⟩
  · exact ⟨_, c, e1, hc, .inr ⟨g, 0, rfl, hlt, fun i x hx => ⟨hcell _ _ (lcV_at hx).1, by rw [Nat.add_assoc]; exact hcell _ _ (lcV_at hx).2⟩⟩⟩
end Go.Proofs.YtlpibpkbgmcclaaDoor
