/- Rows of strings of one's own; cells of strings told as a list. The words of a line: what the document's Words answers; a kind's word. Digits of sixteen: what request.digit, ofDigits and inDigits answer, and the document's. What request.Print answers, and the document's. (Written by genrqp.py.) -/
import Derived.Test.YtlpibpkbgmcclaaGreatDoorRowX
import Derived.Test.YtlpibpkbgmcclaaGreatDoorRqMathX
import Derived.Handy
import Derived.Test.YtlpibpkbgmcclaaGreatDoorPkRefsX
import Derived.Deep.Cut
import Derived.Test.YtlpibpkbgmcclaaGreatDoorRqCheckX
import Derived.Lib.QuietBelow
namespace Go.Proofs.YtlpibpkbgmcclaaGreatDoor
open Go.RowKit
set_option linter.unusedVariables false
theorem kstr_info : (Tryz.prog.info? 9).map (fun i => (i.zero, i.size, i.bytes)) = some (some (.string ByteArray.empty), 1, 16) := by kernel_rfl
def ksS (l : List ByteArray) : List Value := l.map Value.string
theorem ksS_snoc (l : List ByteArray) (x : ByteArray) : ksS (l ++ [x]) = ksS l ++ [.string x] := by simp [ksS]
theorem ksS_len (l : List ByteArray) : (ksS l).length = l.length := by simp [ksS]
def kIx : Value → Int | .int _ q => q | _ => 0
theorem cell_one_str (w : World) (v : Value) (t : TypeId) : ∀ j u, [v][j]? = some u → (w.alloc (.cells #[v] t)).cell? ((⟨w.heap.size, 0, none⟩ : Addr).add j) = some u := by
  intro j u hj
  rw [add_plain, cell_of_block (heap_alloc_new w (.cells #[v] t)), Nat.zero_add]
  match j, hj with
  | 0, hj => exact hj
theorem own_alloc {w : World} {B z n : Nat} {e : TypeId} {v : Value} {xs : List Value} (h : w.ownsRow B e z v n xs) (o : Obj) : (w.alloc o).ownsRow B e z v n xs := own_below h ((Below.refl _ _).alloc (Nat.le_refl _) o)
theorem GR.strs {w wr : World} {e : TypeId} {v : Value} {l : List ByteArray} (h : GR w wr e 1 v l.length (ksS l)) : ∃ a c, v = .slice a l.length c ∧ l.length ≤ c ∧ c ≤ 9223372036854775807 ∧ StrsAt wr a l := by
  obtain ⟨a, c, e1, hc, hm, h0 | ⟨g, rfl, _, hlt, hcell⟩⟩ := h.form
  · exact ⟨a, c, e1, hc, hm, .inl (List.length_eq_zero_iff.1 h0)⟩
  · exact ⟨_, c, e1, hc, hm, .inr ⟨g, 0, rfl, hlt, fun i s hs => hcell i _ (by unfold ksS; rw [List.getElem?_map, hs]; rfl)⟩⟩
theorem StrsAt.cell {w : World} {a : Option Addr} {l : List ByteArray} (h : StrsAt w a l) {i : Nat} {s : ByteArray} (hs : l[i]? = some s) : ∃ b o, a = some ⟨b, o, none⟩ ∧ b < w.heap.size ∧ w.cell? ⟨b, o + i, none⟩ = some (.string s) := by
  rcases h with h | ⟨b, o, ha, hlt, hc⟩
  · rw [h] at hs; simp at hs
  · exact ⟨b, o, ha, hlt, hc i s hs⟩
/-- what stands behind the first one -/
theorem StrsAt.tail {w : World} {b o : Nat} {x : ByteArray} {l : List ByteArray} (h : StrsAt w (some ⟨b, o, none⟩) (x :: l)) : StrsAt w (some ⟨b, o + 1, none⟩) l := by
  rcases h with h | ⟨b', o', ha, hlt, hc⟩
  · cases h
  · cases ha
    exact .inr ⟨b, o + 1, rfl, hlt, fun i s hs => by
      have := hc (i + 1) s hs
      rw [show o + 1 + i = o + (i + 1) by omega]
      exact this⟩
theorem str_atw (s : ByteArray) {p : Nat} (hp : p < s.size) (w : World) : (Instr.index 9 (.string s) (.int .i64 (p : Int))).run Tryz.prog w = .ok (.int .u8 ((bt s p : Nat) : Int)) w := by
  have hb : (p : Int) < s.size := by omega
  rw [run_index_string (P := Tryz.prog) w 9 s .i64 (p : Int) Tryz.underlying9]
  simp [hp, bt_eq hp]
end Go.Proofs.YtlpibpkbgmcclaaGreatDoor
namespace Go.Proofs.YtlpibpkbgmcclaaGreatDoor
open Go.RowKit
set_option linter.unusedVariables false
/-- how far Words is: L is what it has so far, the word under way began at a, i bytes are behind -/
structure WR (s : ByteArray) (w : World) (L : List ByteArray) (v : Value) (a i : Nat) (wr : World) : Prop where
  row : GR w wr 9 1 v L.length (ksS L)
  le : a ≤ i
  now : (i ≤ s.size ∧ wds s = L ++ wdF s (s.size - i) a i) ∨ (i = s.size + 1 ∧ wds s = L)
  len : L.length ≤ i
theorem WR.skip {s : ByteArray} {w wr : World} {L : List ByteArray} {v : Value} {a i : Nat} (h : WR s w L v a i wr) (hi : i < s.size) (hb : bt s i ≠ 32) : WR s w L v a (i + 1) wr := by
  refine ⟨h.row, by have := h.le; omega, .inl ⟨by omega, ?_⟩, by have := h.len; omega⟩
  rcases h.now with ⟨_, q⟩ | ⟨q, _⟩
  · rw [q, show s.size - i = (s.size - (i + 1)) + 1 by omega]
    conv => lhs; unfold wdF
    rw [if_neg hb]
  · omega
theorem WR.push {s : ByteArray} {w wr w1 : World} {L : List ByteArray} {v v' : Value} {a i : Nat} {o : Obj} (h : WR s w L v a i wr) (hi : i ≤ s.size) (hb : i = s.size ∨ bt s i = 32) (hown : w1.ownsRow w.heap.size 9 1 v' (L.length + 1) (ksS L ++ [.string (s.extract a i)])) (hgr : (wr.alloc o).grownBy w1 v.ownBlock) : WR s w (L ++ [s.extract a i]) v' (i + 1) (i + 1) w1 := by
  have hg := h.row.step hown hgr
  rw [← ksS_snoc] at hg
  refine ⟨by rw [List.length_append]; exact hg, Nat.le_refl _, ?_, by rw [List.length_append]; have := h.len; simp; omega⟩
  rcases h.now with ⟨_, q⟩ | ⟨q, _⟩
  · by_cases e : i = s.size
    · subst e
      refine .inr ⟨rfl, ?_⟩
      rw [q, Nat.sub_self]
      rfl
    · refine .inl ⟨by omega, ?_⟩
      rw [q, show s.size - i = (s.size - (i + 1)) + 1 by omega]
      conv => lhs; unfold wdF
      rw [if_pos (by rcases hb with z | z; exact absurd z e; exact z), List.append_assoc]
      rfl
  · omega
/-- the words of kinds lie in a slice of their own -/
def wordCs : Array Value := #[.string putS, .string getS, .string delS, .string statS, .string listS]
end Go.Proofs.YtlpibpkbgmcclaaGreatDoor
namespace Go.Proofs.YtlpibpkbgmcclaaGreatDoor
open Go.RowKit
set_option linter.unusedVariables false
instance (c : Nat) : Decidable (isD c) := by unfold isD; exact inferInstance
def dgV (c : Nat) : Value := if isD c then .tuple #[.int .u8 ((dv c : Nat) : Int), .bool true] else .tuple #[.int .u8 0, .bool false]
theorem ret_val {a b : Value} (h : a = b) : Ending.returned a = .returned b := by rw [h]
def rdI (c : Nat) : Int := if isD c then ((dv c : Nat) : Int) else -1
theorem drewN_below (w : World) (n : Nat) : Below w.heap.size w (w.drewN n) := ⟨rfl, rfl, rfl, Nat.le_refl _, fun _ _ => rfl⟩
end Go.Proofs.YtlpibpkbgmcclaaGreatDoor
namespace Go.Proofs.YtlpibpkbgmcclaaGreatDoor
open Go.RowKit
set_option linter.unusedVariables false
theorem wordS_size (d : Int) : (wordS d).size ≤ 4 := by
  unfold wordS
  split
  · decide
  split
  · decide
  split
  · decide
  split <;> decide
theorem dgS_size (s : ByteArray) : (dgS s).size ≤ 2 * s.size + 1 := by
  unfold dgS
  split
  · rw [dash_size]; omega
  · rw [hexS_size]; omega
theorem lineS_put {k v : ByteArray} : lineS ⟨0, k, v⟩ = putS ++ blank ++ k ++ blank ++ dgS v := by unfold lineS; rw [if_pos rfl]
theorem lineS_one {d : Int} {k v : ByteArray} (hd : d ≠ 0) (hk : k.size = 0) : lineS ⟨d, k, v⟩ = wordS d := by unfold lineS; rw [if_neg hd, if_pos hk]
theorem lineS_twov {d : Int} {k v : ByteArray} (hd : d ≠ 0) (hk : k.size ≠ 0) : lineS ⟨d, k, v⟩ = wordS d ++ blank ++ k := by unfold lineS; rw [if_neg hd, if_neg hk]
/-- a request in a block of its own -/
def RqB (b : Nat) (r : Rq) (w : World) : Prop := w.heap[b]? = some (.cells (rqs r) 32 (0, 0))
theorem RqB.c0 {b : Nat} {r : Rq} {w : World} (h : RqB b r w) : w.cell? ⟨b, 0, none⟩ = some (.int .i64 r.d) := cell_of_block h
theorem RqB.c1 {b : Nat} {r : Rq} {w : World} (h : RqB b r w) : w.cell? ⟨b, 1, none⟩ = some (.string r.k) := cell_of_block h
theorem RqB.c2 {b : Nat} {r : Rq} {w : World} (h : RqB b r w) : w.cell? ⟨b, 2, none⟩ = some (.string r.v) := cell_of_block h
theorem RqB.lt {b : Nat} {r : Rq} {w : World} (h : RqB b r w) : b < w.heap.size := lt_of_block h
theorem RqB.below {b : Nat} {r : Rq} {w w' : World} (h : RqB b r w) (hb : Below w.heap.size w w') : RqB b r w' := (hb.block b h.lt).trans h
theorem rqB_new (r : Rq) (w : World) : RqB w.heap.size r (w.alloc (.cells (rqs r) 32)) := heap_alloc_new _ _
end Go.Proofs.YtlpibpkbgmcclaaGreatDoor
