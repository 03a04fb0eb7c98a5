/- Rows of strings of one's own; cells of strings told as a list. -/
import Derived.Test.YtgcjcojmhfkbjaaDoorRow
namespace Go.Proofs.YtgcjcojmhfkbjaaDoor
open Go.RowKit
set_option linter.unusedVariables false
theorem kstr_info : (Tryd.prog.info? 9).map (fun i => (i.zero, i.size, i.bytes)) = some (some (.string ByteArray.empty), 1, 16) := by kernel_rfl
def ksS (l : List ByteArray) : List Value := l.map Value.string
theorem ksS_snoc (l : List ByteArray) (x : ByteArray) : ksS (l ++ [x]) = ksS l ++ [.string x] := by simp [ksS]
theorem ksS_len (l : List ByteArray) : (ksS l).length = l.length := by simp [ksS]
def kIx : Value → Int | .int _ q => q | _ => 0
theorem cell_one_str (w : World) (v : Value) (t : TypeId) : ∀ j u, [v][j]? = some u → (w.alloc (.cells #[v] t)).cell? ((⟨w.heap.size, 0, none⟩ : Addr).add j) = some u := by
  intro j u hj
  rw [add_plain, cell_of_block (heap_alloc_new w (.cells #[v] t)), Nat.zero_add]
  match j, hj with
  | 0, hj => exact hj
theorem own_alloc {w : World} {B z n : Nat} {e : TypeId} {v : Value} {xs : List Value} (h : w.ownsRow B e z v n xs) (o : Obj) : (w.alloc o).ownsRow B e z v n xs := own_below h ((Below.refl _ _).alloc (Nat.le_refl _) o)
theorem GR.strs {w wr : World} {e : TypeId} {v : Value} {l : List ByteArray} (h : GR w wr e 1 v l.length (ksS l)) : ∃ a c, v = .slice a l.length c ∧ l.length ≤ c ∧ c ≤ 9223372036854775807 ∧ StrsAt wr a l := by
  obtain ⟨a, c, e1, hc, hm, h0 | ⟨g, rfl, _, hlt, hcell⟩⟩ := h.form
  · exact ⟨a, c, e1, hc, hm, .inl (List.length_eq_zero_iff.1 h0)⟩
  · exact ⟨_, c, e1, hc, hm, .inr ⟨g, 0, rfl, hlt, fun i s hs => hcell i _ (by unfold ksS; rw [List.getElem?_map, hs]; rfl)⟩⟩
theorem StrsAt.cell {w : World} {a : Option Addr} {l : List ByteArray} (h : StrsAt w a l) {i : Nat} {s : ByteArray} (hs : l[i]? = some s) : ∃ b o, a = some ⟨b, o, none⟩ ∧ b < w.heap.size ∧ w.cell? ⟨b, o + i, none⟩ = some (.string s) := by
  rcases h with h | ⟨b, o, ha, hlt, hc⟩
  · rw [h] at hs; simp at hs
  · exact ⟨b, o, ha, hlt, hc i s hs⟩
/-- what stands behind the first one -/
theorem StrsAt.tail {w : World} {b o : Nat} {x : ByteArray} {l : List ByteArray} (h : StrsAt w (some ⟨b, o, none⟩) (x :: l)) : StrsAt w (some ⟨b, o + 1, none⟩) l := by
  rcases h with h | ⟨b', o', ha, hlt, hc⟩
  · cases h
  · cases ha
    exact .inr ⟨b, o + 1, rfl, hlt, fun i s hs => by
      have := hc (i + 1) s hs
      rw [show o + 1 + i = o + (i + 1) by omega]
      exact this⟩
theorem str_atw (s : ByteArray) {p : Nat} (hp : p < s.size) (w : World) : (Instr.index 9 (.string s) (.int .i64 (p : Int))).run Tryd.prog w = .ok (.int .u8 ((bt s p : Nat) : Int)) w := by
  have hb : (p : Int) < s.size := by omega
  rw [run_index_string (P := Tryd.prog) w 9 s .i64 (p : Int) Tryd.underlying9]
  simp [hp, bt_eq hp]
end Go.Proofs.YtgcjcojmhfkbjaaDoor
