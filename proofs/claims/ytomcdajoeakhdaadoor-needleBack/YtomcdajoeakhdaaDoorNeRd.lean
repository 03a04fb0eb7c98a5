/- What needle.Read answers at every text. -/
import Derived.Test.YtomcdajoeakhdaaDoorNeWrite
import Derived.Laws.ResultCell
import Derived.Deep.RegionHeld3
namespace Go.Proofs.YtomcdajoeakhdaaDoor
open Go.RowKit
set_option linter.unusedVariables false
theorem results_cell2 {fn : Func} {p u v : Tmp} {ty : TypeId} (h : fn.results = #[.cell p ty, .tmp u, .tmp v]) (tmps : Array Value) (P : Program) (w : World) :
    (results fn tmps).run P w = ((asAddr (tmps.getD p undef)).run P w).andThen fun a w₁ => ((loadVar ty a).run P w₁).andThen fun x w₂ => .ok (.tuple #[x, tmps.getD u undef, tmps.getD v undef]) w₂ := by
  simp only [results, h]
  simp [Sem.run_bind, Result.andThen]
theorem nd_info : (Tryd.prog.info? 28).map (·.size) = some 2 := by kernel_rfl
theorem rnd_info : (Tryd.prog.info? 23).map (·.size) = some 2 := by kernel_rfl
theorem res_nd {fn : Func} {p u v : Tmp} (h : fn.results = #[.cell p 28, .tmp u, .tmp v]) (tmps : Array Value) (w : World) (g : Nat) (x : Nd)
    (hp : tmps.getD p undef = .pointer (some ⟨g, 0, none⟩)) (hr : NBx g 28 x w) : (results fn tmps).run Tryd.prog w = .ok (.tuple #[.agg (ncs x), tmps.getD u undef, tmps.getD v undef]) w := by
  rw [results_cell2 h, hp]
  simp [asAddr, run_loadVar_row w g 28 28 (ncs x) (0, 0) _ hr Tryd.underlying28 rfl nd_info]
theorem res_rnd {fn : Func} {p u v : Tmp} (h : fn.results = #[.cell p 23, .tmp u, .tmp v]) (tmps : Array Value) (w : World) (g : Nat) (x : Nd)
    (hp : tmps.getD p undef = .pointer (some ⟨g, 0, none⟩)) (hr : NBx g 23 x w) : (results fn tmps).run Tryd.prog w = .ok (.tuple #[.agg (ncs x), tmps.getD u undef, tmps.getD v undef]) w := by
  rw [results_cell2 h, hp]
  simp [asAddr, run_loadVar_row w g 23 23 (ncs x) (0, 0) _ hr Tryd.underlying23 rfl rnd_info]
/-- both cells written anew -/
def two (w : World) (bx : Nat) (n : Nd) : World := (w.setCell ⟨bx, 0, none⟩ (.string n.k)).setCell ⟨bx, 1, none⟩ (.string n.v)
theorem NBx.two {bx : Nat} {t : TypeId} {n : Nd} {w : World} (k : NBx bx t n w) (n' : Nd) : NBx bx t n' (two w bx n') := block_setCell _ (block_setCell _ k)
theorem below_two {B bx : Nat} {a w : World} (h : Below B a w) (hB : B ≤ bx) (x : Nd) : Below B a (two w bx x) := (h.setCell hB _).setCell hB _
theorem NBx.two_away {bx c : Nat} {t : TypeId} {n : Nd} {w : World} (k : NBx bx t n w) (hne : bx ≠ c) (x : Nd) : NBx bx t n (Go.Proofs.YtomcdajoeakhdaaDoor.two w c x) := (k.away hne _).away hne _
theorem NBx.cells {bx : Nat} {t : TypeId} {n : Nd} {w : World} (k : NBx bx t n w) : (w.cell? ⟨bx, 0, none⟩ = some (.string n.k) ∧ w.cell? ⟨bx, 1, none⟩ = some (.string n.v)) ∧ (w.frozen? ⟨bx, 0, none⟩ = false ∧ w.frozen? ⟨bx, 1, none⟩ = false) := ⟨⟨k.c0, k.c1⟩, k.free 0, k.free 1⟩
theorem tT_size (s : ByteArray) : (tT s).size ≤ s.size := by
  unfold tT
  split
  · rw [ByteArray.size_extract]; have := rR_size s; omega
  · exact Nat.zero_le _
theorem tT_le2 {s : ByteArray} {m : Nat} (h : s.size ≤ m) : (tT (tR s)).size ≤ m := by
  have := tT_size (tR s)
  have := tR_size s
  omega
theorem tT_err {s : ByteArray} (h : tE s ≠ 0) : tT s = ByteArray.empty := by unfold tT; rw [if_neg h]
theorem tR_err {s : ByteArray} (h : tE s ≠ 0) : tR s = ByteArray.empty := by unfold tR; rw [if_neg h]
theorem RdAt.away {w : World} {b c o : Nat} {t : TypeId} {s : ByteArray} {e : Nat} (h : RdAt w b t s e) (hne : b ≠ c) (u : Value) : RdAt (w.setCell ⟨c, o, none⟩ u) b t s e := (Below.heap_setCell _ _ _ _ hne).trans h
end Go.Proofs.YtomcdajoeakhdaaDoor
