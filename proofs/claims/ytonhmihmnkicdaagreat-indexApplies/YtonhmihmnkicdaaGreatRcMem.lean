/- Records in memory: fourteen cells, one of them the slice of places. -/
import Derived.Test.YtonhmihmnkicdaaGreatRcMath
import Derived.Test.YtonhmihmnkicdaaGreatPnVol
import Derived.Handy
import Derived.Laws.ResultCell
namespace Go.Proofs.YtonhmihmnkicdaaGreat
open Go.RowKit
set_option linter.unusedVariables false
theorem LocsAt.nth {w : World} {a : Option Addr} {l : List (Int × Int)} (h : LocsAt w a l) {k : Nat} {x : Int × Int} (hx : l[k]? = some x) : ∃ b o, a = some ⟨b, o, none⟩ ∧ b < w.heap.size ∧ w.cell? ⟨b, o + k * 2, none⟩ = some (.int .i64 x.1) ∧ w.cell? ⟨b, o + k * 2 + 1, none⟩ = some (.int .i64 x.2) := by
  rcases h with h | ⟨b, o, ha, hlt, hc⟩
  · rw [h] at hx; simp at hx
  · exact ⟨b, o, ha, hlt, (hc k x hx).1, (hc k x hx).2⟩
theorem LocsAt.nil (w : World) (a : Option Addr) : LocsAt w a [] := .inl rfl
def rcs (r : Rc) (a : Option Addr) (c : Nat) : Array Value := #[.int .i64 r.seq, .int .i64 r.kind, .int .i64 r.vid, .int .i64 r.vgen, .int .i64 r.vlen, .slice a r.ls.length c, .string r.ek, .int .i64 r.ev, .int .i64 r.eo, .int .i64 r.el, .string r.ed, .string r.k, .int .i64 r.f, .int .i64 r.t]
def vlc (i g n : Int) (a : Option Addr) (l c : Nat) : Array Value := #[.int .i64 i, .int .i64 g, .int .i64 n, .slice a l c]
/-- a record in a block of its own -/
def RBx (bx : Nat) (t : TypeId) (r : Rc) (a : Option Addr) (c : Nat) (w : World) : Prop := w.heap[bx]? = some (.cells (rcs r a c) t (0, 0))
theorem RBx.c0 {bx : Nat} {t : TypeId} {r : Rc} {a : Option Addr} {c : Nat} {w : World} (k : RBx bx t r a c w) : w.cell? ⟨bx, 0, none⟩ = some (.int .i64 r.seq) := cell_of_block k
theorem RBx.c1 {bx : Nat} {t : TypeId} {r : Rc} {a : Option Addr} {c : Nat} {w : World} (k : RBx bx t r a c w) : w.cell? ⟨bx, 1, none⟩ = some (.int .i64 r.kind) := cell_of_block k
theorem RBx.c2 {bx : Nat} {t : TypeId} {r : Rc} {a : Option Addr} {c : Nat} {w : World} (k : RBx bx t r a c w) : w.cell? ⟨bx, 2, none⟩ = some (.int .i64 r.vid) := cell_of_block k
theorem RBx.c3 {bx : Nat} {t : TypeId} {r : Rc} {a : Option Addr} {c : Nat} {w : World} (k : RBx bx t r a c w) : w.cell? ⟨bx, 3, none⟩ = some (.int .i64 r.vgen) := cell_of_block k
theorem RBx.c4 {bx : Nat} {t : TypeId} {r : Rc} {a : Option Addr} {c : Nat} {w : World} (k : RBx bx t r a c w) : w.cell? ⟨bx, 4, none⟩ = some (.int .i64 r.vlen) := cell_of_block k
theorem RBx.c5 {bx : Nat} {t : TypeId} {r : Rc} {a : Option Addr} {c : Nat} {w : World} (k : RBx bx t r a c w) : w.cell? ⟨bx, 5, none⟩ = some (.slice a r.ls.length c) := cell_of_block k
theorem RBx.c6 {bx : Nat} {t : TypeId} {r : Rc} {a : Option Addr} {c : Nat} {w : World} (k : RBx bx t r a c w) : w.cell? ⟨bx, 6, none⟩ = some (.string r.ek) := cell_of_block k
theorem RBx.c7 {bx : Nat} {t : TypeId} {r : Rc} {a : Option Addr} {c : Nat} {w : World} (k : RBx bx t r a c w) : w.cell? ⟨bx, 7, none⟩ = some (.int .i64 r.ev) := cell_of_block k
theorem RBx.c8 {bx : Nat} {t : TypeId} {r : Rc} {a : Option Addr} {c : Nat} {w : World} (k : RBx bx t r a c w) : w.cell? ⟨bx, 8, none⟩ = some (.int .i64 r.eo) := cell_of_block k
theorem RBx.c9 {bx : Nat} {t : TypeId} {r : Rc} {a : Option Addr} {c : Nat} {w : World} (k : RBx bx t r a c w) : w.cell? ⟨bx, 9, none⟩ = some (.int .i64 r.el) := cell_of_block k
theorem RBx.c10 {bx : Nat} {t : TypeId} {r : Rc} {a : Option Addr} {c : Nat} {w : World} (k : RBx bx t r a c w) : w.cell? ⟨bx, 10, none⟩ = some (.string r.ed) := cell_of_block k
theorem RBx.c11 {bx : Nat} {t : TypeId} {r : Rc} {a : Option Addr} {c : Nat} {w : World} (k : RBx bx t r a c w) : w.cell? ⟨bx, 11, none⟩ = some (.string r.k) := cell_of_block k
theorem RBx.c12 {bx : Nat} {t : TypeId} {r : Rc} {a : Option Addr} {c : Nat} {w : World} (k : RBx bx t r a c w) : w.cell? ⟨bx, 12, none⟩ = some (.int .i64 r.f) := cell_of_block k
theorem RBx.c13 {bx : Nat} {t : TypeId} {r : Rc} {a : Option Addr} {c : Nat} {w : World} (k : RBx bx t r a c w) : w.cell? ⟨bx, 13, none⟩ = some (.int .i64 r.t) := cell_of_block k
theorem RBx.free {bx : Nat} {t : TypeId} {r : Rc} {a : Option Addr} {c : Nat} {w : World} (k : RBx bx t r a c w) (p : Nat) : w.frozen? ⟨bx, p, none⟩ = false := free_of_block k
theorem RBx.lt {bx : Nat} {t : TypeId} {r : Rc} {a : Option Addr} {c : Nat} {w : World} (k : RBx bx t r a c w) : bx < w.heap.size := lt_of_block k
theorem RBx.below {bx : Nat} {t : TypeId} {r : Rc} {a : Option Addr} {c : Nat} {w : World} (k : RBx bx t r a c w) {w' : World} {B : Nat} (hb : Below B w w') (hB : bx < B) : RBx bx t r a c w' := (hb.block bx hB).trans k
theorem RBx.but {bx : Nat} {t : TypeId} {r : Rc} {a : Option Addr} {c : Nat} {w : World} (k : RBx bx t r a c w) {w' : World} {b : Nat} (hb : But b w w') (hne : bx ≠ b) : RBx bx t r a c w' := (hb.block bx hne).trans k
theorem RBx.away {bx : Nat} {t : TypeId} {r : Rc} {a : Option Addr} {c : Nat} {w : World} (k : RBx bx t r a c w) {b o : Nat} (hne : bx ≠ b) (u : Value) : RBx bx t r a c (w.setCell ⟨b, o, none⟩ u) := (Below.heap_setCell _ _ _ _ hne).trans k
theorem rbx_new (t : TypeId) (r : Rc) (a : Option Addr) (c : Nat) (w : World) : RBx w.heap.size t r a c (w.alloc (.cells (rcs r a c) t)) := heap_alloc_new _ _
theorem RBx.cells {bx : Nat} {t : TypeId} {r : Rc} {a : Option Addr} {c : Nat} {w : World} (k : RBx bx t r a c w) : w.cell? ⟨bx, 0, none⟩ = some (.int .i64 r.seq) ∧ w.cell? ⟨bx, 1, none⟩ = some (.int .i64 r.kind) ∧ w.cell? ⟨bx, 2, none⟩ = some (.int .i64 r.vid) ∧ w.cell? ⟨bx, 3, none⟩ = some (.int .i64 r.vgen) ∧ w.cell? ⟨bx, 4, none⟩ = some (.int .i64 r.vlen) ∧ w.cell? ⟨bx, 5, none⟩ = some (.slice a r.ls.length c) ∧ w.cell? ⟨bx, 6, none⟩ = some (.string r.ek) ∧ w.cell? ⟨bx, 7, none⟩ = some (.int .i64 r.ev) ∧ w.cell? ⟨bx, 8, none⟩ = some (.int .i64 r.eo) ∧ w.cell? ⟨bx, 9, none⟩ = some (.int .i64 r.el) ∧ w.cell? ⟨bx, 10, none⟩ = some (.string r.ed) ∧ w.cell? ⟨bx, 11, none⟩ = some (.string r.k) ∧ w.cell? ⟨bx, 12, none⟩ = some (.int .i64 r.f) ∧ w.cell? ⟨bx, 13, none⟩ = some (.int .i64 r.t) :=
  ⟨k.c0, k.c1, k.c2, k.c3, k.c4, k.c5, k.c6, k.c7, k.c8, k.c9, k.c10, k.c11, k.c12, k.c13⟩
theorem RBx.frees {bx : Nat} {t : TypeId} {r : Rc} {a : Option Addr} {c : Nat} {w : World} (k : RBx bx t r a c w) : w.frozen? ⟨bx, 0, none⟩ = false ∧ w.frozen? ⟨bx, 1, none⟩ = false ∧ w.frozen? ⟨bx, 2, none⟩ = false ∧ w.frozen? ⟨bx, 3, none⟩ = false ∧ w.frozen? ⟨bx, 4, none⟩ = false ∧ w.frozen? ⟨bx, 5, none⟩ = false ∧ w.frozen? ⟨bx, 6, none⟩ = false ∧ w.frozen? ⟨bx, 7, none⟩ = false ∧ w.frozen? ⟨bx, 8, none⟩ = false ∧ w.frozen? ⟨bx, 9, none⟩ = false ∧ w.frozen? ⟨bx, 10, none⟩ = false ∧ w.frozen? ⟨bx, 11, none⟩ = false ∧ w.frozen? ⟨bx, 12, none⟩ = false ∧ w.frozen? ⟨bx, 13, none⟩ = false :=
  ⟨k.free 0, k.free 1, k.free 2, k.free 3, k.free 4, k.free 5, k.free 6, k.free 7, k.free 8, k.free 9, k.free 10, k.free 11, k.free 12, k.free 13⟩
theorem RBx.s0 {bx : Nat} {t : TypeId} {r : Rc} {a : Option Addr} {c : Nat} {w : World} (k : RBx bx t r a c w) (x : Int) : RBx bx t { r with seq := x } a c (w.setCell ⟨bx, 0, none⟩ (.int .i64 x)) := block_setCell _ k
theorem RBx.s1 {bx : Nat} {t : TypeId} {r : Rc} {a : Option Addr} {c : Nat} {w : World} (k : RBx bx t r a c w) (x : Int) : RBx bx t { r with kind := x } a c (w.setCell ⟨bx, 1, none⟩ (.int .i64 x)) := block_setCell _ k
theorem RBx.s2 {bx : Nat} {t : TypeId} {r : Rc} {a : Option Addr} {c : Nat} {w : World} (k : RBx bx t r a c w) (x : Int) : RBx bx t { r with vid := x } a c (w.setCell ⟨bx, 2, none⟩ (.int .i64 x)) := block_setCell _ k
theorem RBx.s3 {bx : Nat} {t : TypeId} {r : Rc} {a : Option Addr} {c : Nat} {w : World} (k : RBx bx t r a c w) (x : Int) : RBx bx t { r with vgen := x } a c (w.setCell ⟨bx, 3, none⟩ (.int .i64 x)) := block_setCell _ k
theorem RBx.s4 {bx : Nat} {t : TypeId} {r : Rc} {a : Option Addr} {c : Nat} {w : World} (k : RBx bx t r a c w) (x : Int) : RBx bx t { r with vlen := x } a c (w.setCell ⟨bx, 4, none⟩ (.int .i64 x)) := block_setCell _ k
theorem RBx.s5 {bx : Nat} {t : TypeId} {r : Rc} {a : Option Addr} {c : Nat} {w : World} (k : RBx bx t r a c w) (a2 : Option Addr) (l : List (Int × Int)) (c2 : Nat) : RBx bx t { r with ls := l } a2 c2 (w.setCell ⟨bx, 5, none⟩ (.slice a2 l.length c2)) := block_setCell _ k
theorem RBx.s6 {bx : Nat} {t : TypeId} {r : Rc} {a : Option Addr} {c : Nat} {w : World} (k : RBx bx t r a c w) (x : ByteArray) : RBx bx t { r with ek := x } a c (w.setCell ⟨bx, 6, none⟩ (.string x)) := block_setCell _ k
theorem RBx.s7 {bx : Nat} {t : TypeId} {r : Rc} {a : Option Addr} {c : Nat} {w : World} (k : RBx bx t r a c w) (x : Int) : RBx bx t { r with ev := x } a c (w.setCell ⟨bx, 7, none⟩ (.int .i64 x)) := block_setCell _ k
theorem RBx.s8 {bx : Nat} {t : TypeId} {r : Rc} {a : Option Addr} {c : Nat} {w : World} (k : RBx bx t r a c w) (x : Int) : RBx bx t { r with eo := x } a c (w.setCell ⟨bx, 8, none⟩ (.int .i64 x)) := block_setCell _ k
theorem RBx.s9 {bx : Nat} {t : TypeId} {r : Rc} {a : Option Addr} {c : Nat} {w : World} (k : RBx bx t r a c w) (x : Int) : RBx bx t { r with el := x } a c (w.setCell ⟨bx, 9, none⟩ (.int .i64 x)) := block_setCell _ k
theorem RBx.s10 {bx : Nat} {t : TypeId} {r : Rc} {a : Option Addr} {c : Nat} {w : World} (k : RBx bx t r a c w) (x : ByteArray) : RBx bx t { r with ed := x } a c (w.setCell ⟨bx, 10, none⟩ (.string x)) := block_setCell _ k
theorem RBx.s11 {bx : Nat} {t : TypeId} {r : Rc} {a : Option Addr} {c : Nat} {w : World} (k : RBx bx t r a c w) (x : ByteArray) : RBx bx t { r with k := x } a c (w.setCell ⟨bx, 11, none⟩ (.string x)) := block_setCell _ k
theorem RBx.s12 {bx : Nat} {t : TypeId} {r : Rc} {a : Option Addr} {c : Nat} {w : World} (k : RBx bx t r a c w) (x : Int) : RBx bx t { r with f := x } a c (w.setCell ⟨bx, 12, none⟩ (.int .i64 x)) := block_setCell _ k
theorem RBx.s13 {bx : Nat} {t : TypeId} {r : Rc} {a : Option Addr} {c : Nat} {w : World} (k : RBx bx t r a c w) (x : Int) : RBx bx t { r with t := x } a c (w.setCell ⟨bx, 13, none⟩ (.int .i64 x)) := block_setCell _ k
theorem rcs_size (r : Rc) (a : Option Addr) (c : Nat) : (rcs r a c).size = 14 := rfl
theorem rec_info : (Tryz.prog.info? 43).map (·.size) = some 14 := by kernel_rfl
theorem ref_info : (Tryz.prog.info? 40).map (·.size) = some 14 := by kernel_rfl
theorem res_rec {fn : Func} {p : Tmp} (h : fn.results = #[.cell p 43]) (tmps : Array Value) (w : World) (g : Nat) (x : Rc) (a : Option Addr) (c : Nat)
    (hp : tmps.getD p undef = .pointer (some ⟨g, 0, none⟩)) (hr : RBx g 43 x a c w) : (results fn tmps).run Tryz.prog w = .ok (.agg (rcs x a c)) w :=
  results_cell_row h tmps w g 43 (rcs x a c) (0, 0) _ hp hr Tryz.underlying43 rfl rec_info
theorem res_rec_tmp {fn : Func} {p u : Tmp} (h : fn.results = #[.cell p 43, .tmp u]) (tmps : Array Value) (w : World) (g : Nat) (x : Rc) (a : Option Addr) (c : Nat)
    (hp : tmps.getD p undef = .pointer (some ⟨g, 0, none⟩)) (hr : RBx g 43 x a c w) : (results fn tmps).run Tryz.prog w = .ok (.tuple #[.agg (rcs x a c), tmps.getD u undef]) w := by
  rw [results_cell_tmp h, hp]
  simp [asAddr, run_loadVar_row w g 43 43 (rcs x a c) (0, 0) _ hr Tryz.underlying43 rfl rec_info]
theorem res_ref {fn : Func} {p : Tmp} (h : fn.results = #[.cell p 40]) (tmps : Array Value) (w : World) (g : Nat) (x : Rc) (a : Option Addr) (c : Nat)
    (hp : tmps.getD p undef = .pointer (some ⟨g, 0, none⟩)) (hr : RBx g 40 x a c w) : (results fn tmps).run Tryz.prog w = .ok (.agg (rcs x a c)) w :=
  results_cell_row h tmps w g 40 (rcs x a c) (0, 0) _ hp hr Tryz.underlying40 rfl ref_info
theorem res_ref_tmp {fn : Func} {p u : Tmp} (h : fn.results = #[.cell p 40, .tmp u]) (tmps : Array Value) (w : World) (g : Nat) (x : Rc) (a : Option Addr) (c : Nat)
    (hp : tmps.getD p undef = .pointer (some ⟨g, 0, none⟩)) (hr : RBx g 40 x a c w) : (results fn tmps).run Tryz.prog w = .ok (.tuple #[.agg (rcs x a c), tmps.getD u undef]) w := by
  rw [results_cell_tmp h, hp]
  simp [asAddr, run_loadVar_row w g 40 40 (rcs x a c) (0, 0) _ hr Tryz.underlying40 rfl ref_info]
end Go.Proofs.YtonhmihmnkicdaaGreat
