/- A model in memory: a map behind a struct. -/
import Derived.Test.YtlpibpkbgmcclaaDoorMdMath
import Derived.Test.YtlpibpkbgmcclaaDoorMdKd
import Derived.Test.YtlpibpkbgmcclaaDoorMpMap
import Derived.Test.YtlpibpkbgmcclaaDoorBaseX
import Derived.Laws.ResultCell
namespace Go.Proofs.YtlpibpkbgmcclaaDoor
open Go.RowKit
set_option linter.unusedVariables false
abbrev okS (s : ByteArray) : Prop := s.size ≤ Go.maxLen
def hdV (h : Hd) : Value := .agg #[.string h.v, .bool h.g]
/-- all that was there but block b is as it was -/
structure Bm (b : Nat) (w w' : World) : Prop where
  os : w'.os = w.os
  tape : w'.tape = w.tape
  output : w'.output = w.output
  size : w.heap.size ≤ w'.heap.size
  blk : ∀ i, i < w.heap.size → i ≠ b → w'.heap[i]? = w.heap[i]?
theorem Bm.refl (b : Nat) (w : World) : Bm b w w := ⟨rfl, rfl, rfl, Nat.le_refl _, fun _ _ _ => rfl⟩
theorem Bm.of_below {b : Nat} {w w' : World} (h : Below w.heap.size w w') : Bm b w w' := ⟨h.os, h.tape, h.output, h.size, fun i hi _ => h.block i hi⟩
theorem Bm.trans {b : Nat} {w1 w2 w3 : World} (h : Bm b w1 w2) (h2 : Bm b w2 w3) : Bm b w1 w3 := ⟨h2.os.trans h.os, h2.tape.trans h.tape, h2.output.trans h.output, Nat.le_trans h.size h2.size, fun i hi hn => (h2.blk i (by have := h.size; omega) hn).trans (h.blk i hi hn)⟩
theorem Bm.below {b B : Nat} {w0 w w' : World} (h : Bm b w w') (h0 : Below B w0 w) (hb : B ≤ b) (hB : B ≤ w.heap.size) : Below B w0 w' :=
  h0.trans ⟨h.os, h.tape, h.output, h.size, fun i hi => h.blk i (by omega) (by omega)⟩
theorem Bm.keep {b i : Nat} {w w' : World} (h : Bm b w w') {o : Obj} (ho : w.heap[i]? = some o) (hn : i ≠ b) : w'.heap[i]? = some o := by
  rcases Nat.lt_or_ge i w.heap.size with q | q
  · exact (h.blk i q hn).trans ho
  · rw [Array.getElem?_eq_none q] at ho; cases ho
/-- a model: its struct is block x, its map block b -/
structure MdAt (w : World) (x b n : Nat) (T : MT) : Prop where
  box : w.heap[x]? = some (.cells #[.map (some b)] 43 (0, 0))
  m : MAt w 9 b n lStr okS (fun k => (T k).map hdV)
  ok : T.Ok
theorem mat_blk {w : World} {k : TypeId} {b n : Nat} {α : Type} {kf : α → Lit} {ok : α → Prop} {f : α → Option Value} (h : MAt w k b n kf ok f) : ∃ es cl, w.heap[b]? = some (.map es cl) := by obtain ⟨D, ⟨es, cl, hb, _⟩, _⟩ := h; exact ⟨es, cl, hb⟩
section
variable {w w' : World} {x b n : Nat} {T : MT}
theorem MdAt.ne (h : MdAt w x b n T) : x ≠ b := fun e => by
  obtain ⟨es, cl, hm⟩ := mat_blk h.m
  rw [← e, h.box] at hm; cases hm
theorem MdAt.c0 (h : MdAt w x b n T) : w.cell? ⟨x, 0, none⟩ = some (.map (some b)) := cell_of_block h.box
theorem MdAt.xlt (h : MdAt w x b n T) : x < w.heap.size := lt_of_block h.box
theorem MdAt.blt (h : MdAt w x b n T) : b < w.heap.size := h.m.lt
theorem MdAt.below (h : MdAt w x b n T) (hb : Below w.heap.size w w') : MdAt w' x b n T := ⟨(hb.block _ h.xlt).trans h.box, h.m.below hb, h.ok⟩
theorem MdAt.bm {c : Nat} (h : MdAt w x b n T) (hb : Bm c w w') (h1 : x ≠ c) (h2 : b ≠ c) : MdAt w' x b n T := ⟨(hb.blk _ h.xlt h1).trans h.box, h.m.keep (hb.blk _ h.blt h2), h.ok⟩
theorem MdAt.mono (h : MdAt w x b n T) {m : Nat} (hm : n ≤ m) : MdAt w x b m T := ⟨h.box, h.m.mono hm, h.ok⟩
theorem turn_bm (ht : w.mapTurned w' b) : Bm b w w' := by
  have hg := ht.grown
  exact ⟨hg.os, hg.tape, hg.output, hg.size, fun i hi hn => hg.block i hi (by simpa using hn)⟩
/-- a key has something else -/
theorem MdAt.turned (h : MdAt w x b n T) {k : ByteArray} {y : Hd} (hk : keyOk k) (hv : y.v.size ≤ 400) (ht : w.mapTurned w' b) (hm : MAt w' 9 b (n + 1) lStr okS (mset (fun k => (T k).map hdV) k (some (hdV y)))) : MdAt w' x b (n + 1) (T.set k y) ∧ Bm b w w' := by
  have hB := turn_bm ht
  refine ⟨⟨(hB.blk _ h.xlt h.ne).trans h.box, hm.congr fun q hq => ?_, ok_set h.ok hk hv⟩, hB⟩
  unfold mset MT.set
  by_cases e : q = k
  · rw [if_pos e, if_pos e]; rfl
  · rw [if_neg e, if_neg e]
end
theorem hd_zero (w : World) : (zeroValue 56).run Tryd.prog w = .ok (.agg #[.string ByteArray.empty, .bool false]) w := by kernel_rfl
def hd0 : Hd := ⟨ByteArray.empty, false⟩
theorem hd_get (o : Option Hd) : (o.map hdV).getD (.agg #[.string ByteArray.empty, .bool false]) = hdV (o.getD hd0) := by cases o <;> rfl
theorem hd_some (o : Option Hd) : (o.map hdV).isSome = o.isSome := by cases o <;> rfl
theorem hd_info : (Tryd.prog.info? 56).map (·.size) = some 2 := by kernel_rfl
theorem hd_one (v : ByteArray) (g : Bool) : (#[Value.string v, .bool g] : Array Value).all (·.oneCell') = true := by simp [Value.oneCell']
/-- 'm[k]: x' of a map that is written out -/
theorem wp_mins {w : World} {k : TypeId} {b n : Nat} {α : Type} {kv : α → Value} {kf : α → Lit} {ok : α → Prop} {f : α → Option Value} {ops : Array Oper} {rest : List Oper} {o : Oper} {ac : Act} {Q : Exit → Act → World → Prop} [DecidableEq α] (hg : o.guard = none) (m x v : Operand) (t : TypeId) (hop : o.op = Op.insert t m x v) (e : TypeId) (K : KE k kv kf ok) (ht : Tryd.prog.underlying t = some (.map k e)) (hn : n < maxLen)
    (a : α) (ha : ok a) (val : Value) (hm : ac.eval m = .map (some b)) (h : MAt w k b n kf ok f) (hx : ac.eval x = kv a) (hv' : ac.eval v = val)
    (hK : ∀ w', MAt w' k b (n + 1) kf ok (mset f a (some val)) → w.mapTurned w' b → wpList Tryd.prog ops Q rest (ac.put o.dst undef) w') : wpList Tryd.prog ops Q (o :: rest) ac w := by
  refine wpList_plain hg fun K' hK' => ?_
  obtain ⟨w', hrun, r1, r2⟩ := h.put K ht hn ha val
  unfold Oper.wp
  simp [execOp, hop, hm, hx, hv', hrun, Result.andThen]
  exact hK' _ _ (hK w' r1 r2)
/-- the fields of an answer: its Code, its Value, its Keys -/
theorem rs_info : (Tryd.prog.info? 32).map (·.size) = some 3 := by kernel_rfl
def rsC (c : Int) (v : ByteArray) (a : Option Addr) (n p : Nat) : Array Value := #[.int .i64 c, .string v, .slice a n p]
theorem rs_one (c : Int) (v : ByteArray) (a : Option Addr) (n p : Nat) : (#[Value.int .i64 c, .string v, .slice a n p] : Array Value).all (·.oneCell') = true := by simp [Value.oneCell']
/-- an answer in a block of its own -/
def RsB (g : Nat) (c : Int) (v : ByteArray) (a : Option Addr) (n p : Nat) (w : World) : Prop := w.heap[g]? = some (.cells (rsC c v a n p) 32 (0, 0))
theorem res_rs {fn : Func} {p : Tmp} (h : fn.results = #[.cell p 32]) (tmps : Array Value) (w : World) (g : Nat) (c : Int) (v : ByteArray) (a : Option Addr) (n q : Nat)
    (hp : tmps.getD p undef = .pointer (some ⟨g, 0, none⟩)) (hr : RsB g c v a n q w) : (results fn tmps).run Tryd.prog w = .ok (.agg (rsC c v a n q)) w :=
  results_cell_row h tmps w g 32 (rsC c v a n q) (0, 0) _ hp hr Tryd.underlying32 rfl rs_info
theorem rsB_row {g : Nat} {c c' : Int} {v v' : ByteArray} {a a' : Option Addr} {n p n' p' : Nat} {w : World} (h : RsB g c v a n p w) : RsB g c' v' a' n' p' (w.setRow g (rsC c' v' a' n' p')) := setRow_heap _ _ _ _ _ _ h
end Go.Proofs.YtlpibpkbgmcclaaDoor
