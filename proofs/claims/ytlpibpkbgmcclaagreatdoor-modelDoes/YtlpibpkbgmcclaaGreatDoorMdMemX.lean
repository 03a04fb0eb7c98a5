/- A model in memory: a map behind a struct. What value, get, remove, put, deeds of a model answer, and what they leave. -/
import Derived.Test.YtlpibpkbgmcclaaGreatDoorMdMathX
import Derived.Test.YtlpibpkbgmcclaaGreatDoorRowX
import Derived.Test.YtlpibpkbgmcclaaGreatDoorBaseX
import Derived.Laws.ResultCell
import Derived.Handy
namespace Go.Proofs.YtlpibpkbgmcclaaGreatDoor
open Go.RowKit
set_option linter.unusedVariables false
abbrev okS (s : ByteArray) : Prop := s.size ≤ Go.maxLen
def hdV (h : Hd) : Value := .agg #[.string h.v, .bool h.g]
/-- all that was there but block b is as it was -/
structure Bm (b : Nat) (w w' : World) : Prop where
  os : w'.os = w.os
  tape : w'.tape = w.tape
  output : w'.output = w.output
  size : w.heap.size ≤ w'.heap.size
  blk : ∀ i, i < w.heap.size → i ≠ b → w'.heap[i]? = w.heap[i]?
theorem Bm.refl (b : Nat) (w : World) : Bm b w w := ⟨rfl, rfl, rfl, Nat.le_refl _, fun _ _ _ => rfl⟩
theorem Bm.of_below {b : Nat} {w w' : World} (h : Below w.heap.size w w') : Bm b w w' := ⟨h.os, h.tape, h.output, h.size, fun i hi _ => h.block i hi⟩
theorem Bm.trans {b : Nat} {w1 w2 w3 : World} (h : Bm b w1 w2) (h2 : Bm b w2 w3) : Bm b w1 w3 := ⟨h2.os.trans h.os, h2.tape.trans h.tape, h2.output.trans h.output, Nat.le_trans h.size h2.size, fun i hi hn => (h2.blk i (by have := h.size; omega) hn).trans (h.blk i hi hn)⟩
theorem Bm.below {b B : Nat} {w0 w w' : World} (h : Bm b w w') (h0 : Below B w0 w) (hb : B ≤ b) (hB : B ≤ w.heap.size) : Below B w0 w' :=
  h0.trans ⟨h.os, h.tape, h.output, h.size, fun i hi => h.blk i (by omega) (by omega)⟩
theorem Bm.keep {b i : Nat} {w w' : World} (h : Bm b w w') {o : Obj} (ho : w.heap[i]? = some o) (hn : i ≠ b) : w'.heap[i]? = some o := by
  rcases Nat.lt_or_ge i w.heap.size with q | q
  · exact (h.blk i q hn).trans ho
  · rw [Array.getElem?_eq_none q] at ho; cases ho
/-- a model: its struct is block x, its map block b -/
structure MdAt (w : World) (x b n : Nat) (T : MT) : Prop where
  box : w.heap[x]? = some (.cells #[.map (some b)] 44 (0, 0))
  m : MAt w 9 b n lStr okS (fun k => (T k).map hdV)
  ok : T.Ok
theorem mat_blk {w : World} {k : TypeId} {b n : Nat} {α : Type} {kf : α → Lit} {ok : α → Prop} {f : α → Option Value} (h : MAt w k b n kf ok f) : ∃ es cl, w.heap[b]? = some (.map es cl) := by obtain ⟨D, ⟨es, cl, hb, _⟩, _⟩ := h; exact ⟨es, cl, hb⟩
section
variable {w w' : World} {x b n : Nat} {T : MT}
theorem MdAt.ne (h : MdAt w x b n T) : x ≠ b := fun e => by
  obtain ⟨es, cl, hm⟩ := mat_blk h.m
  rw [← e, h.box] at hm; cases hm
theorem MdAt.c0 (h : MdAt w x b n T) : w.cell? ⟨x, 0, none⟩ = some (.map (some b)) := cell_of_block h.box
theorem MdAt.xlt (h : MdAt w x b n T) : x < w.heap.size := lt_of_block h.box
theorem MdAt.blt (h : MdAt w x b n T) : b < w.heap.size := h.m.lt
theorem MdAt.below (h : MdAt w x b n T) (hb : Below w.heap.size w w') : MdAt w' x b n T := ⟨(hb.block _ h.xlt).trans h.box, h.m.below hb, h.ok⟩
theorem MdAt.bm {c : Nat} (h : MdAt w x b n T) (hb : Bm c w w') (h1 : x ≠ c) (h2 : b ≠ c) : MdAt w' x b n T := ⟨(hb.blk _ h.xlt h1).trans h.box, h.m.keep (hb.blk _ h.blt h2), h.ok⟩
theorem MdAt.mono (h : MdAt w x b n T) {m : Nat} (hm : n ≤ m) : MdAt w x b m T := ⟨h.box, h.m.mono hm, h.ok⟩
theorem turn_bm (ht : w.mapTurned w' b) : Bm b w w' := by
  have hg := ht.grown
  exact ⟨hg.os, hg.tape, hg.output, hg.size, fun i hi hn => hg.block i hi (by simpa using hn)⟩
/-- a key has something else -/
theorem MdAt.turned (h : MdAt w x b n T) {k : ByteArray} {y : Hd} (hk : keyOk k) (hv : y.v.size ≤ 400) (ht : w.mapTurned w' b) (hm : MAt w' 9 b (n + 1) lStr okS (mset (fun k => (T k).map hdV) k (some (hdV y)))) : MdAt w' x b (n + 1) (T.set k y) ∧ Bm b w w' := by
  have hB := turn_bm ht
  refine ⟨⟨(hB.blk _ h.xlt h.ne).trans h.box, hm.congr fun q hq => ?_, ok_set h.ok hk hv⟩, hB⟩
  unfold mset MT.set
  by_cases e : q = k
  · rw [if_pos e, if_pos e]; rfl
  · rw [if_neg e, if_neg e]
end
theorem hd_zero (w : World) : (zeroValue 65).run Tryz.prog w = .ok (.agg #[.string ByteArray.empty, .bool false]) w := by kernel_rfl
def hd0 : Hd := ⟨ByteArray.empty, false⟩
theorem hd_get (o : Option Hd) : (o.map hdV).getD (.agg #[.string ByteArray.empty, .bool false]) = hdV (o.getD hd0) := by cases o <;> rfl
theorem hd_some (o : Option Hd) : (o.map hdV).isSome = o.isSome := by cases o <;> rfl
theorem hd_info : (Tryz.prog.info? 65).map (·.size) = some 2 := by kernel_rfl
theorem hd_one (v : ByteArray) (g : Bool) : (#[Value.string v, .bool g] : Array Value).all (·.oneCell') = true := by simp [Value.oneCell']
/-- 'm[k]: x' of a map that is written out -/
theorem wp_mins {w : World} {k : TypeId} {b n : Nat} {α : Type} {kv : α → Value} {kf : α → Lit} {ok : α → Prop} {f : α → Option Value} {ops : Array Oper} {rest : List Oper} {o : Oper} {ac : Act} {Q : Exit → Act → World → Prop} [DecidableEq α] (hg : o.guard = none) (m x v : Operand) (t : TypeId) (hop : o.op = Op.insert t m x v) (e : TypeId) (K : KE k kv kf ok) (ht : Tryz.prog.underlying t = some (.map k e)) (hn : n < maxLen)
    (a : α) (ha : ok a) (val : Value) (hm : ac.eval m = .map (some b)) (h : MAt w k b n kf ok f) (hx : ac.eval x = kv a) (hv' : ac.eval v = val)
    (hK : ∀ w', MAt w' k b (n + 1) kf ok (mset f a (some val)) → w.mapTurned w' b → wpList Tryz.prog ops Q rest (ac.put o.dst undef) w') : wpList Tryz.prog ops Q (o :: rest) ac w := by
  refine wpList_plain hg fun K' hK' => ?_
  obtain ⟨w', hrun, r1, r2⟩ := h.put K ht hn ha val
  unfold Oper.wp
  simp [execOp, hop, hm, hx, hv', hrun, Result.andThen]
  exact hK' _ _ (hK w' r1 r2)
/-- the fields of an answer: its Code, its Value, its Keys -/
theorem rs_info : (Tryz.prog.info? 37).map (·.size) = some 3 := by kernel_rfl
def rsC (c : Int) (v : ByteArray) (a : Option Addr) (n p : Nat) : Array Value := #[.int .i64 c, .string v, .slice a n p]
theorem rs_one (c : Int) (v : ByteArray) (a : Option Addr) (n p : Nat) : (#[Value.int .i64 c, .string v, .slice a n p] : Array Value).all (·.oneCell') = true := by simp [Value.oneCell']
/-- an answer in a block of its own -/
def RsB (g : Nat) (c : Int) (v : ByteArray) (a : Option Addr) (n p : Nat) (w : World) : Prop := w.heap[g]? = some (.cells (rsC c v a n p) 37 (0, 0))
theorem res_rs {fn : Func} {p : Tmp} (h : fn.results = #[.cell p 37]) (tmps : Array Value) (w : World) (g : Nat) (c : Int) (v : ByteArray) (a : Option Addr) (n q : Nat)
    (hp : tmps.getD p undef = .pointer (some ⟨g, 0, none⟩)) (hr : RsB g c v a n q w) : (results fn tmps).run Tryz.prog w = .ok (.agg (rsC c v a n q)) w :=
  results_cell_row h tmps w g 37 (rsC c v a n q) (0, 0) _ hp hr Tryz.underlying37 rfl rs_info
theorem rsB_row {g : Nat} {c c' : Int} {v v' : ByteArray} {a a' : Option Addr} {n p n' p' : Nat} {w : World} (h : RsB g c v a n p w) : RsB g c' v' a' n' p' (w.setRow g (rsC c' v' a' n' p')) := setRow_heap _ _ _ _ _ _ h
end Go.Proofs.YtlpibpkbgmcclaaGreatDoor
namespace Go.Proofs.YtlpibpkbgmcclaaGreatDoor
open Go.RowKit
set_option linter.unusedVariables false
/-- a value and an error -/
def vlV (o : Option ByteArray) : Value := match o with | some v => .tuple #[.string v, .int .i64 0] | none => .tuple #[.string ByteArray.empty, .int .i64 9]
theorem ret_val {a b : Value} (h : a = b) : Ending.returned a = .returned b := by rw [h]
theorem key_okS {k : ByteArray} (h : k.size ≤ 100000) : okS k := by unfold okS Go.maxLen; omega
set_option maxRecDepth 100000 in
set_option maxHeartbeats 8000000 in
theorem md_value {w : World} {x b n : Nat} {T : MT} (h : MdAt w x b n T) (k : ByteArray) (hk : okS k) : Calls Tryz.prog 43 #[.pointer (some ⟨x, 0, none⟩), .string k] w fun e w' => e = .returned (vlV (T.val k)) ∧ Below w.heap.size w w' := by
  have c0 := h.c0
  have hze := hd_zero
  have hmt := hide h.m
  have HK := hide hk
  cases hT : T k with
  | none =>
    have HE : Hid (vlV (T.val k) = .tuple #[.string ByteArray.empty, .int .i64 9]) := by show _ = _; unfold MT.val; rw [hT]; rfl
    have HG : Hid (((T k).map hdV).getD (.agg #[.string ByteArray.empty, .bool false]) = .agg #[.string ByteArray.empty, .bool false]) := by show _ = _; rw [hT]; rfl
    have HS : Hid (((T k).map hdV).isSome = false) := by show _ = _; rw [hT]; rfl
    clear h hk hT
    go_enter Tryz.func43, Tryz.ntmps43
    go_wp2_with (first | (at_lookup; refine wp_mlook rfl _ _ 42 rfl 65 ke_str Tryz.underlying42 (hze _) k HK.out rfl hmt.out rfl ?_; rw [HS.out, HG.out]))
    first | go_ret | go_returns
    exact ⟨ret_val HE.out.symm, (Below.refl _ _).alloc (Nat.le_refl _) _⟩
  | some y =>
    obtain ⟨v, g⟩ := y
    have HG : Hid (((T k).map hdV).getD (.agg #[.string ByteArray.empty, .bool false]) = .agg #[.string v, .bool g]) := by show _ = _; rw [hT]; rfl
    have HS : Hid (((T k).map hdV).isSome = true) := by show _ = _; rw [hT]; rfl
    cases g with
    | true =>
      have HE : Hid (vlV (T.val k) = .tuple #[.string ByteArray.empty, .int .i64 9]) := by show _ = _; unfold MT.val; rw [hT]; rfl
      clear h hk hT
      go_enter Tryz.func43, Tryz.ntmps43
      go_wp2_with (first | (at_lookup; refine wp_mlook rfl _ _ 42 rfl 65 ke_str Tryz.underlying42 (hze _) k HK.out rfl hmt.out rfl ?_; rw [HS.out, HG.out]))
      first | go_ret | go_returns
      exact ⟨ret_val HE.out.symm, (Below.refl _ _).alloc (Nat.le_refl _) _⟩
    | false =>
      have HE : Hid (vlV (T.val k) = .tuple #[.string v, .int .i64 0]) := by show _ = _; unfold MT.val; rw [hT]; rfl
      clear h hk hT
      go_enter Tryz.func43, Tryz.ntmps43
      go_wp2_with (first | (at_lookup; refine wp_mlook rfl _ _ 42 rfl 65 ke_str Tryz.underlying42 (hze _) k HK.out rfl hmt.out rfl ?_; rw [HS.out, HG.out]))
      first | go_ret | go_returns
      exact ⟨ret_val HE.out.symm, (Below.refl _ _).alloc (Nat.le_refl _) _⟩
/-- the two blocks that a method lays: its request, its answer -/
def mdW (w : World) (d : Int) (k v : ByteArray) : World := (w.alloc (.cells #[.int .i64 d, .string k, .string v] 32)).alloc (.cells #[.int .i64 0, .string ⟨#[]⟩, .slice none 0 0] 37)
theorem mdW_B (w : World) (d : Int) (k v : ByteArray) : Below w.heap.size w (mdW w d k v) := ((Below.refl _ _).alloc (Nat.le_refl _) _).alloc (by rw [World.size_alloc]; omega) _
theorem mdW_Z (w : World) (d : Int) (k v : ByteArray) : RsB (w.heap.size + 1) 0 ⟨#[]⟩ none 0 0 (mdW w d k v) := by
  have := heap_alloc_new (w.alloc (.cells #[.int .i64 d, .string k, .string v] 32)) (.cells #[.int .i64 0, .string ⟨#[]⟩, .slice none 0 0] 37)
  rw [World.size_alloc] at this
  exact this
theorem mdW_R (w : World) (d : Int) (k v : ByteArray) : (mdW w d k v).heap[w.heap.size]? = some (.cells #[.int .i64 d, .string k, .string v] 32 (0, 0)) := ((Below.refl _ _).alloc (Nat.le_refl _) _ : Below (w.alloc (.cells #[.int .i64 d, .string k, .string v] 32)).heap.size _ (mdW w d k v)).block _ (by rw [World.size_alloc]; omega) |>.trans (heap_alloc_new _ _)
/-- what a method leaves that changes nothing -/
structure Did0 (c : Int) (v : ByteArray) (w : World) (e : Ending) (w' : World) : Prop where
  e : e = .returned (.agg (rsC c v none 0 0))
  b : Below w.heap.size w w'
set_option maxRecDepth 100000 in
set_option maxHeartbeats 8000000 in
theorem md_get {w : World} {x b n : Nat} {T : MT} (h : MdAt w x b n T) (d : Int) (k v : ByteArray) (hk : okS k) : Calls Tryz.prog 30 #[.pointer (some ⟨x, 0, none⟩), .agg #[.int .i64 d, .string k, .string v]] w (Did0 (if (T.val k).isSome then 0 else 9) ((T.val k).getD ByteArray.empty) w) := by
  have HB := hide (mdW_B w d k v)
  have HZ := hide (mdW_Z w d k v)
  have HV := hide (md_value (h.below HB.out) k hk)
  clear h hk
  cases hv : T.val k with
  | none =>
    rw [hv] at HV
    simp only [vlV] at HV
    clear hv
    go_enter Tryz.func30, Tryz.ntmps30
    go_wp2_with fail
    refine HV.out.mono ?_
    rintro e w1 ⟨rfl, hb⟩
    have HZ1 : Hid (RsB (w.heap.size + 1) 0 ⟨#[]⟩ none 0 0 w1) := (hb.block _ (lt_of_block HZ.out)).trans HZ.out
    have HB1 := hide (HB.out.trans (hb.mono HB.out.size))
    clear hb
    go_wp2_with (first | (refine wpList_store_row rfl 37 (.tmp 4) (.tmp 16) rfl (w.heap.size + 1) #[.int .i64 9, .string ByteArray.empty, .slice none 0 0] rfl rfl 37 _ HZ1.out rs_info rfl (rs_one _ _ _ _ _) ?_))
    refine bodyPost_ret (res_rs rfl _ _ (w.heap.size + 1) 9 ByteArray.empty none 0 0 rfl (rsB_row HZ1.out)) rfl ⟨rfl, below_setRow HB1.out (by omega) _⟩
  | some y =>
    rw [hv] at HV
    simp only [vlV] at HV
    clear hv
    go_enter Tryz.func30, Tryz.ntmps30
    go_wp2_with fail
    refine HV.out.mono ?_
    rintro e w1 ⟨rfl, hb⟩
    have HZ1 : Hid (RsB (w.heap.size + 1) 0 ⟨#[]⟩ none 0 0 w1) := (hb.block _ (lt_of_block HZ.out)).trans HZ.out
    have HB1 := hide (HB.out.trans (hb.mono HB.out.size))
    clear hb
    go_wp2_with (first | (refine wpList_store_row rfl 37 (.tmp 4) (.tmp 16) rfl (w.heap.size + 1) #[.int .i64 0, .string y, .slice none 0 0] rfl rfl 37 _ HZ1.out rs_info rfl (rs_one _ _ _ _ _) ?_))
    refine bodyPost_ret (res_rs rfl _ _ (w.heap.size + 1) 0 y none 0 0 rfl (rsB_row HZ1.out)) rfl ⟨rfl, below_setRow HB1.out (by omega) _⟩
end Go.Proofs.YtlpibpkbgmcclaaGreatDoor
