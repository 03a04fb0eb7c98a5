/- A map's keys are texts that a machine holds: a longer one is not there. What deeds of a model answers: what each kind does. A strings.Builder in memory; what WriteString and String answer on it. What the document's Same of two answers tells that are alike. -/
import Derived.Test.YtlpibpkbgmcclaaGreatDoorMdMemX
import Derived.Sort.KeysCollected
import Derived.Handy
import Derived.Lib.Builder
import Derived.Lib.AppendStr
import Derived.Lib.UnsafeStr
import Derived.Laws.Externs
import Derived.Shelf.RegionOpenPlain
import Derived.Deep.QuietTactic
import Derived.BigQuiet
namespace Go.Proofs.YtlpibpkbgmcclaaGreatDoor
open Go.RowKit Go.Maps Go.Sort
set_option linter.unusedVariables false
theorem find_long (s : ByteArray) (hs : ¬ okS s) : ∀ (es : List MapEntry) (i : Nat), (∀ e ∈ es, ∃ x : List UInt8, e.key = encStr x ∧ x.length ≤ maxLen) → Instr.findNow .string (.string s) es i = some none := by
  intro es
  induction es with
  | nil => intro i _; rfl
  | cons e es ih =>
    intro i h
    obtain ⟨x, hx, hl⟩ := h e (List.mem_cons_self ..)
    have hne : (s == (⟨x.toArray⟩ : ByteArray)) = false := by
      cases hq : s == (⟨x.toArray⟩ : ByteArray)
      · rfl
      · exfalso
        have hq : s = ⟨x.toArray⟩ := by
          have h2 : s.data = x.toArray := by
            cases s
            exact eq_of_beq hq
          cases s; simp only at h2; rw [h2]
        apply hs
        rw [hq]
        show x.toArray.size ≤ _
        simpa using hl
    simp only [Instr.findNow, hx, encStr, Instr.sameNow, hne]
    exact ih (i + 1) fun e he => h e (List.mem_cons_of_mem _ he)
theorem look1_long {w : World} {b n : Nat} {f : ByteArray → Option Value} (h : MAt w 9 b n lStr okS f) {t e : TypeId} (ht : Tryz.prog.underlying t = some (.map 9 e)) {z : Value} (hz : (zeroValue e).run Tryz.prog w = .ok z w) (s : ByteArray) (hs : ¬ okS s) :
    (Instr.lookup t (.map (some b)) (.string s) false).run Tryz.prog w = .ok z w := by
  obtain ⟨D, ⟨es, clock, hb, F, _, rfl⟩, _⟩ := h
  have hk : ∀ e ∈ es.toList, ∃ x : List UInt8, e.key = encStr x ∧ x.length ≤ maxLen := fun e he => by
    obtain ⟨l, hl⟩ := F.keys e he
    obtain ⟨x, hx, _, hlen⟩ := Maps.keyOf_str Tryz.underlying9 hl
    exact ⟨x, hx, hlen⟩
  have hf := find_long s hs es.toList 0 hk
  have hu := run_underlying (P := Tryz.prog) Tryz.underlying9 w
  have hc := MapKept.run_checkKey (P := Tryz.prog) Tryz.underlying9 (d := .string) (k := .string s) trivial es.isEmpty 9999 (w := w)
  have hfk : (Instr.findKey 9 (.string s) es.toList).run Tryz.prog w = .ok none w := by
    simp [Instr.findKey, hu, hf, Result.andThen]
  simp only [Instr.lookup, run_underlying ht, MapKept.run_getObj_map hb, Sem.run_bind, Sem.run_pure, Result.andThen_ok, hc, hfk, hz]
  simp
end Go.Proofs.YtlpibpkbgmcclaaGreatDoor
namespace Go.Proofs.YtlpibpkbgmcclaaGreatDoor
open Go.RowKit
set_option linter.unusedVariables false
def fnV (f : Nat) (x : Nat) : Value := .func (.func f) #[.pointer (some ⟨x, 0, none⟩)] #[]
def dsF (x : Nat) : Int → Option Value := fun d => if d = 0 then some (fnV 29 x) else if d = 1 then some (fnV 30 x) else if d = 2 then some (fnV 31 x) else if d = 3 then some (fnV 32 x) else if d = 4 then some (fnV 33 x) else none
set_option maxRecDepth 100000 in
set_option maxHeartbeats 8000000 in
theorem md_deeds (x : Nat) (w : World) : Calls Tryz.prog 15 #[.pointer (some ⟨x, 0, none⟩)] w fun e w' => ∃ g, e = .returned (.map (some g)) ∧ MAt w' 3 g 5 lInt OkI (dsF x) ∧ Below w.heap.size w w' := by
  have hmf : ∀ (f : Nat) (v : Value) W, (Instr.makeFunc (Fn.func f) #[v] #[]).run Tryz.prog W = .ok (.func (.func f) #[v] #[]) W := fun f v W => by rfl
  have hmm := @run_makeMap Tryz.prog
  have HM0 := hide (MAt.made w 3 lInt OkI)
  have HB0 : Hid (Bm w.heap.size w (w.alloc (.map #[] 0))) := Bm.of_below ((Below.refl _ _).alloc (Nat.le_refl _) _)
  go_enter Tryz.func15, Tryz.ntmps15
  go_wp2_with (first | (refine wp_mins rfl (.tmp 3) (.const (.int .i64 0)) (.tmp 5) 47 rfl 38 ke_int Tryz.underlying47 (by decide) 0 (by unfold OkI; omega) (fnV 29 x) rfl HM0.out rfl rfl ?_; intro w1 hm1 ht1; have HM1 := hide hm1; have HB1 := hide (HB0.out.trans (turn_bm ht1)); clear hm1 ht1) | (refine wp_mins rfl (.tmp 3) (.const (.int .i64 1)) (.tmp 7) 47 rfl 38 ke_int Tryz.underlying47 (by decide) 1 (by unfold OkI; omega) (fnV 30 x) rfl HM1.out rfl rfl ?_; intro w2 hm2 ht2; have HM2 := hide hm2; have HB2 := hide (HB1.out.trans (turn_bm ht2)); clear hm2 ht2) | (refine wp_mins rfl (.tmp 3) (.const (.int .i64 2)) (.tmp 9) 47 rfl 38 ke_int Tryz.underlying47 (by decide) 2 (by unfold OkI; omega) (fnV 31 x) rfl HM2.out rfl rfl ?_; intro w3 hm3 ht3; have HM3 := hide hm3; have HB3 := hide (HB2.out.trans (turn_bm ht3)); clear hm3 ht3) | (refine wp_mins rfl (.tmp 3) (.const (.int .i64 3)) (.tmp 11) 47 rfl 38 ke_int Tryz.underlying47 (by decide) 3 (by unfold OkI; omega) (fnV 32 x) rfl HM3.out rfl rfl ?_; intro w4 hm4 ht4; have HM4 := hide hm4; have HB4 := hide (HB3.out.trans (turn_bm ht4)); clear hm4 ht4) | (refine wp_mins rfl (.tmp 3) (.const (.int .i64 4)) (.tmp 13) 47 rfl 38 ke_int Tryz.underlying47 (by decide) 4 (by unfold OkI; omega) (fnV 33 x) rfl HM4.out rfl rfl ?_; intro w5 hm5 ht5; have HM5 := hide hm5; have HB5 := hide (HB4.out.trans (turn_bm ht5)); clear hm5 ht5))
  first | go_ret | go_returns
  refine ⟨w.heap.size, rfl, HM5.out.congr fun d _ => ?_, ⟨HB5.out.os, HB5.out.tape, HB5.out.output, HB5.out.size, fun i hi => HB5.out.blk i hi (by omega)⟩⟩
  unfold mset dsF
  by_cases h4 : d = 4
  · subst h4; rfl
  · rw [if_neg h4]
    by_cases h3 : d = 3
    · subst h3; rfl
    · rw [if_neg h3]
      by_cases h2 : d = 2
      · subst h2; rfl
      · rw [if_neg h2]
        by_cases h1 : d = 1
        · subst h1; rfl
        · rw [if_neg h1]
          by_cases h0 : d = 0
          · subst h0; rfl
          · simp [h0, h1, h2, h3, h4]
end Go.Proofs.YtlpibpkbgmcclaaGreatDoor
namespace Go.Proofs.YtlpibpkbgmcclaaGreatDoor
open Go.RowKit Go.Shelf
set_option linter.unusedVariables false
/-- a writer that holds these bytes, in block b, all its own from B on -/
def Wt (B b : Nat) (s : ByteArray) (w : World) : Prop := Lib.IsBuilder 59 5 B b (Lib.byteCells s.data.toList) w
/-- what a write leaves -/
structure Kw (B b : Nat) (w w' : World) : Prop where
  low : Below B w w'
  keep : ∀ (k : Nat) (cs : Array Value) (t : TypeId) (fr : Nat × Nat), k ≠ b → t ≠ 5 → w.heap[k]? = some (.cells cs t fr) → w'.heap[k]? = some (.cells cs t fr)
theorem Kw.refl (B b : Nat) (w : World) : Kw B b w w := ⟨Below.refl _ _, fun _ _ _ _ _ _ h => h⟩
theorem Kw.trans {B b : Nat} {u v w : World} (h : Kw B b u v) (k : Kw B b v w) : Kw B b u w := ⟨h.low.trans k.low, fun i cs t fr h1 h2 h3 => k.keep i cs t fr h1 h2 (h.keep i cs t fr h1 h2 h3)⟩
theorem Kw.of_below {B b : Nat} {w w' : World} (h : Below w.heap.size w w') (hB : B ≤ w.heap.size) : Kw B b w w' := ⟨h.mono hB, fun k cs t fr _ _ e => (h.block k (lt_of_block e)).trans e⟩
theorem Kw.size {B b : Nat} {w w' : World} (h : Kw B b w w') : w.heap.size ≤ w'.heap.size := h.low.size
theorem wt_at {B b : Nat} {p : Value} {bs : List Value} {w w' : World} (h : Lib.BuilderAt 59 5 B b p bs w) (hb : Below w.heap.size w w') : Lib.BuilderAt 59 5 B b p bs w' := by
  obtain ⟨hB, v, hbk, hown, hne⟩ := h
  exact ⟨hB, v, (hb.block b (lt_of_block hbk)).trans hbk, own_below hown hb, hne⟩
theorem Wt.below {B b : Nat} {s : ByteArray} {w w' : World} (h : Wt B b s w) (hb : Below w.heap.size w w') : Wt B b s w' := by
  rcases h with h | h
  · exact Or.inl (wt_at h hb)
  · exact Or.inr (wt_at h hb)
theorem Wt.lt {B b : Nat} {s : ByteArray} {w : World} (h : Wt B b s w) : b < w.heap.size := by rcases h with h | h <;> exact h.lt
theorem Wt.ge {B b : Nat} {s : ByteArray} {w : World} (h : Wt B b s w) : B ≤ b := by rcases h with h | h <;> exact h.1
theorem wt_new (w : World) : Wt w.heap.size w.heap.size ByteArray.empty (w.alloc (.cells #[.pointer none, .slice none 0 0] 59)) := Lib.fresh_isBuilder _ _ w
theorem bl_info : (Tryz.prog.info? 59).map (·.size) = some 2 := by kernel_rfl
theorem wt_lies : liesAt Tryz.prog Tryz.prog.depth 59 (2 / Tryz.prog.cellsOf 59) 0 59 1 = true := by kernel_rfl
theorem wt_cells : Tryz.prog.cellsOf 5 = 1 := by kernel_rfl
set_option maxHeartbeats 1000000 in
set_option maxRecDepth 100000 in
theorem copy_used (b : Nat) (w : World) (h0 : w.cell? ⟨b, 0, none⟩ = some (.pointer (some ⟨b, 0, none⟩))) : Calls Tryz.prog 40 #[.pointer (some ⟨b, 0, none⟩)] w fun e w' => e = .returned (.tuple #[]) ∧ w' = w := by
  obtain ⟨j, hj, _⟩ := Option.map_eq_some_iff.1 bl_info
  go_enter Tryz.func40, Tryz.ntmps40
  go_wp2
  rw [Lib.run_neq_ptr_same w _ Tryz.underlying56 hj]
  go_wp2
  go_end0
  exact ⟨rfl, rfl⟩
set_option maxHeartbeats 1000000 in
set_option maxRecDepth 100000 in
theorem copy_fresh (b : Nat) (w : World) (h0 : w.cell? ⟨b, 0, none⟩ = some (.pointer none)) (hsh : w.shape? b = some (59, 2)) (hfz : w.frozen? ⟨b, 0, none⟩ = false) : Calls Tryz.prog 40 #[.pointer (some ⟨b, 0, none⟩)] w fun e w' => e = .returned (.tuple #[]) ∧ w' = w.setCell ⟨b, 0, none⟩ (.pointer (some ⟨b, 0, none⟩)) := by
  obtain ⟨j, hj, hjs⟩ := Option.map_eq_some_iff.1 bl_info
  go_enter Tryz.func40, Tryz.ntmps40
  go_wp2
  rw [Lib.run_to_unsafe w ⟨b, 0, none⟩ Tryz.underlying56 Tryz.underlying93 hj (by rw [hjs]; decide) hsh (Nat.zero_lt_succ 1)]
  simp only [Result.andThen]
  rw [Oper.upon_value]
  go_wp2
  rw [run_callFunc_extern Tryz.func54 (by kernel_rfl) (by kernel_rfl) (by kernel_rfl) (e := Extern.AbiNoEscape.same) (by kernel_rfl)]
  rw [Lib.run_noEscape]
  simp only [Result.andThen]
  rw [Oper.upon_value]
  go_wp2
  rw [Lib.run_from_unsafe w ⟨b, 0, none⟩ Tryz.underlying93 Tryz.underlying56 hj hsh wt_lies]
  simp only [Result.andThen]
  rw [Oper.upon_value]
  go_wp2
  go_end0
  exact ⟨rfl, rfl⟩
theorem copy_any (B b : Nat) (bs : List Value) (w : World) (h : Lib.IsBuilder 59 5 B b bs w) : Calls Tryz.prog 40 #[.pointer (some ⟨b, 0, none⟩)] w fun e w' => e = .returned (.tuple #[]) ∧ Lib.BuilderAt 59 5 B b (.pointer (some ⟨b, 0, none⟩)) bs w' ∧ Kw B b w w' := by
  rcases h with h | h
  · refine (copy_fresh b w h.cell0 h.shape h.frozen0).mono ?_
    rintro e w' ⟨rfl, rfl⟩
    refine ⟨rfl, h.used _, (Below.refl B w).setCell (p := ⟨b, 0, none⟩) h.1 _, fun k cs t fr hk _ e => (Below.heap_setCell _ _ _ _ hk).trans e⟩
  · refine (copy_used b w h.cell0).mono ?_
    rintro e w' ⟨rfl, rfl⟩
    exact ⟨rfl, h, Kw.refl _ _ _⟩
theorem cells_app (s t : ByteArray) : Lib.byteCells s.data.toList ++ Lib.strCells t = Lib.byteCells (s ++ t).data.toList := by
  rw [Lib.strCells_eq, ← Lib.byteCells_append]
  congr 1
set_option maxHeartbeats 2000000 in
set_option maxRecDepth 100000 in
theorem wstr_any (B b : Nat) (s t : ByteArray) (w : World) (h : Wt B b s w) (hlen : s.size + t.size ≤ 1000000) (hBw : B ≤ w.heap.size) : Calls Tryz.prog 25 #[.pointer (some ⟨b, 0, none⟩), .string t] w fun e w' => e = .returned (.tuple #[.int .i64 t.size, .nilIface]) ∧ Wt B b (s ++ t) w' ∧ Kw B b w w' := by
  obtain ⟨i0, hi, hz0, hz1, hz2⟩ := info_parts u8_info
  have hl : (Lib.byteCells s.data.toList).length = s.size := by rw [Lib.byteCells_length, Array.length_toList]; rfl
  go_enter Tryz.func25, Tryz.ntmps25
  go_wp2_with fail
  refine (copy_any B b _ _ h).mono ?_
  rintro e w1 ⟨rfl, h1, hb1⟩
  obtain ⟨hB, v, hbk, hown, hne⟩ := h1
  have c0 : w1.cell? ⟨b, 0, none⟩ = some (.pointer (some ⟨b, 0, none⟩)) := by rw [Lib.cell_of_heap hbk]; rfl
  have c1 : w1.cell? ⟨b, 1, none⟩ = some v := by rw [Lib.cell_of_heap hbk]; rfl
  rw [hl] at hown
  go_wp2_with (at_builtin; refine Lib.wpList_append_own_string _ rfl _ _ 57 9 rfl B 5 i0 Tryz.underlying57 Tryz.underlying9 hi hz0 hz1 hz2 _ _ _ rfl hown t rfl ?c3 ?c4 ?c5 ?_)
  case c3 => unfold maxLen; omega
  case c4 => omega
  case c5 => have := hb1.size; omega
  intro v' w2 hown' hgrow _
  have hb2 : w2.heap[b]? = some (.cells #[.pointer (some ⟨b, 0, none⟩), v] 59 (0, 0)) := by
    rw [hgrow.block b (lt_of_block hbk) (fun e => hne e.symm)]
    exact hbk
  have d0 : w2.cell? ⟨b, 0, none⟩ = some (.pointer (some ⟨b, 0, none⟩)) := by rw [Lib.cell_of_heap hb2]; rfl
  have d1 : w2.cell? ⟨b, 1, none⟩ = some v := by rw [Lib.cell_of_heap hb2]; rfl
  have f1 : w2.frozen? ⟨b, 1, none⟩ = false := Lib.frozen_of_heap hb2 1
  obtain ⟨ao, n', cap, rfl⟩ : ∃ ao n' cap, v' = .slice ao n' cap := by
    rcases hown'.2 with ⟨hv, _⟩ | ⟨g, cap, cur, hv, _⟩
    · exact ⟨_, _, _, hv⟩
    · exact ⟨_, _, _, hv⟩
  go_wp2
  go_ret2
  refine ⟨rfl, ?_, ?_⟩
  · refine Or.inr ?_
    have hc := cells_app s t
    rw [← hc]
    exact Lib.BuilderAt.put (T := 59) (e := 5) hB hb2 (bs' := Lib.byteCells s.data.toList ++ Lib.strCells t) (by rw [List.length_append, hl, Lib.strCells_length]; exact hown') (by decide)
  · refine hb1.trans ⟨((Below.refl B w1).grown hgrow (by have := hb1.size; omega) (fun k hk => (hown.lt k hk).1)).setCell (p := ⟨b, 1, none⟩) hB _, fun k cs t fr hk ht e => ?_⟩
    rw [Below.heap_setCell _ _ _ _ (show k ≠ b from hk), hgrow.block k (lt_of_block e) ?_]
    · exact e
    · intro hq
      rcases hown.2 with ⟨rfl, _⟩ | ⟨g, cap, cur, rfl, _, hg, _⟩
      · simp [Value.ownBlock] at hq
      · obtain rfl : k = g := by simpa [Value.ownBlock] using hq
        rw [hg] at e
        simp at e
        exact ht e.2.1.symm
set_option maxHeartbeats 2000000 in
set_option maxRecDepth 100000 in
theorem bstr_any (B b : Nat) (s : ByteArray) (w : World) (h : Wt B b s w) (h0 : s.size ≠ 0) : Calls Tryz.prog 27 #[.pointer (some ⟨b, 0, none⟩)] w fun e w' => e = .returned (.string s) ∧ Below B w w' := by
  obtain ⟨l, hl⟩ : ∃ l, s.data.toList = l := ⟨_, rfl⟩
  have hS : Hid (s = ⟨l.toArray⟩) := by unfold Hid; rw [← hl]
  unfold Wt at h
  rw [hl] at h
  have hl0 : l.length ≠ 0 := by rw [← hl, Array.length_toList]; exact h0
  have hln : l ≠ [] := fun e => hl0 (by rw [e]; rfl)
  clear h0 hl
  rw [hS.out]
  clear hS s
  obtain ⟨p, hB, v, hbk, hown, hne⟩ : ∃ p, Lib.BuilderAt 59 5 B b p (Lib.byteCells l) w := by
    rcases h with h | h
    · exact ⟨_, h⟩
    · exact ⟨_, h⟩
  rw [Lib.byteCells_length] at hown
  obtain ⟨g, cap, cur, rfl, hbg, hg, hnc, hcm, hcs, htake⟩ : ∃ g cap cur, v = .slice (some ⟨g, 0, none⟩) l.length cap ∧ B ≤ g ∧ w.heap[g]? = some (.cells cur 5 (0, 0)) ∧ l.length ≤ cap ∧ cap ≤ maxLen ∧ cur.size = cap * 1 ∧ cur.toList.take (l.length * 1) = Lib.byteCells l := by
    rcases hown.2 with ⟨_, hz⟩ | ⟨g, cap, cur, hv, r⟩
    · exact absurd hz hl0
    · exact ⟨g, cap, cur, hv, r⟩
  have c1 : w.drew.cell? ⟨b, 1, none⟩ = some (.slice (some ⟨g, 0, none⟩) l.length cap) := by
    have : w.drew.heap[b]? = some (.cells #[p, .slice (some ⟨g, 0, none⟩) l.length cap] 59 (0, 0)) := hbk
    rw [Lib.cell_of_heap this]; rfl
  have hSD : (Builtin.unsafeSliceData_ #[57] 82 #[.slice (some ⟨g, 0, none⟩) l.length cap]).run Tryz.prog w.drew = .ok (.pointer (some ⟨g, 0, none⟩)) w.drew :=
    Lib.run_unsafeSliceData_row _ _ _ _ _ _ (by omega)
  have hUS : (Builtin.unsafeString_ #[82, 3] 9 #[.pointer (some ⟨g, 0, none⟩), .int .i64 l.length]).run Tryz.prog w.drew = .ok (.string ⟨l.toArray⟩) (w.drew.freeze ⟨g, 0, none⟩ l.length) := by
    refine Lib.run_unsafeString_row w.drew 82 3 9 5 Tryz.underlying82 wt_cells g cur.size (by have hg' : w.drew.heap[g]? = some (.cells cur 5 (0, 0)) := hg; simp [World.shape?, hg']) l hln (by omega) (by unfold maxLen at hcm; omega) ?_
    intro j x hx
    exact hown.cells (g := g) rfl j (.int .u8 x.toNat) (by simp [Lib.byteCells, hx])
  go_enter Tryz.func27, Tryz.ntmps27
  go_wp2
  go_region
  all_goals (go_wp2; go_ret; exact ⟨rfl, Lib.below_freeze (Below.drew (Below.refl B w)) (p := ⟨g, 0, none⟩) hbg _⟩)
end Go.Proofs.YtlpibpkbgmcclaaGreatDoor
namespace Go.Proofs.YtlpibpkbgmcclaaGreatDoor
open Go.RowKit
set_option linter.unusedVariables false
set_option maxRecDepth 100000 in
set_option maxHeartbeats 8000000 in
theorem keys_same (a1 a2 : Option Addr) (c1 c2 n : Nat) (l : List ByteArray) (w : World) (hl : l.length = n) (h63 : n ≤ 1000000) (h1 : StrsAt w a1 l) (h2 : StrsAt w a2 l) : Calls Tryz.prog 13 #[.slice a1 n c1, .slice a2 n c2] w fun e w' => e = .returned (.bool true) ∧ Below w.heap.size w w' := by
  have HL := hide hl
  have H1 := hide h1
  have H2 := hide h2
  clear hl h1 h2
  go_enter Tryz.func13, Tryz.ntmps13
  go_wp2_with fail
  go_loopw [5] (fun y wr => ∃ k : Nat, k ≤ n ∧ y = .int .i64 k ∧ Below w.heap.size w wr) (fun y _ => n - (intOf y).toNat)
  case atStart => exact ⟨0, by omega, rfl, Below.refl _ _⟩
  case round =>
    obtain ⟨k, hk, rfl, hbl⟩ := hrel
    have HB := hide hbl
    clear hbl
    by_cases hlt : k < n
    · have hd : decide ((k : Int) < (n : Int)) = true := by simp; omega
      have hdi : (k : Int) < (n : Int) := by omega
      have hd0 : (0 : Int) ≤ (k : Int) := by omega
      obtain ⟨x, hx⟩ : ∃ x, l[k]? = some x := ⟨_, List.getElem?_eq_getElem (by have := HL.out; omega)⟩
      rcases H1.out with q | ⟨b1, o1, rfl, hb1, hc1⟩
      · have := HL.out; rw [q] at this; simp at this; omega
      rcases H2.out with q | ⟨b2, o2, rfl, hb2, hc2⟩
      · have := HL.out; rw [q] at this; simp at this; omega
      have HC1 := hide hc1
      have HC2 := hide hc2
      clear hc1 hc2
      have e1 := (HB.out.cell (p := ⟨b1, o1 + k, none⟩) hb1).trans (HC1.out k x hx)
      have e2 := (HB.out.cell (p := ⟨b2, o2 + k, none⟩) hb2).trans (HC2.out k x hx)
      clear hx
      go_wp2_with fail
      go_quiet (fail)
      go_wp2_with fail
      all_goals first | exact ⟨⟨k + 1, by omega, by go_num, drawn_below HB.out _⟩, by simp [intOf]; omega⟩ | exact ⟨⟨k + 1, by omega, by go_num, HB.out⟩, by simp [intOf]; omega⟩
    · have hd : decide ((k : Int) < (n : Int)) = false := by simp; omega
      go_wp2_with fail
      try go_ret
      exact ⟨rfl, HB.out⟩
set_option maxRecDepth 100000 in
set_option maxHeartbeats 8000000 in
theorem rs_same (c : Int) (v : ByteArray) (a1 a2 : Option Addr) (c1 c2 n : Nat) (l : List ByteArray) (w : World) (hl : l.length = n) (h63 : n ≤ 1000000) (h1 : StrsAt w a1 l) (h2 : StrsAt w a2 l) : Calls Tryz.prog 7 #[.agg (rsC c v a1 n c1), .agg (rsC c v a2 n c2)] w fun e w' => e = .returned (.bool true) ∧ Below w.heap.size w w' := by
  have HB : Hid (Below w.heap.size w ((w.alloc (.cells #[.int .i64 c, .string v, .slice a1 n c1] 37)).alloc (.cells #[.int .i64 c, .string v, .slice a2 n c2] 37))) := ((Below.refl _ _).alloc (Nat.le_refl _) _).alloc (by rw [World.size_alloc]; omega) _
  have HS : Hid (∀ W, Below w.heap.size w W → Calls Tryz.prog 13 #[.slice a1 n c1, .slice a2 n c2] W fun e w' => e = .returned (.bool true) ∧ Below W.heap.size W w') := fun W hb => keys_same a1 a2 c1 c2 n l W hl h63 (h1.below hb) (h2.below hb)
  clear h1 h2 hl
  simp only [rsC]
  go_enter Tryz.func7, Tryz.ntmps7
  go_wp2_with fail
  refine (HS.out _ HB.out).mono ?_
  rintro e w1 ⟨rfl, hb⟩
  have HB1 := hide (HB.out.trans (hb.mono HB.out.size))
  clear hb
  go_wp2_with fail
  try go_ret
  exact ⟨rfl, HB1.out⟩
end Go.Proofs.YtlpibpkbgmcclaaGreatDoor
