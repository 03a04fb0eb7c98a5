/- Rows of bytes that are read cell by cell and may be written behind their length (also one that '[]byte(s)' laid, with the run-time's mark): append of one byte onto such a row. No function of the program stands here. -/
import Derived.Test.YtomcdajoeakhdaaDoorOwn
import Derived.Laws.IdiomStrings
import Derived.Laws.IdiomCopy
namespace Go.Proofs.YtomcdajoeakhdaaDoor
open Go.RowKit
/-- a row of n bytes f 0, f 1, .. in a block from base on -/
def BR (w : World) (base : Nat) (v : Value) (n : Nat) (f : Nat → Nat) : Prop := ∃ g cap, v = .slice (some ⟨g, 0, none⟩) n cap ∧ base ≤ g ∧ n ≤ cap ∧ cap ≤ maxLen ∧ g < w.heap.size ∧ (∀ p, p < n → w.cell? ⟨g, p, none⟩ = some (.int .u8 (f p : Nat))) ∧ (∀ p, n ≤ p → p < cap → (w.cell? ⟨g, p, none⟩).isSome = true ∧ w.frozen? ⟨g, p, none⟩ = false)
theorem BR.congr {w : World} {base : Nat} {v : Value} {n : Nat} {f f' : Nat → Nat} (h : BR w base v n f) (e : ∀ p, p < n → f p = f' p) : BR w base v n f' := by
  obtain ⟨g, cap, hv, hb, hn, hm, hg, hc, hf⟩ := h
  exact ⟨g, cap, hv, hb, hn, hm, hg, fun p hp => by rw [← e p hp]; exact hc p hp, hf⟩
theorem BR.alloc {w : World} {base : Nat} {v : Value} {n : Nat} {f : Nat → Nat} (h : BR w base v n f) (o : Obj) : BR (w.alloc o) base v n f := by
  obtain ⟨g, cap, hv, hb, hn, hm, hg, hc, hf⟩ := h
  have hbk : (w.alloc o).heap[g]? = w.heap[g]? := Below.heap_alloc _ _ _ hg
  refine ⟨g, cap, hv, hb, hn, hm, by rw [World.size_alloc]; omega, fun p hp => ?_, fun p h1 h2 => ?_⟩
  · rw [World.cell?_of_block (w := w) (a := ⟨g, p, none⟩) hbk]; exact hc p hp
  · rw [World.cell?_of_block (w := w) (a := ⟨g, p, none⟩) hbk, World.frozen?_of_block (w := w) (a := ⟨g, p, none⟩) hbk]; exact hf p h1 h2
theorem br_new (w : World) (s : ByteArray) (cap : Nat) (hs : s.size ≤ cap) (hm : cap ≤ maxLen) (base : Nat) (hb : base ≤ w.heap.size) : BR (w.drew.alloc (.cells (bytesRow s cap) 5 ((bytesRow s cap).size, (bytesRow s cap).size + 1))) base (.slice (some ⟨w.heap.size, 0, none⟩) s.size cap) s.size (bt s) := by
  have hz : (bytesRow s cap).size = cap := by unfold bytesRow; simp; omega
  have hfz : ∀ p, p < cap → (w.drew.alloc (.cells (bytesRow s cap) 5 ((bytesRow s cap).size, (bytesRow s cap).size + 1))).frozen? ⟨w.heap.size, p, none⟩ = false := fun p hp => by
    have h := World.frozen?_alloc_mark w.drew (bytesRow s cap) 5 (bytesRow s cap).size ((bytesRow s cap).size + 1) p
    rw [show w.drew.heap.size = w.heap.size from rfl] at h
    rw [h, hz]
    simp; omega
  have hcl : ∀ p, (w.drew.alloc (.cells (bytesRow s cap) 5 ((bytesRow s cap).size, (bytesRow s cap).size + 1))).cell? ⟨w.heap.size, p, none⟩ = (bytesRow s cap)[p]? := fun p => by
    have h := World.cell?_alloc_mark w.drew (bytesRow s cap) 5 ((bytesRow s cap).size, (bytesRow s cap).size + 1) p
    rw [show w.drew.heap.size = w.heap.size from rfl] at h
    exact h
  refine ⟨w.heap.size, cap, rfl, hb, hs, hm, by rw [World.size_alloc]; exact Nat.lt_succ_self _, fun p hp => ?_, fun p _ h2 => ⟨?_, hfz p h2⟩⟩
  · rw [hcl, bytesRow_at s cap p hp, ← bt_eq hp]
    rfl
  · rw [hcl]
    simp [hz, h2]
theorem zc_size (k : Nat) : (Builtin.zeroCells (Value.int IntKind.u8 0).cells k).size = k := by rw [size_zeroCells]; simp [Value.cells]
/-- one byte appended -/
theorem run_append_br (w : World) (base : Nat) (ty : TypeId) (v : Value) (n x : Nat) (f : Nat → Nat) (h : BR w base v n f) (hx : x = f n) (ad : Addr) (c : Nat) (hn : w.cell? (ad.add 0) = some (.int .u8 (x : Int))) (hl : n < 1000000000) (hbase : base ≤ w.heap.size) :
    ∃ v' w', (Builtin.append_ #[59, 59] ty #[v, .slice (some ad) 1 c]).run Tryd.prog w = .ok v' w' ∧ BR w' base v' (n + 1) f ∧ w.grownBy w' v.ownBlock := by
  obtain ⟨g, cap, rfl, hb, hnc, hm, hg, hc, hf⟩ := h
  obtain ⟨i0, hi, hz0, hz1, hz2⟩ := info_parts u8_info
  have hnews : ∀ j u, ([.int .u8 (x : Int)] : List Value)[j]? = some u → w.cell? (ad.add j) = some u := fun j u hj => by
    have : j = 0 := by have := (List.getElem?_eq_some_iff.1 hj).1; simp at this; exact this
    subst this
    simp at hj
    rw [hn, hj]
  by_cases hroom : n + 1 ≤ cap
  · have hst := run_storeCells_cells (P := Tryd.prog) g n [.int .u8 (x : Int)] 0 w (fun j hj => by
        have : j = 0 := by simp at hj; exact hj
        subst this; exact (hf n (Nat.le_refl _) (by omega)).1) (fun j hj => by
        have : j = 0 := by simp at hj; exact hj
        subst this; exact (hf n (Nat.le_refl _) (by omega)).2) (by simp [Value.oneCell'])
    have hfc := run_firstCells_some (P := Tryd.prog) w i0.size 1 ad 1 c [.int .u8 (x : Int)] (by rw [hz1]; rfl) hnews
    refine ⟨.slice (some ⟨g, 0, none⟩) (n + 1) cap, w.setCell ⟨g, n, none⟩ (.int .u8 (x : Int)), ?_, ?_, ?_⟩
    · rw [hz1] at hfc
      have hst' : (storeCells ⟨g, n, none⟩ [.int .u8 (x : Int)] 0).run Tryd.prog w = .ok () (w.setCell ⟨g, n, none⟩ (.int .u8 (x : Int))) := hst
      simp [Builtin.append_, run_underlying Tryd.underlying59, sizeOf, typeInfo, hi, hz1, Builtin.lenOf, hroom, hfc, Addr.add_lit, hst']
    · refine ⟨g, cap, rfl, hb, hroom, hm, by simpa [World.setCell] using hg, fun p hp => ?_, fun p h1 h2 => ?_⟩
      · by_cases e : p = n
        · subst e
          obtain ⟨u, hu⟩ := Option.isSome_iff_exists.1 (hf p (Nat.le_refl _) (by omega)).1
          rw [World.cell?_setCell_same _ _ _ hu, hx]
        · rw [World.cell?_setCell_other _ _ _ _ (by simp <;> omega)]
          exact hc p (by omega)
      · rw [World.cell?_setCell_other _ _ _ _ (by simp <;> omega), World.frozen?_setCell]
        exact hf p (by omega) h2
    · exact ⟨rfl, rfl, rfl, by simp [World.setCell], fun k _ hk => Below.heap_setCell _ _ _ _ (fun e => hk (by rw [e]; rfl))⟩
  · have holds : ∀ j u, (bys f n)[j]? = some u → w.cell? ((⟨g, 0, none⟩ : Addr).add j) = some u := fun j u hj => by
      have hjn : j < n := by have := (List.getElem?_eq_some_iff.1 hj).1; rw [bys_len] at this; exact this
      have ha : (⟨g, 0, none⟩ : Addr).add j = ⟨g, j, none⟩ := by unfold Addr.add; split <;> simp_all
      rw [ha, hc j hjn]
      simp [bys, hjn] at hj
      rw [hj]
    have hcap : n = cap := by omega
    have hr := run_append_grow (P := Tryd.prog) w 59 ty 5 i0 (.int .u8 0) Tryd.underlying59 hi hz0 ⟨g, 0, none⟩ n cap (bys f n) (by rw [bys_len, hz1, Nat.mul_one]) holds ad 1 c [.int .u8 (x : Int)] (by rw [hz1]; rfl) hnews (by omega) (by omega) (growslice_fits (by omega) (by rw [hz2]; omega))
    have hge := grownCap_ge w (n + 1) cap 5
    have hcm : grownCap w (n + 1) cap 5 ≤ maxLen := grownCap_le_maxLen w (n + 1) cap 5 (by unfold maxLen; omega)
    generalize grownCap w (n + 1) cap 5 = C at *
    have hblk : (w.drew.alloc (.cells ((bys f n).toArray ++ [Value.int .u8 (x : Int)].toArray ++ Builtin.zeroCells (Value.int IntKind.u8 0).cells (C - (n + 1))) 5)).heap[w.heap.size]? = some (.cells ((bys f n).toArray ++ [Value.int .u8 (x : Int)].toArray ++ Builtin.zeroCells (Value.int IntKind.u8 0).cells (C - (n + 1))) 5 (0, 0)) := heap_alloc_new w.drew _
    refine ⟨_, _, hr, ⟨w.heap.size, C, rfl, hbase, hge, hcm, by rw [World.size_alloc]; exact Nat.lt_succ_self _, fun p hp => ?_, fun p h1 h2 => ⟨?_, ?_⟩⟩, ⟨rfl, rfl, rfl, by simp, fun k hk _ => Below.heap_alloc w.drew _ k hk⟩⟩
    · rw [cell_of_block hblk]
      rw [Array.getElem?_append_left (by simp [bys_len]; omega)]
      by_cases e : p = n
      · subst e
        rw [Array.getElem?_append_right (by simp [bys_len])]
        simp [bys_len, hx]
      · rw [Array.getElem?_append_left (by simp [bys_len]; omega)]
        have hpn : p < n := by omega
        simp [bys, hpn]
    · rw [cell_of_block hblk]
      have hlt : p < ((bys f n).toArray ++ [Value.int .u8 (x : Int)].toArray ++ Builtin.zeroCells (Value.int IntKind.u8 0).cells (C - (n + 1))).size := by
        simp only [Array.size_append, List.size_toArray, bys_len, zc_size, List.length_cons, List.length_nil]; omega
      rw [Array.getElem?_eq_getElem hlt]; rfl
    · exact free_of_block hblk
theorem wpList_append_br {ops : Array Oper} {rest : List Oper} {o : Oper} {a : Act} {Q : Exit → Act → World → Prop} (w : World) (hgd : o.guard = none) (s y : Operand)
    (ho : o.op = .call { callee := .builtin .append, args := #[s, y], argTypes := #[59, 59] })
    (base : Nat) (v : Value) (n x : Nat) (f : Nat → Nat) (hs : a.eval s = v) (h : BR w base v n f) (hx : x = f n) (ad : Addr) (c : Nat) (hy : a.eval y = .slice (some ad) 1 c) (hn : w.cell? (ad.add 0) = some (.int .u8 (x : Int))) (hl : n < 1000000000) (hbase : base ≤ w.heap.size)
    (hk : ∀ v' w', BR w' base v' (n + 1) f → w.grownBy w' v.ownBlock → wpList Tryd.prog ops Q rest (a.put o.dst v') w') : wpList Tryd.prog ops Q (o :: rest) a w :=
  wpList_plain hgd fun _ hK => by
    obtain ⟨v', w', hr, h2, h3⟩ := run_append_br w base o.type v n x f h hx ad c hn hl hbase
    unfold Oper.wp execOp
    simp only [ho, resolve, invoke, builtin, Sem.run_bind, Sem.run_pure, Result.andThen_ok, List.map_toArray, List.map_cons, List.map_nil, hs, hy, hr]
    exact hK _ _ (hk v' w' h2 h3)
/-- a row of bytes in hand, and what was there is as it was -/
def BRel (w wr : World) (f : Nat → Nat) (v : Value) (k : Nat) : Prop := BR wr w.heap.size v k f ∧ Below w.heap.size w wr
theorem bRel_step {w wr w1 : World} {f : Nat → Nat} {v v' : Value} {k : Nat} {o : Obj} (h : BRel w wr f v k) (hown : BR w1 w.heap.size v' (k + 1) f) (hgr : (wr.alloc o).grownBy w1 v.ownBlock) : BRel w w1 f v' (k + 1) := by
  refine ⟨hown, Below.grown (h.2.alloc h.2.size o) hgr ?_ fun g hg => ?_⟩
  · rw [World.size_alloc]; exact Nat.le_succ_of_le h.2.size
  · obtain ⟨g', cap, rfl, hb, _⟩ := h.1
    cases hg; exact hb
theorem new_one (w : World) (x : Int) : (w.alloc (.cells #[.int .u8 x] 5)).cell? ((⟨w.heap.size, 0, none⟩ : Addr).add 0) = some (.int .u8 x) := cell_of_block (c := #[.int .u8 x]) (heap_alloc_new _ _)
end Go.Proofs.YtomcdajoeakhdaaDoor
