/- What a disk's read answers: the walk. -/
import Derived.Test.YtnpioaidbmllkaaDkRead
namespace Go.Proofs.Ytnpioaidbmllkaa
open Go.RowKit Go.Shelf
attribute [local go_sem] Oper.semAt_some
theorem wait_rows {w : World} {b : Nat} {D : Nat → Dk} (h : Bk w b D) {d : Nat} (hd : d < 12) : ∃ a g c, (D d).wv = .slice a (D d).ws.length c ∧ (D d).ws.length ≤ 9223372036854775807 ∧ (0 < (D d).ws.length → a = some ⟨g, 0, none⟩ ∧ g < w.heap.size) ∧ ∀ (i : Nat) (x : Nat × ByteArray), (D d).ws[i]? = some x → w.cell? ⟨g, i * 2, none⟩ = some (.int .i64 (x.1 : Int)) ∧ w.cell? ⟨g, i * 2 + 1, none⟩ = some (.string x.2) := by
  have hr := h.rows d hd
  obtain ⟨hl, ⟨h1, h2⟩ | ⟨g, cap, cur, hv, hb, hg, hc, hm, hz, ht⟩⟩ := hr
  · refine ⟨none, 0, 0, by rw [h1, h2], by omega, fun h0 => by omega, fun i x hx => ?_⟩
    have := (List.getElem?_eq_some_iff.1 hx).1
    omega
  · refine ⟨some ⟨g, 0, none⟩, g, cap, hv, Nat.le_trans hc hm, fun _ => ⟨rfl, lt_of_block hg⟩, fun i x hx => ?_⟩
    have hi : i < (D d).ws.length := (List.getElem?_eq_some_iff.1 hx).1
    have hcell : ∀ p, p < (D d).ws.length * 2 → w.cell? ⟨g, p, none⟩ = (wtV (D d).ws)[p]? := fun p hp => by
      rw [cell_of_block hg, ← ht, List.getElem?_take, if_pos hp, Array.getElem?_toList]
    have hw := wtV_at hx
    exact ⟨by rw [hcell _ (by omega), show i * 2 = 2 * i by omega, hw.1], by rw [hcell _ (by omega), show i * 2 + 1 = 2 * i + 1 by omega, hw.2]⟩
/-- the invariant of the rounds -/
def RdI (w : World) (n : Nat) (a : Option Addr) (L c : Nat) (pre : List (Nat × Nat × ByteArray)) (W : World) : Prop := (∀ x ∈ pre, x.2.1 ≠ n) ∧ Below (w.heap.size + 3) (rdW w n a L c) W
theorem rdI_own (w : World) (n : Nat) (a : Option Addr) (L c : Nat) : OwnFrom (w.heap.size + 3) (RdI w n a L c) :=
  OwnFrom.and (ownFrom_pure _ _) (ownFrom_below (by rw [rdW_size]; exact Nat.le_refl _) (Nat.le_refl _))
/-- Q, but nothing at a panic -/
def Calm (Q : Exit → Act → World → Prop) : Exit → Act → World → Prop
  | .panic _, _, _ => False
  | e, a, w => Q e a w
theorem calm_imp {Q : Exit → Act → World → Prop} : ∀ (e : Exit) (a : Act) (w : World), Calm Q e a w → Q e a w := fun e a w h => by
  cases e <;> first | exact h | exact (h : False).elim
theorem wpIn_calm {F : Fence} {n : Nat} {P : Program} {c : Code} {Q : Exit → Act → World → Prop} {a : Act} {w : World} (h : c.wpIn F n P (Calm Q) a w) : c.wpIn F n P Q a w :=
  wpIn_mono h calm_imp
theorem calm_normal {Q : Exit → Act → World → Prop} {a : Act} {w : World} (h : Q .normal a w) : Calm Q .normal a w := h
theorem res_read (tmps : Array Value) (w : World) (g : Nat) (s : ByteArray) (hp : tmps.getD 4 undef = .pointer (some ⟨g, 0, none⟩)) (hc : w.cell? ⟨g, 0, none⟩ = some (.string s)) : (results Try.f33 tmps).run Try.prog w = .ok (.string s) w := by
  have hp' : tmps[4]?.getD undef = .pointer (some ⟨g, 0, none⟩) := by simpa using hp
  simp [results, go_sem, hp', loadVar, isAgg, run_underlying Try.underlying9, hc]
theorem cell_put {W : World} {k l : Nat} {s : ByteArray} {t : TypeId} {o : Obj} (h : W.heap[k]? = some (.cells #[.string s] t (0, 0))) (hne : k ≠ l) : (W.putObj l o).cell? ⟨k, 0, none⟩ = some (.string s) :=
  cell_of_block (c := #[.string s]) ((World.putObj_heap_other hne).trans h)
set_option maxRecDepth 100000 in
set_option maxHeartbeats 1500000 in
theorem readK_any (b d n : Nat) (D : Nat → Dk) (w : World) (h : Bk w b D) (hd : d < 12) (hn : n < 112) :
    Calls Try.prog 33 #[.pointer (some ⟨b, d * 114, none⟩), .int .i64 (n : Int)] w fun e w' => e = .returned (.string (secW (D d).sec (D d).ws n)) ∧ Below w.heap.size w w' := by
  have hB1 : Below w.heap.size w ((w.alloc (.cells #[.int .i64 (n : Int)] 3)).alloc (.cells #[.string ⟨#[]⟩] 9)) := ((Below.refl _ w).alloc (Nat.le_refl _) _).alloc (by simp) _
  obtain ⟨a, g, c, hv, hL6, hag, hcl⟩ := wait_rows h hd
  have hc := (h.below hB1).wait hd
  rw [hv] at hc
  have H := hide h
  have HCL := hide hcl
  have HAG := hide hag
  clear h hv hcl hag hB1
  generalize hL : (D d).ws.length = L at *
  have HL := hide hL
  clear hL
  refine (callsIn_wide (n := 5)).1 ?_
  refine callsIn_of_wp_marks Try.func33 rfl trivial ?_ rfl
  simp only [Try.ntmps33, List.size_toArray, List.length_cons, List.length_nil, Nat.reduceAdd, Nat.reduceSub, Array.replicate_succ, Array.replicate_zero, List.push_toArray, List.append_toArray, List.nil_append, List.cons_append]
  gi_wp2_with (refine ⟨trivial, ?_⟩; gi_at_call 48; refine (back_in Fence.wide _ trivial rfl _ _ _ _).mono ?_; rintro e w' ⟨rfl, rfl⟩)
  clear hc
  have hsz := rdW_size w n a L c
  have hbW := rdW_below w n a L c
  refine wpIn_rangeFunc_ownH (n := 5) (F := Fence.wide) rfl (by omega) (gf := 54) (lb := #[.pointer (some ⟨w.heap.size + 2, 0, none⟩)]) rfl trivial (enters_of Try.func54 (by kernel_rfl) rfl)
    (back_stops Fence.wide (5 - 1) trivial rfl (by omega) (w.heap.size + 2) (w.heap.size + 3) g L c a (D d).ws HL.out hL6 (by omega) (fun h0 => ⟨(HAG.out h0).1, by have := (HAG.out h0).2; omega⟩) (rdW w n a L c) (by omega) (cell_of_block (rdW_s w n a L c)) (fun i x hx => by
      have hg := (HAG.out (by have := (List.getElem?_eq_some_iff.1 hx).1; have := HL.out; omega)).2
      exact ⟨(hbW.cell (p := ⟨g, i * 2, none⟩) hg).trans (HCL.out i x hx).1, (hbW.cell (p := ⟨g, i * 2 + 1, none⟩) hg).trans (HCL.out i x hx).2⟩))
    Kq.trans (kq_put (by simp)) (Below.refl _ _) (fun _ => rfl) (RdI w n a L c) (RdX w n)
    (by have := rdI_own w n a L c; simpa using this) (by intro cc; have := rdX_own w n cc; simpa using this)
    ⟨fun _ hx => (by cases hx), Below.refl _ _⟩ (RdAx b d n w a L c) (fun x a' => rdAx_own b d n w a L c _ x a') ?assign ?body ?done ?stop
  case assign =>
    intro l pre x W K hI hK
    simp only [encB]
    have hWs : w.heap.size + 3 ≤ W.heap.size := by have := hI.2.size; omega
    gi_wp2
    exact hK _ _ (keeps_alloc _ _ _) ⟨by simp, fun k hk => Below.heap_alloc _ _ _ (by omega)⟩ ⟨hI.1, hI.2.alloc (by omega) _⟩ ⟨W.heap.size, rfl, by omega, heap_alloc_new _ _⟩
  case body =>
    rintro l pre x a' W hl hr hI ⟨bx, rfl, hbx, hcb⟩ hlt
    have c1 : W.cell? ⟨bx, 0, none⟩ = some (.int .i64 (x.2.1 : Int)) := cell_of_block hcb
    have c2 : W.cell? ⟨bx, 1, none⟩ = some (.string x.2.2) := cell_of_block hcb
    have cN : W.cell? ⟨w.heap.size, 0, none⟩ = some (.int .i64 (n : Int)) := cell_of_block ((hI.2.block w.heap.size (by omega)).trans (rdW_n w n a L c))
    have hR := (hI.2.block (w.heap.size + 1) (by omega)).trans (rdW_r w n a L c)
    have cR : W.cell? ⟨w.heap.size + 1, 0, none⟩ = some (.string ⟨#[]⟩) := cell_of_block hR
    have fR : W.frozen? ⟨w.heap.size + 1, 0, none⟩ = false := free_of_block hR
    have HI := hide hI
    have HR := hide hR
    have hWs : w.heap.size + 3 ≤ W.heap.size := by have := hI.2.size; omega
    clear hI hR hcb hr
    unfold rdA
    by_cases he : x.2.1 = n
    · have hq : ((x.2.1 : Int) == (n : Int)) = true := by rw [he]; simp
      have HE := hide he
      clear he
      gi_wp2
      refine ⟨keeps_set _ _ (by simp) _, rfl, ⟨x, pre, rfl, HE.out, HI.out.1, block_setCell _ HR.out⟩, ?_, by simp [World.setCell]; omega⟩
      exact (hbW.trans (HI.out.2.mono (by omega))).setCell (by show _ ≤ w.heap.size + 1; omega) _
    · have hq : ((x.2.1 : Int) == (n : Int)) = false := by simp; omega
      have HE := hide he
      clear he
      gi_wp2
      refine ⟨KeepsFrom.refl _ _, Kq.refl _ _, fun y hy => ?_, HI.out.2⟩
      rcases List.mem_append.1 hy with hy | hy
      · exact HI.out.1 y hy
      · rw [List.mem_singleton.1 hy]; exact HE.out
  case done =>
    rintro Dd ys W hD rfl ⟨hnone, hB⟩ hK
    have hD' : w.heap.size + 3 ≤ Dd := by simpa using hD
    have hWs : w.heap.size + 3 ≤ W.heap.size := by have := hB.size; omega
    have cN : W.cell? ⟨w.heap.size, 0, none⟩ = some (.int .i64 (n : Int)) := cell_of_block ((hB.block w.heap.size (by omega)).trans (rdW_n w n a L c))
    have hR := (hB.block (w.heap.size + 1) (by omega)).trans (rdW_r w n a L c)
    have cR : W.cell? ⟨w.heap.size + 1, 0, none⟩ = some (.string ⟨#[]⟩) := cell_of_block hR
    have fR : W.frozen? ⟨w.heap.size + 1, 0, none⟩ = false := free_of_block hR
    have hWB : Below w.heap.size w W := hbW.trans (hB.mono (by omega))
    have cS := (H.out.below hWB).sector hd hn
    have hni : (0 : Int) ≤ (n : Int) := by omega
    have hnl : (n : Int) < 112 := by omega
    have HRES : Hid (secW (D d).sec (D d).ws n = (D d).sec n) := secW_none (revI_none (by rw [HL.out]; exact hnone))
    have HK := hide hK
    have HR := hide hR
    have HWB := hide hWB
    have HD : Hid (w.heap.size + 3 ≤ Dd) := hD'
    clear hR hK hWB hD' hB hnone hD
    gi_wp2
    refine wpIn_calm ?_
    gi_region_with fail
    all_goals
      refine calm_normal ?_
      gi_wp2
      have hne : Dd ≠ w.heap.size + 1 := by have := HD.out; omega
      have hS2 : Below w.heap.size w (W.setCell ⟨w.heap.size + 1, 0, none⟩ (.string ((D d).sec n))).drew := (HWB.out.setCell (by show _ ≤ w.heap.size + 1; omega) _).drew
      have hR2 : (W.setCell ⟨w.heap.size + 1, 0, none⟩ (.string ((D d).sec n))).drew.heap[w.heap.size + 1]? = some (.cells #[.string ((D d).sec n)] 9 (0, 0)) := block_setCell _ HR.out
      have hK2 : (W.setCell ⟨w.heap.size + 1, 0, none⟩ (.string ((D d).sec n))).drew.heap[Dd]? = some (.deferred (some [])) := (Below.heap_setCell _ _ _ _ hne).trans HK.out
      generalize (W.setCell ⟨w.heap.size + 1, 0, none⟩ (.string ((D d).sec n))).drew = W2 at *
      refine ⟨by simp, .inl ⟨_, _, rfl, run_takeDeferred hK2, ?_⟩⟩
      refine ⟨_, res_read _ _ _ _ rfl (cell_put hR2 (fun e => hne e.symm)), by rw [HRES.out], ?_⟩
      exact ⟨hS2.os, hS2.tape, hS2.output, by simpa using hS2.size, fun k hk => (World.putObj_heap_other (by have := HD.out; omega)).trans (hS2.block k hk)⟩
  case stop =>
    rintro Dd cc pre W hD ⟨k, hk, hpre⟩ ⟨rfl, ⟨x, pre', rfl, h1, h2, h3⟩, hB, hz⟩ hK
    have HRES : Hid (secW (D d).sec (D d).ws n = x.2.2) := secW_last (by rw [HL.out]; exact hk) hpre h1 h2
    have cR : W.cell? ⟨w.heap.size + 1, 0, none⟩ = some (.string x.2.2) := cell_of_block h3
    gi_wp2
    refine ⟨by simp, .inl ⟨_, _, rfl, run_takeDeferred hK, ?_⟩⟩
    have hD' : w.heap.size + 3 ≤ Dd := by simpa using hD
    refine ⟨_, res_read _ _ _ _ rfl (cell_put h3 (by omega)), by rw [HRES.out], ?_⟩
    exact ⟨hB.os, hB.tape, hB.output, by simpa using hB.size, fun k hk => (World.putObj_heap_other (by omega)).trans (hB.block k hk)⟩
end Go.Proofs.Ytnpioaidbmllkaa
