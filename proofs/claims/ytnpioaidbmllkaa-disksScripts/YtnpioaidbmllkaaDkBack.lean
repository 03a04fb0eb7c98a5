/- What slices.Backward's iterator does with writes: it yields them, the last one first. -/
import Derived.RangeFuncBox
import Derived.RangeFuncLeaves
import Derived.Shelf.Abstract
import Derived.WalkKit
import Derived.OwnWalkIn
import Derived.TacticsInMore
import Derived.LoopNIn
import Derived.LoopIn
import Derived.Test.YtnpioaidbmllkaaDkSettle
namespace Go.Proofs.Ytnpioaidbmllkaa
open Go.RowKit Go.Shelf
attribute [local go_sem] Oper.semAt_some
/-- what a round keeps: all blocks below n₀ -/
def Kq (n₀ : Nat) (W W' : World) : Prop := W.heap.size ≤ W'.heap.size ∧ ∀ k, k < n₀ → W'.heap[k]? = W.heap[k]?
theorem Kq.refl (n₀ : Nat) (W : World) : Kq n₀ W W := ⟨Nat.le_refl _, fun _ _ => rfl⟩
theorem Kq.trans {n₀ : Nat} {A B C : World} (h : Kq n₀ A B) (k : Kq n₀ B C) : Kq n₀ A C := ⟨Nat.le_trans h.1 k.1, fun i hi => (k.2 i hi).trans (h.2 i hi)⟩
theorem Kq.cell {n₀ : Nat} {W W' : World} (h : Kq n₀ W W') {p : Addr} (h0 : p.block < n₀) : W'.cell? p = W.cell? p := World.cell?_of_block (h.2 p.block h0)
theorem kq_put {n₀ : Nat} {w : World} (hn : n₀ ≤ w.heap.size) (W : World) (l : Nat) (o o' : Obj) (hl : w.heap.size ≤ l) (_ : W.heap[l]? = some o) (_ : o.isCells = false) (_ : o.isWalk = false) : Kq n₀ W (W.putObj l o') :=
  ⟨by simp, fun k hk => World.putObj_heap_other (by omega)⟩
/-- the first k writes that are yielded -/
def revI (ws : List (Nat × ByteArray)) : Nat → List (Nat × Nat × ByteArray)
  | 0 => []
  | k + 1 => revI ws k ++ [(ws.length - 1 - k, ws[ws.length - 1 - k]?.getD (0, ByteArray.empty))]
theorem revI_len (ws : List (Nat × ByteArray)) : ∀ k, (revI ws k).length = k
  | 0 => rfl
  | k + 1 => by rw [revI, List.length_append, revI_len ws k]; rfl
def encB (x : Nat × Nat × ByteArray) : Array Value := #[.int .i64 (x.1 : Int), .agg #[.int .i64 (x.2.1 : Int), .string x.2.2]]
set_option maxRecDepth 100000 in
set_option maxHeartbeats 2000000 in
theorem back1_in (F : Fence) (n : Nat) (hF : F.fn 54) (hro : F.round = none) (hn : 1 ≤ n) (l Bs n₀ g L c : Nat) (a : Option Addr) (ws : List (Nat × ByteArray)) (hL : ws.length = L) (hL6 : L ≤ 9223372036854775807)
    (hb1 : Bs < n₀) (hb2 : 0 < L → a = some ⟨g, 0, none⟩ ∧ g < n₀)
    (J Jx : List (Nat × Nat × ByteArray) → World → Prop)
    (hY : ∀ pre x W, J pre W → pre.length < L → YieldAt F (n - 1) Try.prog l (encB x) W fun e W' =>
      (e = .returned (.bool true) ∧ J (pre ++ [x]) W' ∧ Kq n₀ W W') ∨ (e = .returned (.bool false) ∧ Jx (pre ++ [x]) W'))
    (W : World) (cS : W.cell? ⟨Bs, 0, none⟩ = some (.slice a L c))
    (hcs : ∀ (i : Nat) (x : Nat × ByteArray), ws[i]? = some x → W.cell? ⟨g, i * 2, none⟩ = some (.int .i64 (x.1 : Int)) ∧ W.cell? ⟨g, i * 2 + 1, none⟩ = some (.string x.2)) (h0 : J [] W) :
    CallsIn F n Try.prog 54 #[.func (.yield l) #[] #[], .pointer (some ⟨Bs, 0, none⟩)] W fun e W' => (∃ v, e = .returned v) ∧
      ((∃ ys, ys = revI ws L ∧ J ys W') ∨ (∃ pre, (∃ k, k ≤ L ∧ pre = revI ws k) ∧ Jx pre W')) := by
  have HCS := hide hcs
  have HL := hide hL
  have HS := hide cS
  have HY := hide hY
  clear hcs hL hY
  refine callsIn_of_wp Try.func54 rfl hF ?_ hro
  simp only [Try.ntmps54, List.size_toArray, List.length_cons, List.length_nil, Nat.reduceAdd, Nat.reduceSub, Array.replicate_succ, Array.replicate_zero, List.push_toArray, List.append_toArray, List.nil_append, List.cons_append]
  gi_wp2
  clear cS
  gi_loopw [3] (fun y wr => ∃ m : Nat, m ≤ L ∧ y = .int .i64 ((m : Int) - 1) ∧ J (revI ws (L - m)) wr ∧ Kq n₀ W wr) (fun y _ => (intOf y + 1).toNat)
  case atStart => exact ⟨L, Nat.le_refl _, rfl, by rw [Nat.sub_self]; exact h0, Kq.refl _ _⟩
  case round =>
    obtain ⟨m, hm, rfl, hJs, hk⟩ := hrel
    by_cases h0m : m = 0
    · subst h0m
      gi_wp2
      go_end0
      exact ⟨⟨_, rfl⟩, .inl ⟨_, by rw [Nat.sub_zero], hJs⟩⟩
    · obtain ⟨j, rfl⟩ : ∃ j, m = j + 1 := ⟨m - 1, by omega⟩
      have e1 : (((j + 1 : Nat) : Int) - 1) = (j : Int) := by omega
      rw [e1]
      obtain ⟨x, hx⟩ : ∃ x, ws[j]? = some x := ⟨_, List.getElem?_eq_getElem (by have := HL.out; omega)⟩
      obtain ⟨rfl, hgn⟩ := hb2 (by omega)
      have cB : wr.cell? ⟨Bs, 0, none⟩ = some (.slice (some ⟨g, 0, none⟩) L c) := (hk.cell (p := ⟨Bs, 0, none⟩) hb1).trans HS.out
      have c1 : wr.cell? ⟨g, j * 2, none⟩ = some (.int .i64 (x.1 : Int)) := (hk.cell (p := ⟨g, j * 2, none⟩) hgn).trans (HCS.out j x hx).1
      have c2 : wr.cell? ⟨g, j * 2 + 1, none⟩ = some (.string x.2) := (hk.cell (p := ⟨g, j * 2 + 1, none⟩) hgn).trans (HCS.out j x hx).2
      have HNX : Hid (revI ws (L - (j + 1)) ++ [(j, x)] = revI ws (L - j)) := by
        show _ = _
        rw [show L - j = (L - (j + 1)) + 1 by omega, revI, HL.out, show L - 1 - (L - (j + 1)) = j by omega, hx]; rfl
      have hdi : (j : Int) < (L : Int) := by omega
      have hni : (0 : Int) ≤ (j : Int) := by omega
      have HK := hide hk
      obtain ⟨fn, tmps, assign, body, hy, hR⟩ := HY.out _ (j, x) wr hJs (by rw [revI_len]; omega)
      dsimp only [encB] at hy
      clear hx hk e1 h0m
      gi_wp2
      refine hR.mono ?_
      rintro e W3 (⟨rfl, hJ3, hk3⟩ | ⟨rfl, hJx3⟩)
      · gi_wp2
        go_roundw
        case rel => exact ⟨j, by omega, by simp, by rw [← HNX.out]; exact hJ3, HK.out.trans hk3⟩
        case measure => simp [intOf]
      · gi_wp2
        refine bodyPost_ret (results_none rfl _ _ _) rfl ?_
        exact ⟨⟨_, rfl⟩, .inr ⟨_, ⟨L - j, by omega, HNX.out⟩, hJx3⟩⟩
set_option maxHeartbeats 1000000 in
theorem back_in (F : Fence) (n : Nat) (hF : F.fn 48) (hro : F.round = none) (a : Option Addr) (la ca : Nat) (w : World) :
    CallsIn F n Try.prog 48 #[.slice a la ca] w fun e w' => e = .returned (.func (.func 54) #[] #[.pointer (some ⟨w.heap.size, 0, none⟩)]) ∧
      w' = w.alloc (.cells #[.slice a la ca] 48) := by
  refine callsIn_of_wp Try.func48 rfl hF ?_ hro
  simp only [Try.ntmps48, List.size_toArray, List.length_cons, List.length_nil, Nat.reduceAdd, Nat.reduceSub, Array.replicate_succ, Array.replicate_zero, List.push_toArray, List.append_toArray, List.nil_append, List.cons_append]
  gi_wp2
  go_ret
  exact ⟨rfl, rfl⟩
theorem back_stops (F : Fence) (n : Nat) (hF : F.fn 54) (hro : F.round = none) (hn : 1 ≤ n) (Bs n₀ g L c : Nat) (a : Option Addr) (ws : List (Nat × ByteArray)) (hL : ws.length = L) (hL6 : L ≤ 9223372036854775807)
    (hb1 : Bs < n₀) (hb2 : 0 < L → a = some ⟨g, 0, none⟩ ∧ g < n₀) (w : World) (hn₀ : n₀ ≤ w.heap.size) (cS : w.cell? ⟨Bs, 0, none⟩ = some (.slice a L c))
    (hcs : ∀ (i : Nat) (x : Nat × ByteArray), ws[i]? = some x → w.cell? ⟨g, i * 2, none⟩ = some (.int .i64 (x.1 : Int)) ∧ w.cell? ⟨g, i * 2 + 1, none⟩ = some (.string x.2)) :
    SeqStopsK F n Try.prog 54 #[.pointer (some ⟨Bs, 0, none⟩)] encB (Kq n₀) (fun ys => ys = revI ws L) (fun pre => ∃ k, k ≤ L ∧ pre = revI ws k) L w := fun l J Jx W hW _ _ hY h0 =>
  back1_in F n hF hro hn l Bs n₀ g L c a ws hL hL6 hb1 hb2 J Jx hY W ((hW.cell (p := ⟨Bs, 0, none⟩) (Nat.lt_of_lt_of_le hb1 hn₀)).trans cS)
    (fun i x hx => by
      have hi : 0 < L := by have := (List.getElem?_eq_some_iff.1 hx).1; omega
      have hg := Nat.lt_of_lt_of_le (hb2 hi).2 hn₀
      exact ⟨(hW.cell (p := ⟨g, i * 2, none⟩) hg).trans (hcs i x hx).1, (hW.cell (p := ⟨g, i * 2 + 1, none⟩) hg).trans (hcs i x hx).2⟩) h0
end Go.Proofs.Ytnpioaidbmllkaa
