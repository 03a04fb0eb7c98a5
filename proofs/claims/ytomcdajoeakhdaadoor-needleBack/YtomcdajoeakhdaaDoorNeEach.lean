/- What needle.each's iterator does: it yields each needle with the byte that it begins at, or why there is none. -/
import Derived.RangeFuncBox
import Derived.RangeFuncLeaves
import Derived.Shelf.Abstract
import Derived.WalkKit
import Derived.OwnWalkIn
import Derived.TacticsInMore
import Derived.LoopNIn
import Derived.LoopIn
import Derived.Test.YtomcdajoeakhdaaDoorNeRefAll
namespace Go.Proofs.YtomcdajoeakhdaaDoor
open Go.RowKit Go.Shelf
set_option linter.unusedVariables false
attribute [local go_sem] Oper.semAt_some
/-- what a round keeps: all blocks below n₀, and the block Bs -/
def Kr (n₀ Bs : Nat) (W W' : World) : Prop := W.heap.size ≤ W'.heap.size ∧ (∀ k, k < n₀ → W'.heap[k]? = W.heap[k]?) ∧ W'.heap[Bs]? = W.heap[Bs]?
theorem Kr.refl (n₀ Bs : Nat) (W : World) : Kr n₀ Bs W W := ⟨Nat.le_refl _, fun _ _ => rfl, rfl⟩
theorem Kr.trans {n₀ Bs : Nat} {A B C : World} (h : Kr n₀ Bs A B) (k : Kr n₀ Bs B C) : Kr n₀ Bs A C := ⟨Nat.le_trans h.1 k.1, fun i hi => (k.2.1 i hi).trans (h.2.1 i hi), k.2.2.trans h.2.2⟩
theorem Kr.of_below {n₀ Bs : Nat} {A B : World} (h : Below A.heap.size A B) (h1 : n₀ ≤ A.heap.size) (h2 : Bs < A.heap.size) : Kr n₀ Bs A B := ⟨h.size, fun k hk => h.block k (by omega), h.block Bs h2⟩
theorem Kr.kat {n₀ Bs : Nat} {A B : World} (h : Kr n₀ Bs A B) (hK : KAt A) (h0 : 0 < n₀) : KAt B := ⟨Nat.lt_of_lt_of_le hK.1 h.1, fun i hi => (World.cell?_of_block (h.2.1 0 h0)).trans (hK.2 i hi)⟩
/-- what is yielded: the byte that it begins at, the needle, the fault -/
structure It where
  at_ : Nat
  nd : Nd
  f : Int
noncomputable def itm (s : ByteArray) (k : Nat) : It := ⟨offF s (stL s k), nrN (stL s k), nrE (stL s k)⟩
noncomputable def its (s : ByteArray) (k : Nat) : List It := (List.range k).map (itm s)
theorem its_len (s : ByteArray) (k : Nat) : (its s k).length = k := by simp [its]
theorem its_succ (s : ByteArray) (k : Nat) : its s (k + 1) = its s k ++ [itm s k] := by unfold its; rw [List.range_succ, List.map_append]; rfl
def encI (x : It) : Array Value := #[.int .i64 (x.at_ : Int), .agg #[.string x.nd.k, .string x.nd.v, .int .i64 x.f]]
/-- something is left behind each of the first k -/
def LeftN (s : ByteArray) (k : Nat) : Prop := ∀ j, j < k → (stL s j).size ≠ 0
theorem nrR_small {s : ByteArray} (h : s.size ≠ 0) : (nrR s).size < s.size := by
  by_cases e : nrE s = 0
  · exact nrR_less e
  · unfold nrR; rw [if_neg e]; show 0 < _; omega
theorem LeftN.small {s : ByteArray} : ∀ {k : Nat}, LeftN s k → (stL s k).size + k ≤ s.size
  | 0, _ => Nat.le_refl _
  | k + 1, h => by
    have h1 := LeftN.small (k := k) fun j hj => h j (by omega)
    have := nrR_small (h k (by omega))
    show (nrR (stL s k)).size + (k + 1) ≤ _
    omega
theorem grown_none {W W' : World} (h : Below W.heap.size W W') : W.grownBy W' none := ⟨h.os, h.tape, h.output, h.size, fun k hk _ => h.block k hk⟩
/-- a found needle in a block of its own -/
def FBx (bx : Nat) (n : Nd) (e : Int) (w : World) : Prop := w.heap[bx]? = some (.cells #[.string n.k, .string n.v, .int .i64 e] 74 (0, 0))
theorem FBx.cells {bx : Nat} {n : Nd} {e : Int} {w : World} (h : FBx bx n e w) : (w.cell? ⟨bx, 0, none⟩ = some (.string n.k) ∧ w.cell? ⟨bx, 1, none⟩ = some (.string n.v) ∧ w.cell? ⟨bx, 2, none⟩ = some (.int .i64 e)) ∧ (w.frozen? ⟨bx, 0, none⟩ = false ∧ w.frozen? ⟨bx, 1, none⟩ = false ∧ w.frozen? ⟨bx, 2, none⟩ = false) :=
  ⟨⟨cell_of_block h, cell_of_block h, cell_of_block h⟩, free_of_block h, free_of_block h, free_of_block h⟩
set_option maxRecDepth 100000 in
set_option maxHeartbeats 2000000 in
theorem each1_in (n : Nat) (hn : 1 ≤ n) (l Bs n₀ : Nat) (s : ByteArray) (hs : s.size ≤ 10000) (h0n : 0 < n₀)
    (J Jx : List It → World → Prop) (W : World) (hJ : AbidesFrom W.heap.size J)
    (hY : ∀ pre x W, J pre W → pre.length < s.size + 1 → YieldAt Fence.wide (n - 1) Tryd.prog l (encI x) W fun e W' =>
      (e = .returned (.bool true) ∧ J (pre ++ [x]) W' ∧ Kr n₀ Bs W W') ∨ (e = .returned (.bool false) ∧ Jx (pre ++ [x]) W'))
    (hK : KAt W) (hn0 : n₀ ≤ W.heap.size) (cS : W.heap[Bs]? = some (.cells #[.string s] 9 (0, 0))) (h0 : J [] W) :
    CallsIn Fence.wide n Tryd.prog 59 #[.func (.yield l) #[] #[], .pointer (some ⟨Bs, 0, none⟩)] W fun e W' => (∃ v, e = .returned v) ∧
      ((∃ ys, (∃ k, ys = its s k ∧ LeftN s k ∧ (stL s k).size = 0) ∧ J ys W') ∨ (∃ pre, (∃ k, pre = its s k ∧ LeftN s k) ∧ Jx pre W')) := by
  have cS0 : W.cell? ⟨Bs, 0, none⟩ = some (.string s) := cell_of_block cS
  have HBs : Hid (Bs < W.heap.size) := lt_of_block cS
  have HS := hide cS
  have HY := hide hY
  have HJ := hide hJ
  have HK := hide hK
  clear hY hJ hK cS
  refine callsIn_of_wp Tryd.func59 rfl trivial ?_ rfl
  simp only [Tryd.ntmps59, List.size_toArray, List.length_cons, List.length_nil, Nat.reduceAdd, Nat.reduceSub, Array.replicate_succ, Array.replicate_zero, List.push_toArray, List.append_toArray, List.nil_append, List.cons_append]
  gi_wp2
  clear cS0
  gi_loopw [3] (fun y wr => ∃ k : Nat, LeftN s k ∧ y = .string (stL s k) ∧ J (its s k) wr ∧ Kr n₀ Bs W wr) (fun y _ => ndLen y)
  case atStart => exact ⟨0, fun j hj => by omega, rfl, h0, Kr.refl _ _ _⟩
  case round =>
    obtain ⟨k, hk, rfl, hJs, hkr⟩ := hrel
    have HL := hide hk
    have hsm := hk.small
    by_cases h0m : (stL s k).size = 0
    · have he := is_empty h0m
      have H0 := hide h0m
      clear hk
      gi_wp2
      go_end0
      exact ⟨⟨_, rfl⟩, .inl ⟨_, ⟨k, rfl, HL.out, H0.out⟩, hJs⟩⟩
    · have he := not_empty h0m
      have HNE := hide h0m
      have cB : wr.cell? ⟨Bs, 0, none⟩ = some (.string s) := cell_of_block (hkr.2.2.trans HS.out)
      have HKr := hide hkr
      have HJs := hide hJs
      have HK2 := hide (hkr.kat HK.out h0n)
      have HBw : Hid (Bs < wr.heap.size) := Nat.lt_of_lt_of_le HBs.out hkr.1
      clear hk hkr hJs
      have hzk := stL_size s k
      have HF := hide (offF_int s k)
      have hal : Below wr.heap.size wr (wr.alloc (.cells #[.string ⟨#[]⟩, .string ⟨#[]⟩, .int .i64 0] 74)) := (Below.refl _ _).alloc (Nat.le_refl _) _
      have HA := hide hal
      have H1 := hide (nread_any (stL s k) (wr.alloc (.cells #[.string ⟨#[]⟩, .string ⟨#[]⟩, .int .i64 0] 74)) (HK2.out.below hal) (by omega))
      have FB : Hid (FBx wr.heap.size Nd.zero 0 (wr.alloc (.cells #[.string ⟨#[]⟩, .string ⟨#[]⟩, .int .i64 0] 74))) := heap_alloc_new wr _
      have HLess := hide (nrR_small HNE.out)
      have HST : Hid (stL s (k + 1) = nrR (stL s k)) := rfl
      have HIT : Hid (its s (k + 1) = its s k ++ [⟨offF s (stL s k), nrN (stL s k), nrE (stL s k)⟩]) := its_succ s k
      have HLN : Hid (LeftN s (k + 1)) := fun j hj => by
        by_cases e : j = k
        · rw [e]; exact HNE.out
        · exact HL.out j (by omega)
      clear hal
      generalize hX : stL s k = X at *
      have HX := hide hX
      clear hX
      generalize nrE X = E at *
      generalize nrR X = R at *
      generalize offF s X = O at *
      generalize hND : nrN X = ND at *
      clear hND
      obtain ⟨K, V⟩ := ND
      simp only [ncs] at H1
      gi_wp2_with fail
      refine ⟨trivial, (callsIn_wide.2 H1.out).mono ?_⟩
      rintro e w2 ⟨rfl, hb⟩
      rw [HF.out]
      have hb' : Below wr.heap.size wr w2 := HA.out.trans (hb.mono HA.out.size)
      have F2 : FBx wr.heap.size Nd.zero 0 w2 := (hb.block wr.heap.size (by rw [World.size_alloc]; omega)).trans FB.out
      obtain ⟨⟨c0, c1, c2⟩, f0, f1, f2⟩ := F2.cells
      have F4 : FBx wr.heap.size ⟨K, V⟩ E (((w2.setCell ⟨wr.heap.size, 0, none⟩ (.string K)).setCell ⟨wr.heap.size, 1, none⟩ (.string V)).setCell ⟨wr.heap.size, 2, none⟩ (.int .i64 E)) := block_setCell _ (block_setCell _ (block_setCell _ F2))
      obtain ⟨⟨d0, d1, d2⟩, -⟩ := F4.cells
      have B4 : Below wr.heap.size wr (((w2.setCell ⟨wr.heap.size, 0, none⟩ (.string K)).setCell ⟨wr.heap.size, 1, none⟩ (.string V)).setCell ⟨wr.heap.size, 2, none⟩ (.int .i64 E)) := ((hb'.setCell (p := ⟨wr.heap.size, 0, none⟩) (Nat.le_refl _) _).setCell (p := ⟨wr.heap.size, 1, none⟩) (Nat.le_refl _) _).setCell (p := ⟨wr.heap.size, 2, none⟩) (Nat.le_refl _) _
      have J4 := HJ.out _ wr _ none HJs.out (grown_none B4) (fun r e => by cases e)
      have K4 := hide (Kr.of_below (n₀ := n₀) (Bs := Bs) B4 (Nat.le_trans hn0 HKr.out.1) HBw.out)
      obtain ⟨fn, tmps, assign, body, hy, hR⟩ := HY.out _ ⟨O, ⟨K, V⟩, E⟩ _ J4 (by rw [its_len]; omega)
      dsimp only [encI] at hy
      simp only at d0 d1 d2
      clear hb hb' F2 F4 B4 J4 H1 FB HA cB
      gi_wp2
      refine hR.mono ?_
      rintro e W5 (⟨rfl, hJ5, hk5⟩ | ⟨rfl, hJx5⟩)
      · gi_wp2
        go_roundw
        case rel => exact ⟨k + 1, HLN.out, by rw [HST.out], by rw [HIT.out]; exact hJ5, HKr.out.trans (K4.out.trans hk5)⟩
        case measure => exact HLess.out
      · gi_wp2
        refine bodyPost_ret (results_none rfl _ _ _) rfl ?_
        exact ⟨⟨_, rfl⟩, .inr ⟨_, ⟨k + 1, HIT.out.symm, HLN.out⟩, hJx5⟩⟩
set_option maxHeartbeats 1000000 in
theorem each_in (n : Nat) (s : ByteArray) (w : World) :
    CallsIn Fence.wide n Tryd.prog 41 #[.string s] w fun e w' => e = .returned (.func (.func 59) #[] #[.pointer (some ⟨w.heap.size, 0, none⟩)]) ∧ w' = w.alloc (.cells #[.string s] 9) := by
  refine callsIn_of_wp Tryd.func41 rfl trivial ?_ rfl
  simp only [Tryd.ntmps41, List.size_toArray, List.length_cons, List.length_nil, Nat.reduceAdd, Nat.reduceSub, Array.replicate_succ, Array.replicate_zero, List.push_toArray, List.append_toArray, List.nil_append, List.cons_append]
  gi_wp2
  go_ret
  exact ⟨rfl, rfl⟩
theorem each_stops (n : Nat) (hn : 1 ≤ n) (Bs n₀ : Nat) (s : ByteArray) (hs : s.size ≤ 10000) (h0n : 0 < n₀) (w : World) (hK : KAt w) (hn0 : n₀ ≤ w.heap.size) (cS : w.heap[Bs]? = some (.cells #[.string s] 9 (0, 0))) :
    SeqStopsK Fence.wide n Tryd.prog 59 #[.pointer (some ⟨Bs, 0, none⟩)] encI (Kr n₀ Bs) (fun ys => ∃ k, ys = its s k ∧ LeftN s k ∧ (stL s k).size = 0) (fun pre => ∃ k, pre = its s k ∧ LeftN s k) (s.size + 1) w := fun l J Jx W hW hJ _ hY h0 =>
  each1_in n hn l Bs n₀ s hs h0n J Jx W hJ hY (hK.below hW) (Nat.le_trans hn0 hW.size) ((hW.block Bs (lt_of_block cS)).trans cS) h0
end Go.Proofs.YtomcdajoeakhdaaDoor
