/- What code.present's iterator does: it yields the shards that there are, each with its index, rising. -/
import Derived.RangeFuncBox
import Derived.RangeFuncLeaves
import Derived.Shelf.Abstract
import Derived.Test.YteiddjjakemklabCdSolve
import Derived.WalkKit
import Derived.OwnWalkIn
import Derived.TacticsInMore
import Derived.LoopNIn
import Derived.LoopIn
import Derived.Maps.AppendAt
namespace Go.Proofs.Yteiddjjakemklab
open Go.RowKit Go.Shelf
attribute [local go_sem] Oper.semAt_some
/-- what a round keeps: all blocks below n₀ but two -/
def Kp (n₀ bi bt : Nat) (W W' : World) : Prop := W.heap.size ≤ W'.heap.size ∧ ∀ k, k < n₀ → k ≠ bi → k ≠ bt → W'.heap[k]? = W.heap[k]?
theorem Kp.refl (n₀ bi bt : Nat) (W : World) : Kp n₀ bi bt W W := ⟨Nat.le_refl _, fun _ _ _ _ => rfl⟩
theorem Kp.trans {n₀ bi bt : Nat} {A B C : World} (h : Kp n₀ bi bt A B) (k : Kp n₀ bi bt B C) : Kp n₀ bi bt A C :=
  ⟨Nat.le_trans h.1 k.1, fun i hi h1 h2 => (k.2 i hi h1 h2).trans (h.2 i hi h1 h2)⟩
theorem Kp.cell {n₀ bi bt : Nat} {W W' : World} (h : Kp n₀ bi bt W W') {p : Addr} (h0 : p.block < n₀) (h1 : p.block ≠ bi) (h2 : p.block ≠ bt) : W'.cell? p = W.cell? p :=
  World.cell?_of_block (h.2 p.block h0 h1 h2)
theorem kp_put {n₀ bi bt : Nat} {w : World} (hn : n₀ ≤ w.heap.size) (W : World) (l : Nat) (o o' : Obj) (hl : w.heap.size ≤ l) (_ : W.heap[l]? = some o) (_ : o.isCells = false) (_ : o.isWalk = false) : Kp n₀ bi bt W (W.putObj l o') :=
  ⟨by simp, fun k hk _ _ => World.putObj_heap_other (by omega)⟩
/-- the shards that there are among the first k -/
def selTo (ls : List ByteArray) (hv : List Bool) : Nat → List (Nat × ByteArray)
  | 0 => []
  | k + 1 => selTo ls hv k ++ (if hv[k]?.getD false then [(k, ls[k]?.getD ByteArray.empty)] else [])
theorem selTo_len (ls : List ByteArray) (hv : List Bool) : ∀ k, (selTo ls hv k).length ≤ k := by
  intro k
  induction k with
  | zero => simp [selTo]
  | succ k ih => simp only [selTo, List.length_append]; split <;> simp <;> omega
def BoolsAt (w : World) (a : Option Addr) (l : List Bool) : Prop := l = [] ∨ ∃ b o, a = some ⟨b, o, none⟩ ∧ b < w.heap.size ∧ ∀ (i : Nat) (s : Bool), l[i]? = some s → w.cell? ⟨b, o + i, none⟩ = some (.bool s)
def encP (x : Nat × ByteArray) : Array Value := #[.int .i64 (x.1 : Int), .string x.2]
set_option maxRecDepth 100000 in
set_option maxHeartbeats 2000000 in
theorem present1_in (F : Fence) (n : Nat) (hF : F.fn 34) (hro : F.round = none) (hn : 1 ≤ n) (l Bs Bh n₀ bi bt bs o bh oh caps caph : Nat) (ls : List ByteArray) (hv : List Bool)
    (hb2 : Bh < n₀ ∧ Bh ≠ bi ∧ Bh ≠ bt) (hb3 : bs < n₀ ∧ bs ≠ bi ∧ bs ≠ bt) (hb4 : bh < n₀ ∧ bh ≠ bi ∧ bh ≠ bt) (hls : ls.length = 9) (hhv : hv.length = 9)
    (J Jx : List (Nat × ByteArray) → World → Prop)
    (hY : ∀ pre x W, J pre W → pre.length < 9 → YieldAt F (n - 1) Try.prog l (encP x) W fun e W' =>
      (e = .returned (.bool true) ∧ J (pre ++ [x]) W' ∧ Kp n₀ bi bt W W') ∨ (e = .returned (.bool false) ∧ Jx (pre ++ [x]) W'))
    (W : World) (cS : W.cell? ⟨Bs, 0, none⟩ = some (.slice (some ⟨bs, o, none⟩) 9 caps)) (cH : W.cell? ⟨Bh, 0, none⟩ = some (.slice (some ⟨bh, oh, none⟩) 9 caph))
    (hcs : ∀ (i : Nat) (s : ByteArray), ls[i]? = some s → W.cell? ⟨bs, o + i, none⟩ = some (.string s)) (hch : ∀ (i : Nat) (s : Bool), hv[i]? = some s → W.cell? ⟨bh, oh + i, none⟩ = some (.bool s)) (h0 : J [] W) :
    CallsIn F n Try.prog 34 #[.func (.yield l) #[] #[], .pointer (some ⟨Bs, 0, none⟩), .pointer (some ⟨Bh, 0, none⟩)] W fun e W' => (∃ v, e = .returned v) ∧
      ((∃ ys, ys = selTo ls hv 9 ∧ J ys W') ∨ (∃ pre, True ∧ Jx pre W')) := by
  have HCS := hide hcs
  have HCH := hide hch
  have HLS := hide hls
  have HHV := hide hhv
  have HCB := hide cH
  clear hcs hch hls hhv cH
  refine callsIn_of_wp Try.func34 rfl hF ?_ hro
  simp only [Try.ntmps34, List.size_toArray, List.length_cons, List.length_nil, Nat.reduceAdd, Nat.reduceSub, Array.replicate_succ, Array.replicate_zero, List.push_toArray, List.append_toArray, List.nil_append, List.cons_append]
  gi_wp2
  gi_loopw [8] (fun i wr => ∃ k : Nat, k ≤ 9 ∧ i = .int .i64 k ∧ J (selTo ls hv k) wr ∧ Kp n₀ bi bt W wr) (fun i _ => 9 - (intOf i).toNat)
  case atStart => exact ⟨0, Nat.zero_le _, rfl, h0, Kp.refl _ _ _ _⟩
  case round =>
    obtain ⟨k, hk, rfl, hJs, hnx⟩ := hrel
    by_cases hlt : k < 9
    · obtain ⟨s, hs⟩ : ∃ s, ls[k]? = some s := ⟨_, List.getElem?_eq_getElem (by have := HLS.out; omega)⟩
      obtain ⟨t, ht⟩ : ∃ t, hv[k]? = some t := ⟨_, List.getElem?_eq_getElem (by have := HHV.out; omega)⟩
      have c1 : wr.cell? ⟨bs, o + k, none⟩ = some (.string s) := (hnx.cell (p := ⟨bs, o + k, none⟩) hb3.1 hb3.2.1 hb3.2.2).trans (HCS.out k s hs)
      have c2 : wr.cell? ⟨Bh, 0, none⟩ = some (.slice (some ⟨bh, oh, none⟩) 9 caph) := (hnx.cell (p := ⟨Bh, 0, none⟩) hb2.1 hb2.2.1 hb2.2.2).trans HCB.out
      have c3 : wr.cell? ⟨bh, oh + k, none⟩ = some (.bool t) := (hnx.cell (p := ⟨bh, oh + k, none⟩) hb4.1 hb4.2.1 hb4.2.2).trans (HCH.out k t ht)
      have HS : Hid (selTo ls hv (k + 1) = selTo ls hv k ++ (if t then [(k, s)] else [])) := by unfold Hid; rw [selTo, hs, ht]; rfl
      have HK := hide hnx
      clear hs ht hnx
      cases t with
      | false =>
        gi_wp2
        refine ⟨fun _ h => (by cases h), ?_⟩
        gi_wp2
        go_roundw
        case rel => exact ⟨k + 1, by omega, by simp, by rw [HS.out]; simpa using hJs, HK.out⟩
        case measure => simp [intOf]; omega
      | true =>
        obtain ⟨fn, tmps, assign, body, hy, hR⟩ := hY _ (k, s) wr hJs (by have := selTo_len ls hv k; omega)
        dsimp only [encP] at hy
        gi_wp2
        refine hR.mono ?_
        rintro e W3 (⟨rfl, hJ3, hk3⟩ | ⟨rfl, hJx3⟩)
        · gi_wp2
          go_roundw
          case rel => exact ⟨k + 1, by omega, by simp, by rw [HS.out]; exact hJ3, HK.out.trans hk3⟩
          case measure => simp [intOf]; omega
        · gi_wp2
          refine bodyPost_ret (results_none rfl _ _ _) rfl ?_
          exact ⟨⟨_, rfl⟩, .inr ⟨_, trivial, hJx3⟩⟩
    · obtain rfl : k = 9 := by omega
      gi_wp2
      go_end0
      exact ⟨⟨_, rfl⟩, .inl ⟨_, rfl, hJs⟩⟩
set_option maxHeartbeats 1000000 in
theorem present_in (F : Fence) (n : Nat) (hF : F.fn 29) (hro : F.round = none) (a h : Option Addr) (la ca lh ch : Nat) (w : World) :
    CallsIn F n Try.prog 29 #[.slice a la ca, .slice h lh ch] w fun e w' => e = .returned (.func (.func 34) #[] #[.pointer (some ⟨w.heap.size, 0, none⟩), .pointer (some ⟨w.heap.size + 1, 0, none⟩)]) ∧
      w' = (w.alloc (.cells #[.slice a la ca] 30)).alloc (.cells #[.slice h lh ch] 38) := by
  refine callsIn_of_wp Try.func29 rfl hF ?_ hro
  simp only [Try.ntmps29, List.size_toArray, List.length_cons, List.length_nil, Nat.reduceAdd, Nat.reduceSub, Array.replicate_succ, Array.replicate_zero, List.push_toArray, List.append_toArray, List.nil_append, List.cons_append]
  gi_wp2
  go_ret
  exact ⟨rfl, rfl⟩
theorem present_stops (F : Fence) (n : Nat) (hF : F.fn 34) (hro : F.round = none) (hn : 1 ≤ n) (Bs Bh n₀ bi bt bs o bh oh caps caph : Nat) (ls : List ByteArray) (hv : List Bool)
    (hb1 : Bs < n₀) (hb2 : Bh < n₀ ∧ Bh ≠ bi ∧ Bh ≠ bt) (hb3 : bs < n₀ ∧ bs ≠ bi ∧ bs ≠ bt) (hb4 : bh < n₀ ∧ bh ≠ bi ∧ bh ≠ bt) (hls : ls.length = 9) (hhv : hv.length = 9) (w : World) (hn₀ : n₀ ≤ w.heap.size)
    (cS : w.cell? ⟨Bs, 0, none⟩ = some (.slice (some ⟨bs, o, none⟩) 9 caps)) (cH : w.cell? ⟨Bh, 0, none⟩ = some (.slice (some ⟨bh, oh, none⟩) 9 caph))
    (hcs : ∀ (i : Nat) (s : ByteArray), ls[i]? = some s → w.cell? ⟨bs, o + i, none⟩ = some (.string s)) (hch : ∀ (i : Nat) (s : Bool), hv[i]? = some s → w.cell? ⟨bh, oh + i, none⟩ = some (.bool s)) :
    SeqStopsK F n Try.prog 34 #[.pointer (some ⟨Bs, 0, none⟩), .pointer (some ⟨Bh, 0, none⟩)] encP (Kp n₀ bi bt) (fun ys => ys = selTo ls hv 9) (fun _ => True) 9 w := fun l J Jx W hW _ _ hY h0 =>
  present1_in F n hF hro hn l Bs Bh n₀ bi bt bs o bh oh caps caph ls hv hb2 hb3 hb4 hls hhv J Jx hY W ((hW.cell (p := ⟨Bs, 0, none⟩) (Nat.lt_of_lt_of_le hb1 hn₀)).trans cS) ((hW.cell (p := ⟨Bh, 0, none⟩) (Nat.lt_of_lt_of_le hb2.1 hn₀)).trans cH)
    (fun i s hs => (hW.cell (p := ⟨bs, o + i, none⟩) (Nat.lt_of_lt_of_le hb3.1 hn₀)).trans (hcs i s hs)) (fun i s hs => (hW.cell (p := ⟨bh, oh + i, none⟩) (Nat.lt_of_lt_of_le hb4.1 hn₀)).trans (hch i s hs)) h0
end Go.Proofs.Yteiddjjakemklab
