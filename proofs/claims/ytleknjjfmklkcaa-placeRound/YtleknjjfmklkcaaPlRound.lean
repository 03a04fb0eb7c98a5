/- What place.round's iterator does: it yields a list's numbers, from a place on, going round. -/
import Derived.Test.YtleknjjfmklkcaaRFun
import Derived.Test.YtleknjjfmklkcaaPlSmallB
namespace Go.Proofs.Ytleknjjfmklkcaa
open Go.RowKit Go.Shelf
set_option linter.unusedVariables false
attribute [local go_sem] Oper.semAt_some
theorem wrap_in {x : Int} (h0 : 0 ≤ x) (h1 : x < 9223372036854775808) : IntKind.i64.wrap x = x := by
  simp only [IntKind.wrap, IntKind.signed, IntKind.bits]
  simp
  omega
def encR (x : Int) : Array Value := #[.int .i64 x]
/-- the yield's two ways as one -/
def OneWay (J Jx : List Int → World → Prop) (xs : List Int) (n₀ bi : Nat) (W : World) (b : Bool) (W' : World) : Prop :=
  (b = true ∧ J xs W' ∧ Kp n₀ bi W W') ∨ (b = false ∧ Jx xs W')
theorem one_way {J Jx : List Int → World → Prop} {xs : List Int} {n₀ bi : Nat} {W W' : World} {e : Ending} (h : (e = .returned (.bool true) ∧ J xs W' ∧ Kp n₀ bi W W') ∨ (e = .returned (.bool false) ∧ Jx xs W')) :
    ∃ b, e = .returned (.bool b) ∧ OneWay J Jx xs n₀ bi W b W' := by
  rcases h with ⟨rfl, h1, h2⟩ | ⟨rfl, h1⟩
  · exact ⟨true, rfl, .inl ⟨rfl, h1, h2⟩⟩
  · exact ⟨false, rfl, .inr ⟨rfl, h1⟩⟩
set_option maxRecDepth 100000 in
set_option maxHeartbeats 4000000 in
theorem round1_in (n : Nat) (hn : 1 ≤ n) (l Bl Bf n₀ bi m cap f : Nat) (a : Option Addr) (L : List Int) (hL : L.length = m) (hm : m ≤ 12) (hf : f ≤ 17592186044416)
    (hb1 : Bl < n₀ ∧ Bl ≠ bi) (hb2 : Bf < n₀ ∧ Bf ≠ bi)
    (J Jx : List Int → World → Prop) (W : World) (hJ : AbidesFrom W.heap.size J)
    (hY : ∀ pre x W, J pre W → pre.length < m → YieldAt Fence.wide (n - 1) Try.prog l (encR x) W fun e W' =>
      (e = .returned (.bool true) ∧ J (pre ++ [x]) W' ∧ Kp n₀ bi W W') ∨ (e = .returned (.bool false) ∧ Jx (pre ++ [x]) W'))
    (cS : W.cell? ⟨Bl, 0, none⟩ = some (.slice a m cap)) (cF : W.cell? ⟨Bf, 0, none⟩ = some (.int .i64 (f : Int)))
    (hS : L = [] ∨ ∃ b o, a = some ⟨b, o, none⟩ ∧ b < n₀ ∧ b ≠ bi ∧ ∀ (i : Nat) (s : Int), L[i]? = some s → W.cell? ⟨b, o + i, none⟩ = some (.int .i64 s)) (h0 : J [] W) :
    CallsIn Fence.wide n Try.prog 28 #[.func (.yield l) #[] #[], .pointer (some ⟨Bl, 0, none⟩), .pointer (some ⟨Bf, 0, none⟩)] W fun e W' => (∃ v, e = .returned v) ∧
      ((∃ ys, ys = rotL L f m ∧ J ys W') ∨ (∃ pre, (∃ k, k < m ∧ pre = rotL L f (k + 1)) ∧ Jx pre W')) := by
  have HS := hide hS
  have HCF := hide cF
  have HCS := hide cS
  have HL := hide hL
  have HY := hide hY
  have HJ := hide hJ
  clear hY hJ hS cF hL
  refine callsIn_of_wp Try.func28 rfl trivial ?_ rfl
  simp only [Try.ntmps28, List.size_toArray, List.length_cons, List.length_nil, Nat.reduceAdd, Nat.reduceSub, Array.replicate_succ, Array.replicate_zero, List.push_toArray, List.append_toArray, List.nil_append, List.cons_append]
  gi_wp2
  clear cS
  gi_loopw [7] (fun y wr => ∃ k : Nat, k ≤ m ∧ y = .int .i64 k ∧ J (rotL L f k) wr ∧ Kp n₀ bi W wr) (fun y _ => m - (intOf y).toNat)
  case atStart => exact ⟨0, Nat.zero_le _, rfl, h0, Kp.refl _ _ _⟩
  case round =>
    obtain ⟨k, hk, rfl, hJs, hkr⟩ := hrel
    have HKr := hide hkr
    have HJs := hide hJs
    clear hkr hJs
    by_cases hlt : k < m
    · have hdk : decide ((k : Int) < (m : Int)) = true := by simp; omega
      have hL0 : 0 < L.length := by rw [HL.out]; omega
      rcases HS.out with q | ⟨b, o, rfl, hbl, hbi, hc⟩
      · rw [q] at hL0; simp at hL0
      have c1 : wr.cell? ⟨Bl, 0, none⟩ = some (.slice (some ⟨b, o, none⟩) m cap) := (HKr.out.cell (p := ⟨Bl, 0, none⟩) hb1.1 hb1.2).trans HCS.out
      have c2 : wr.cell? ⟨Bf, 0, none⟩ = some (.int .i64 (f : Int)) := (HKr.out.cell (p := ⟨Bf, 0, none⟩) hb2.1 hb2.2).trans HCF.out
      have c3 : wr.cell? ⟨b, o + (f + k) % m, none⟩ = some (.int .i64 (rot L f k)) := (HKr.out.cell (p := ⟨b, o + (f + k) % m, none⟩) hbl hbi).trans (hc _ _ (by have := rot_mem (l := L) (f := f) (i := k) hL0; rw [HL.out] at this; exact this))
      have HC := hide hc
      clear hc
      have hml : (f + k) % m < m := Nat.mod_lt _ (by omega)
      have hrem : Int.tmod ((f : Int) + (k : Int)) (m : Int) = (((f + k) % m : Nat) : Int) := by
        rw [← Int.natCast_add, Int.tmod_eq_emod_of_nonneg (by omega)]; rfl
      have hwr : IntKind.i64.wrap ((f : Int) + (k : Int)) = (f : Int) + (k : Int) := wrap_in (by omega) (by omega)
      have hm1 : ¬ (m = 0) := by omega
      have HR := hide (rotL_succ L f k)
      have hbd : Below wr.heap.size wr wr.drew := (Below.refl _ wr).drew
      have HJd : Hid (J (rotL L f k) wr.drew) := HJ.out _ wr _ none HJs.out (grown_none hbd) (fun r e => by cases e)
      have HKd : Hid (Kp n₀ bi W wr.drew) := ⟨HKr.out.1, fun j hj h1 => HKr.out.2 j hj h1⟩
      clear hbd
      obtain ⟨fn, tmps, assign, body, hy, hR⟩ := HY.out _ (rot L f k) _ HJd.out (by rw [rotL_len]; omega)
      have HRR : Hid (RoundIn Fence.wide (n - 1) Try.prog l fn tmps assign body wr.drew fun e W' => ∃ b, e = .returned (.bool b) ∧ OneWay J Jx (rotL L f (k + 1)) n₀ bi wr.drew b W') := hR.mono fun e W' h => one_way (by rw [HR.out]; exact h)
      clear hR
      dsimp only [encR] at hy
      generalize rot L f k = x at *
      generalize (f + k) % m = p at *
      have hpi : (p : Int) < (m : Int) := by omega
      have hp0 : (0 : Int) ≤ (p : Int) := by omega
      gi_wp2
      refine wpIn_calm ?_
      gi_region_with (refine HRR.out.mono ?_; rintro e W5 ⟨b, rfl, hw⟩)
      all_goals
        refine calm_normal ?_
        rcases hw with ⟨rfl, hj5, hk5⟩ | ⟨rfl, hj5⟩
        · gi_wp2
          go_roundw
          case rel => exact ⟨k + 1, by omega, by simp, hj5, HKd.out.trans hk5⟩
          case measure => simp [intOf]; omega
        · gi_wp2
          refine bodyPost_ret (results_none rfl _ _ _) rfl ?_
          exact ⟨⟨_, rfl⟩, .inr ⟨_, ⟨k, hlt, rfl⟩, hj5⟩⟩
    · have hdk : decide ((k : Int) < (m : Int)) = false := by simp; omega
      gi_wp2
      go_end0
      refine ⟨⟨_, rfl⟩, .inl ⟨_, rfl, ?_⟩⟩
      have : k = m := by omega
      exact this ▸ HJs.out
set_option maxHeartbeats 1000000 in
theorem round_in (n : Nat) (a : Option Addr) (m cap : Nat) (f : Int) (w : World) :
    CallsIn Fence.wide n Try.prog 22 #[.slice a m cap, .int .i64 f] w fun e w' => e = .returned (.func (.func 28) #[] #[.pointer (some ⟨w.heap.size, 0, none⟩), .pointer (some ⟨w.heap.size + 1, 0, none⟩)]) ∧
      w' = (w.alloc (.cells #[.slice a m cap] 22)).alloc (.cells #[.int .i64 f] 3) := by
  refine callsIn_of_wp Try.func22 rfl trivial ?_ rfl
  simp only [Try.ntmps22, List.size_toArray, List.length_cons, List.length_nil, Nat.reduceAdd, Nat.reduceSub, Array.replicate_succ, Array.replicate_zero, List.push_toArray, List.append_toArray, List.nil_append, List.cons_append]
  gi_wp2
  go_ret
  exact ⟨rfl, rfl⟩
theorem round_stops (n : Nat) (hn : 1 ≤ n) (Bl Bf n₀ bi m cap f : Nat) (a : Option Addr) (L : List Int) (hL : L.length = m) (hm : m ≤ 12) (hf : f ≤ 17592186044416)
    (hb1 : Bl < n₀ ∧ Bl ≠ bi) (hb2 : Bf < n₀ ∧ Bf ≠ bi) (w : World) (hn0 : n₀ ≤ w.heap.size)
    (cS : w.cell? ⟨Bl, 0, none⟩ = some (.slice a m cap)) (cF : w.cell? ⟨Bf, 0, none⟩ = some (.int .i64 (f : Int)))
    (hS : L = [] ∨ ∃ b o, a = some ⟨b, o, none⟩ ∧ b < n₀ ∧ b ≠ bi ∧ ∀ (i : Nat) (s : Int), L[i]? = some s → w.cell? ⟨b, o + i, none⟩ = some (.int .i64 s)) :
    SeqStopsK Fence.wide n Try.prog 28 #[.pointer (some ⟨Bl, 0, none⟩), .pointer (some ⟨Bf, 0, none⟩)] encR (Kp n₀ bi) (fun ys => ys = rotL L f m) (fun pre => ∃ k, k < m ∧ pre = rotL L f (k + 1)) m w := fun l J Jx W hW hJ _ hY h0 =>
  round1_in n hn l Bl Bf n₀ bi m cap f a L hL hm hf hb1 hb2 J Jx W hJ hY ((hW.cell (p := ⟨Bl, 0, none⟩) (Nat.lt_of_lt_of_le hb1.1 hn0)).trans cS) ((hW.cell (p := ⟨Bf, 0, none⟩) (Nat.lt_of_lt_of_le hb2.1 hn0)).trans cF)
    (by
      rcases hS with h | ⟨b, o, h1, h2, h3, h4⟩
      · exact .inl h
      · exact .inr ⟨b, o, h1, h2, h3, fun i s hs => (hW.cell (p := ⟨b, o + i, none⟩) (Nat.lt_of_lt_of_le h2 hn0)).trans (h4 i s hs)⟩) h0
end Go.Proofs.Ytleknjjfmklkcaa
