/- What code.Encode answers. -/
import Derived.Test.YteiddjjakemklabCdSum
namespace Go.Proofs.Yteiddjjakemklab
open Go.RowKit
/-- shard i of six texts of length L -/
def sh (l : List ByteArray) (L i : Nat) : ByteArray := sumS (Cd.fac i) l L
def EnRel (w wr : World) (l : List ByteArray) (L k : Nat) : Prop := FnAt wr w.heap.size 9 9 (fun i => .string (if i < k then sh l L i else ByteArray.empty)) ∧ Below w.heap.size w wr
theorem enRel_step {w w1 : World} {l : List ByteArray} {L k : Nat} (h : FnAt w1 w.heap.size 9 9 (fun i => .string (if i < k then sh l L i else ByteArray.empty))) (hb : Below w.heap.size w w1) :
    EnRel w (w1.setCell ⟨w.heap.size, k, none⟩ (.string (sumS (Cd.fac k) l L))) l L (k + 1) := by
  refine ⟨(h.set k _).congr fun i _ => ?_, hb.setCell (by simp) _⟩
  by_cases e : i = k
  · subst e; rw [if_pos rfl, if_pos (by omega)]; rfl
  · rw [if_neg e]
    by_cases c : i < k
    · rw [if_pos c, if_pos (by omega)]
    · rw [if_neg c, if_neg (by omega)]
def noStrs : Value := .tuple #[.slice none 0 0, .int .i64 1]
set_option maxRecDepth 100000 in
set_option maxHeartbeats 1000000 in
theorem encode_nil (a : Option Addr) (n cap : Nat) (w : World) :
    Calls Try.prog 12 #[.pointer none, .slice a n cap] w fun e w' => e = .returned noStrs ∧ w = w' := by
  go_enter Try.func12, Try.ntmps12
  go_wp2_with fail
  go_ret2
  exact ⟨rfl, rfl⟩
set_option maxRecDepth 100000 in
set_option maxHeartbeats 1000000 in
theorem encode_many (b : Nat) (a : Option Addr) (n cap : Nat) (w : World) (h : n ≠ 6) :
    Calls Try.prog 12 #[.pointer (some ⟨b, 0, none⟩), .slice a n cap] w fun e w' => e = .returned noStrs ∧ w = w' := by
  have hb : ((n : Int) != 6) = true := by simp; omega
  clear h
  go_enter Try.func12, Try.ntmps12
  go_wp2_with fail
  go_ret2
  exact ⟨rfl, rfl⟩
set_option maxRecDepth 100000 in
set_option maxHeartbeats 1000000 in
theorem encode_unlike (b : Nat) (a : Option Addr) (cap : Nat) (l : List ByteArray) (w : World) (hl : l.length = 6) (hS : StrsAt w a l) (hA : al l = false) :
    Calls Try.prog 12 #[.pointer (some ⟨b, 0, none⟩), .slice a 6 cap] w fun e w' => e = .returned noStrs ∧ w = w' := by
  have HL := hide hl
  have HS := hide hS
  have HA := hide hA
  clear hl hS hA
  go_enter Try.func12, Try.ntmps12
  go_wp2_with fail
  refine (alike_any a 6 cap l _ HL.out (by omega) HS.out).mono ?_
  rintro e w1 ⟨he, rfl⟩
  rw [HA.out] at he; subst he
  go_wp2_with fail
  go_ret2
  exact ⟨rfl, rfl⟩
/-- what Encode leaves: nine strings in a block of their own -/
def EncLeft (w : World) (l : List ByteArray) (L : Nat) (e : Ending) (w' : World) : Prop :=
  e = .returned (.tuple #[.slice (some ⟨w.heap.size, 0, none⟩) 9 9, .int .i64 0]) ∧ FnAt w' w.heap.size 9 9 (fun i => .string (sh l L i)) ∧ Below w.heap.size w w'
set_option maxRecDepth 100000 in
set_option maxHeartbeats 2000000 in
theorem encode_any (b : Nat) (a : Option Addr) (cap L : Nat) (l : List ByteArray) (w : World) (ht : TabAt w b) (hl : l.length = 6) (hS : StrsAt w a l) (hL : ∀ s ∈ l, s.size = L) (hLb : L ≤ 1000) :
    Calls Try.prog 12 #[.pointer (some ⟨b, 0, none⟩), .slice a 6 cap] w (EncLeft w l L) := by
  have hA : al l = true := al_iff.2 fun s hs => by
    rw [hL s hs]
    have : l[0]? = some l[0] := List.getElem?_eq_getElem (by omega)
    rw [this]; exact (hL _ (List.getElem_mem _)).symm
  have HL := hide hl
  have HS := hide hS
  have HA := hide hA
  have HT := hide ht
  have HZ := hide hL
  clear hl hS hA ht hL
  go_enter Try.func12, Try.ntmps12
  go_wp2_with fail
  refine (alike_any a 6 cap l _ HL.out (by omega) HS.out).mono ?_
  rintro e w1 ⟨he, rfl⟩
  rw [HA.out] at he; subst he
  have hmk := make_strs 9 (by omega)
  rw [show ((9 : Nat) : Int) = 9 from rfl] at hmk
  go_wp2_with fail
  clear hmk
  go_loopw [25] (fun y wr => ∃ k : Nat, k ≤ 9 ∧ y = .int .i64 k ∧ EnRel w wr l L k) (fun y _ => 9 - (intOf y).toNat)
  case atStart => exact ⟨0, by omega, rfl, FnAt.congr (g := fun _ => .string ByteArray.empty) (heap_alloc_new _ _) (fun p _ => by rw [if_neg (by omega)]), (Below.refl _ _).alloc (Nat.le_refl _) _⟩
  case round =>
    obtain ⟨k, hk, rfl, hrel⟩ := hrel
    by_cases hlt : k < 9
    · have hdj : decide ((k : Int) < 9) = true := by simp; omega
      have hsz : w.heap.size < wr.heap.size := hrel.1.lt
      have HTR := hide (HT.out.below hrel.2 HT.out.lt)
      have HSR := hide (HS.out.below hrel.2)
      have H := hide hrel
      clear hrel
      go_wp2_with fail
      refine (factors_any b k _ HTR.out hlt).mono ?_
      rintro e w1 ⟨rfl, hb1⟩
      simp only [rowC]
      have hsz1 : w.heap.size < w1.heap.size := Nat.lt_of_lt_of_le hsz hb1.size
      go_wp2_with fail
      have hbW : Below wr.heap.size wr (w1.alloc (.cells (rowC (Cd.fac k)) 52)) := hb1.alloc hb1.size _
      refine (sum_any b (Cd.fac k) a cap L l _ (HTR.out.below hbW HTR.out.lt) (fun j _ => Cd.fac_lt k j) HL.out (HSR.out.below hbW) HZ.out hLb).mono ?_
      rintro e w2 ⟨rfl, hb2⟩
      have hF : FnAt w2 w.heap.size 9 9 (fun i => .string (if i < k then sh l L i else ByteArray.empty)) := (H.out.1.below hbW H.out.1.lt).below hb2 (Nat.lt_of_lt_of_le H.out.1.lt hbW.size)
      have hB : Below w.heap.size w w2 := (H.out.2.trans (hbW.mono (by omega))).trans (hb2.mono (by have := hbW.size; omega))
      have hcell := hF.cell hlt
      have hfree := hF.free k
      have HN := hide (enRel_step hF hB)
      clear hF hB hbW hb2 hb1
      go_wp2_with fail
      go_roundw
      case rel => exact ⟨k + 1, by omega, by go_num, HN.out⟩
      case measure => simp [intOf]; omega
    · obtain rfl : k = 9 := by omega
      have H := hide hrel
      clear hrel
      go_wp2_with fail
      go_ret2
      exact ⟨rfl, H.out.1.congr fun i hi => by rw [if_pos hi], H.out.2⟩
end Go.Proofs.Yteiddjjakemklab
