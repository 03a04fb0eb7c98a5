/- What code.solve answers. -/
import Derived.Test.YteiddjjakemklabCdEncode
import Derived.Test.YteiddjjakemklabCdInvert
namespace Go.Proofs.Yteiddjjakemklab
open Go.RowKit
/-- a slice of ints that reads as the list l (of natural numbers) -/
def IntsAt (w : World) (a : Option Addr) (l : List Nat) : Prop := l = [] ∨ ∃ b o, a = some ⟨b, o, none⟩ ∧ b < w.heap.size ∧ ∀ (i n : Nat), l[i]? = some n → w.cell? ⟨b, o + i, none⟩ = some (.int .i64 (n : Int))
/-- the factors of the shards whose numbers are idx -/
def rowsOf (idx : List Nat) : Cd.Mat := fun k => Cd.fac (idx[k]?.getD 0)
def SoRel (w wr : World) (idx : List Nat) (k : Nat) : Prop := MatAt wr w.heap.size (fun i => if i < k then rowsOf idx i else fun _ => 0) ∧ Below w.heap.size w wr
def SvRel (w wr : World) (g : Nat) (f : Nat → ByteArray) (bb : Nat) (B : Cd.Mat) (k : Nat) : Prop := w.heap.size ≤ g ∧ w.heap.size ≤ bb ∧ bb ≠ g ∧ MatAt wr bb B ∧ FnAt wr g 9 6 (fun i => .string (if i < k then f i else ByteArray.empty)) ∧ Below w.heap.size w wr
def SolveLeft (w : World) (f : Nat → ByteArray) (e : Ending) (w' : World) : Prop :=
  ∃ g, e = .returned (.tuple #[.slice (some ⟨g, 0, none⟩) 6 6, .int .i64 0]) ∧ w.heap.size ≤ g ∧ FnAt w' g 9 6 (fun i => .string (f i)) ∧ Below w.heap.size w w'
theorem SoRel.alloc {w wr : World} {idx : List Nat} {k : Nat} (h : SoRel w wr idx k) (o : Obj) : SoRel w (wr.alloc o) idx k := ⟨h.1.alloc o, h.2.alloc h.2.size o⟩
theorem soRel_step {w w1 : World} {idx : List Nat} {k i : Nat} (hk : k < 6) (hi : idx[k]? = some i) (h : SoRel w w1 idx k) :
    SoRel w ((((((w1.setCell ⟨w.heap.size, k * 6, none⟩ (.int .u8 (Cd.fac i 0 : Nat))).setCell ⟨w.heap.size, k * 6 + 1, none⟩ (.int .u8 (Cd.fac i 1 : Nat))).setCell ⟨w.heap.size, k * 6 + 2, none⟩ (.int .u8 (Cd.fac i 2 : Nat))).setCell ⟨w.heap.size, k * 6 + 3, none⟩ (.int .u8 (Cd.fac i 3 : Nat))).setCell ⟨w.heap.size, k * 6 + 4, none⟩ (.int .u8 (Cd.fac i 4 : Nat))).setCell ⟨w.heap.size, k * 6 + 5, none⟩ (.int .u8 (Cd.fac i 5 : Nat))) idx (k + 1) := by
  obtain ⟨h, hb⟩ := h
  refine ⟨(h.putRow hk (Cd.fac i)).congr fun a c _ _ => ?_, below_putRow hb (Nat.le_refl _) k (Cd.fac i)⟩
  by_cases e : a = k
  · subst e; rw [if_pos rfl, if_pos (by omega)]; unfold rowsOf; rw [hi]; rfl
  · rw [if_neg e]
    by_cases c : a < k
    · rw [if_pos c, if_pos (by omega)]
    · rw [if_neg c, if_neg (by omega)]
set_option maxRecDepth 100000 in
set_option maxHeartbeats 4000000 in
theorem solve_any (b : Nat) (ai a : Option Addr) (capi cap L : Nat) (idx : List Nat) (l : List ByteArray) (S : Nat → Cd.Mat × Cd.Mat) (R : Nat → Nat) (w : World) (ht : TabAt w b)
    (hli : idx.length = 6) (hI : IntsAt w ai idx) (hi9 : ∀ i ∈ idx, i < 9) (hC : Clears (rowsOf idx) S R) (hl : l.length = 6) (hS : StrsAt w a l) (hL : ∀ s ∈ l, s.size = L) (hLb : L ≤ 1000) :
    Calls Try.prog 30 #[.pointer (some ⟨b, 0, none⟩), .slice ai 6 capi, .slice a 6 cap] w (SolveLeft w fun j => sumS ((S 6).2 j) l L) := by
  rcases hI with hI | ⟨bi, oi, rfl, hbi, hci⟩
  · rw [hI] at hli; simp at hli
  have HI := hide hci
  have HLI := hide hli
  have H9 := hide hi9
  have HC := hide hC
  have HL := hide hl
  have HS := hide hS
  have HT := hide ht
  have HZ := hide hL
  clear hci hli hi9 hC hl hS ht hL
  go_enter Try.func30, Try.ntmps30
  go_wp2_with fail
  go_loopw [19] (fun y wr => ∃ k : Nat, k ≤ 6 ∧ y = .int .i64 k ∧ SoRel w wr idx k) (fun y _ => 6 - (intOf y).toNat)
  case atStart => exact ⟨0, by omega, rfl, MatAt.congr (M := fun _ _ => 0) (heap_alloc_new w (.cells (matC fun _ _ => 0) 67)) (fun i j _ _ => by rw [if_neg (by omega)]), (Below.refl _ _).alloc (Nat.le_refl _) _⟩
  case round =>
    obtain ⟨k, hk, rfl, hrel⟩ := hrel
    have hsz : w.heap.size < wr.heap.size := hrel.1.lt
    have HTR := hide (HT.out.below hrel.2 HT.out.lt)
    have HSR := hide (HS.out.below hrel.2)
    by_cases hlt : k < 6
    · have hdj : decide ((k : Int) < 6) = true := by simp; omega
      obtain ⟨i, hi⟩ : ∃ i, idx[k]? = some i := ⟨_, List.getElem?_eq_getElem (by have := HLI.out; omega)⟩
      have hci : wr.cell? ⟨bi, oi + k, none⟩ = some (.int .i64 (i : Int)) := (hrel.2.cell (p := ⟨bi, oi + k, none⟩) hbi).trans (HI.out k i hi)
      have hi9 := H9.out i (List.mem_of_getElem? hi)
      have HK := hide hi
      have H := hide hrel
      clear hrel hi
      go_wp2_with fail
      refine (factors_any b i _ HTR.out hi9).mono ?_
      rintro e w1 ⟨rfl, hb1⟩
      have hR1 : SoRel w w1 idx k := ⟨H.out.1.below hb1 H.out.1.lt, H.out.2.trans (hb1.mono (by omega))⟩
      have hsz1 : w.heap.size < w1.heap.size := Nat.lt_of_lt_of_le hsz hb1.size
      obtain ⟨e0, e1, e2, e3, e4, e5⟩ := hR1.1.six hlt rfl
      have ff := hR1.1.free
      have HN := hide (soRel_step hlt HK.out hR1)
      clear hR1 hb1
      simp only [rowC]
      go_wp2_with fail
      go_roundw
      case rel => exact ⟨k + 1, by omega, by go_num, HN.out.alloc _⟩
      case measure => simp [intOf]; omega
    · obtain rfl : k = 6 := by omega
      have hM : MatAt wr w.heap.size (rowsOf idx) := hrel.1.congr fun i j hi _ => by rw [if_pos hi]
      have HM := hide hM
      have H := hide hrel
      clear hrel hM
      go_wp2_with (refine wpList_load_row rfl 67 (.tmp 8) rfl w.heap.size rfl 67 (matC (rowsOf idx)) (0, 0) _ HM.out Try.underlying67 rfl (mat_info' _) ?_)
      refine (invert_any b (rowsOf idx) S R _ HTR.out HC.out).mono ?_
      rintro e w1 ⟨rfl, hb1⟩
      have hz : MatAt (w1.alloc (.cells (matC fun _ _ => 0) 67)) w1.heap.size (fun _ _ => 0) := heap_alloc_new _ _
      have HZ1 := hide hz
      clear hz
      have hmk := make_strs 6 (by omega)
      rw [show ((6 : Nat) : Int) = 6 from rfl] at hmk
      go_wp2_with (refine wpList_store_row rfl 67 (.tmp 13) (.tmp 41) rfl w1.heap.size (matC (S 6).2) rfl rfl 67 (matC fun _ _ => 0) HZ1.out (mat_info' _) rfl (matC_one _) ?_)
      clear hmk
      have q0 : SvRel w (((w1.alloc (.cells (matC fun _ _ => 0) 67)).setRow w1.heap.size (matC (S 6).2)).alloc (.cells (fnC 6 fun _ => .string ByteArray.empty) 9)) (w1.heap.size + 1) (fun j => sumS ((S 6).2 j) l L) w1.heap.size (S 6).2 0 := by
        have hs1 := hb1.size
        have hB1 : Below w.heap.size w w1 := H.out.2.trans (hb1.mono (by omega))
        have h9 := heap_alloc_new ((w1.alloc (.cells (matC fun _ _ => 0) 67)).setRow w1.heap.size (matC (S 6).2)) (.cells (fnC 6 fun _ => .string ByteArray.empty) 9)
        rw [setRow_size, World.size_alloc] at h9
        refine ⟨by omega, by omega, by omega, MatAt.alloc (HZ1.out.put _) _, FnAt.congr (g := fun _ => .string ByteArray.empty) h9 (fun p _ => by rw [if_neg (by omega)]), (below_setRow (hB1.alloc hB1.size _) (by omega) _).alloc (by rw [setRow_size, World.size_alloc]; omega) _⟩
      have Q0 := hide q0
      clear q0 HZ1 hb1 H HM HTR HSR
      generalize w1.heap.size = bb at *
      go_loopw [49] (fun y wr => ∃ k : Nat, k ≤ 6 ∧ y = .int .i64 k ∧ SvRel w wr (bb + 1) (fun j => sumS ((S 6).2 j) l L) bb (S 6).2 k) (fun y _ => 6 - (intOf y).toNat)
      case atStart => exact ⟨0, by omega, rfl, Q0.out⟩
      case round =>
        clear Q0
        obtain ⟨k, hk, rfl, hrel⟩ := hrel
        by_cases hlt : k < 6
        · have hdj : decide ((k : Int) < 6) = true := by simp; omega
          obtain ⟨h1, h2, h3, h4, h5, h6⟩ := hrel
          have HTR := hide (HT.out.below h6 HT.out.lt)
          have HSR := hide (HS.out.below h6)
          obtain ⟨e0, e1, e2, e3, e4, e5⟩ := h4.six hlt rfl
          have H4 := hide h4
          have H5 := hide h5
          have H6 := hide h6
          clear h4 h5 h6
          go_wp2_with fail
          refine (sum_any b ((S 6).2 k) a cap L l _ HTR.out (fun j _ => (HC.out.sm 6 (by omega)).2 k j) HL.out HSR.out HZ.out hLb).mono ?_
          rintro e w2 ⟨rfl, hb2⟩
          have hF := H5.out.below hb2 H5.out.lt
          have hcell := hF.cell hlt
          have hfree := hF.free k
          have QN : Hid (SvRel w (w2.setCell ⟨bb + 1, k, none⟩ (.string (sumS ((S 6).2 k) l L))) (bb + 1) (fun j => sumS ((S 6).2 j) l L) bb (S 6).2 (k + 1)) := by
            refine ⟨h1, h2, h3, (H4.out.below hb2 H4.out.lt).other (by simp) _, (hF.set k _).congr fun i _ => ?_, (H6.out.trans (hb2.mono (by have := H4.out.lt; omega))).setCell (by simp; omega) _⟩
            by_cases e : i = k
            · subst e; rw [if_pos rfl, if_pos (by omega)]
            · rw [if_neg e]
              by_cases c : i < k
              · rw [if_pos c, if_pos (by omega)]
              · rw [if_neg c, if_neg (by omega)]
          clear hF hb2 e0 e1 e2 e3 e4 e5
          go_wp2_with fail
          go_roundw
          case rel => exact ⟨k + 1, by omega, by go_num, QN.out⟩
          case measure => simp [intOf]; omega
        · obtain rfl : k = 6 := by omega
          have H := hide hrel
          clear hrel
          go_wp2_with fail
          go_ret2
          exact ⟨bb + 1, rfl, H.out.1, H.out.2.2.2.2.1.congr fun i hi => by rw [if_pos hi], H.out.2.2.2.2.2⟩
end Go.Proofs.Yteiddjjakemklab
