/- What a writer's numbers, volume, entry and record answer. -/
import Derived.Test.YtaiafbihcfbglaaRcBuf
import Derived.Test.YtaiafbihcfbglaaRcSmall
import Derived.Deep.RegionHeld3
import Derived.Lib.QuietBelow
namespace Go.Proofs.Ytaiafbihcfbglaa
open Go.RowKit
set_option linter.unusedVariables false
def numsB : List Int → ByteArray
  | [] => ByteArray.empty
  | x :: l => numI x ++ numsB l
theorem numsB_snoc : ∀ (l : List Int) (x : Int), numsB (l ++ [x]) = numsB l ++ numI x
  | [], x => by show numI x ++ ByteArray.empty = ByteArray.empty ++ _; rw [app_nil, nil_app]
  | y :: l, x => by show numI y ++ numsB (l ++ [x]) = numI y ++ numsB l ++ numI x; rw [numsB_snoc l x, bapp]
theorem numI_8 (n : Int) : (numI n).size ≤ 8 := by
  unfold numI
  split
  · simp
  · rw [numS_size]; exact nlen_top (by omega)
theorem numsB_size : ∀ l : List Int, (numsB l).size ≤ 8 * l.length
  | [] => by simp [numsB]
  | x :: l => by
    show (numI x ++ numsB l).size ≤ 8 * (l.length + 1)
    rw [ByteArray.size_append]
    have := numI_8 x
    have := numsB_size l
    omega
theorem take_step {l : List Int} {k : Nat} {x : Int} (h : l[k]? = some x) : numsB (l.take (k + 1)) = numsB (l.take k) ++ numI x := by rw [List.take_add_one, h]; exact numsB_snoc _ _
def intC (l : List Int) : Array Value := (l.map fun x => Value.int .i64 x).toArray
set_option maxRecDepth 100000 in
set_option maxHeartbeats 4000000 in
theorem wnums_any (B b g : Nat) (L : List Int) (s : ByteArray) (w : World) (hw : Wt B b s w) (hB : B ≤ w.heap.size) (hg : w.heap[g]? = some (.cells (intC L) 3 (0, 0))) (hne : g ≠ b) (hL : L.length ≤ 3) (hs : s.size ≤ 10000) :
    Calls Try.prog 57 #[.pointer (some ⟨b, 0, none⟩), .slice (some ⟨g, 0, none⟩) L.length L.length] w fun e w' => e = .returned (.tuple #[]) ∧ Wt B b (s ++ numsB L) w' ∧ Kw B b w w' := by
  have HG := hide hg
  have HW := hide hw
  have HB := hide hB
  have HNE := hide hne
  have hL0 : ∃ n, L.length = n := ⟨_, rfl⟩
  obtain ⟨n, hn⟩ := hL0
  have HN := hide hn
  rw [hn] at hL ⊢
  clear hw hB hg hne hn
  go_enter Try.func57, Try.ntmps57
  go_wp2_with fail
  go_loopw [8] (fun y wr => ∃ k : Nat, k ≤ n ∧ y = .int .i64 k ∧ Wt B b (s ++ numsB (L.take k)) wr ∧ Kw B b w wr) (fun y _ => n - (intOf y).toNat)
  case atStart => exact ⟨0, by omega, rfl, by show Wt B b (s ++ ByteArray.empty) w; rw [app_nil]; exact HW.out, Kw.refl _ _ _⟩
  case round =>
    obtain ⟨k, hk, rfl, hwt, hkw⟩ := hrel
    have HWR := hide hwt
    have HKW := hide hkw
    clear hwt hkw HW
    by_cases hlt : k < n
    · have hd : decide ((k : Int) < (n : Int)) = true := by simp; omega
      have hdi : (k : Int) < (n : Int) := by omega
      have hd0 : (0 : Int) ≤ (k : Int) := by omega
      obtain ⟨x, hx⟩ : ∃ x, L[k]? = some x := ⟨_, List.getElem?_eq_getElem (by have := HN.out; omega)⟩
      have hgr := HKW.out.keep g _ _ _ HNE.out (by decide) HG.out
      have hck : wr.cell? ⟨g, k, none⟩ = some (.int .i64 x) := by
        rw [cell_of_block hgr]
        simp [intC, hx]
      have HT := hide (take_step hx)
      have hz1 := numsB_size (L.take k)
      have hz2 := numI_8 x
      have hz3 : (L.take k).length ≤ 3 := by rw [List.length_take]; omega
      have hsz := HKW.out.size
      have HBW : Hid (B ≤ wr.heap.size) := by unfold Hid; have := HB.out; omega
      clear hgr hx
      go_wp2_with fail
      refine wp_region_noPanic ?_
      refine wp_region_held_drew (S := fun _ => True) (by kernel_rfl) trivial (fun hHeld => ?_)
      refine wpAnyH_take (i := 0) (v := ?v1) rfl (by kernel_rfl) (by kernel_rfl) (by kernel_rfl) (fun _ _ _ h => h) (Or.inl ⟨by rfl, ?hy1⟩) hHeld ?rest1
      case hy1 => (intro w' hSw; go_simp; try with_reducible rfl)
      try simp [Act.put]
      refine wpAnyH_take (i := 1) (v := ?v2) rfl (by kernel_rfl) (by kernel_rfl) (by kernel_rfl) (fun _ _ _ h => h) (Or.inl ⟨by rfl, ?hy2⟩) hHeld ?rest2
      case hy2 => (intro w' hSw; go_simp; try with_reducible rfl)
      try simp [Act.put]
      refine wpAnyH_take (i := 2) (v := ?v3) rfl (by kernel_rfl) (by kernel_rfl) (by kernel_rfl) (fun _ _ _ h => h) (Or.inl ⟨by rfl, ?hy3⟩) hHeld ?rest3
      case hy3 => (intro w' hSw; go_simp; try with_reducible rfl)
      try simp [Act.put]
      refine wpAnyH_take (i := 3) (v := ?v4) rfl (by kernel_rfl) (by kernel_rfl) (by kernel_rfl) (fun _ _ _ h => h) (Or.inl ⟨by rfl, ?hy4⟩) hHeld ?rest4
      case hy4 => (intro w' hSw; go_simp; try with_reducible rfl)
      try simp [Act.put]
      refine wpAnyH_ready (rs := [4]) (by kernel_rfl) (by simp) ?_
      refine AllReadyH.cons rfl (fun K hK => ?_) AllReadyH.nil
      go_simp
      refine (number_any x _).mono ?_
      rintro e w1 ⟨rfl, hb1⟩
      have hbd : Below wr.heap.size wr w1 := (drew_below wr).trans hb1
      have HW1 := hide (HWR.out.below hbd)
      have HK1 := hide (HKW.out.trans (Kw.of_below hbd HBW.out))
      have HB1 : Hid (B ≤ w1.heap.size) := by unfold Hid; have := hbd.size; have := HBW.out; omega
      refine hK.out _ _ trivial (fun hHeld => ?_)
      clear hK K hb1 hbd
      try simp [Act.put]
      generalize numsB (L.take k) = P at *
      generalize numI x = M at *
      refine wpAnyH_ready (rs := [5]) (by kernel_rfl) (by simp) ?_
      refine AllReadyH.cons rfl (fun K hK => ?_) AllReadyH.nil
      go_simp
      refine (wstr_any B b (s ++ P) M w1 HW1.out (by rw [ByteArray.size_append]; omega) HB1.out).mono ?_
      rintro e w2 ⟨rfl, hw2, hk2⟩
      have HW2 := hide hw2
      have HK2 := hide (HK1.out.trans hk2)
      refine hK.out _ _ trivial (fun hHeld => ?_)
      clear hK K hw2 hk2
      try simp [Act.put]
      refine wpAnyH_done (by kernel_rfl) (NoPanic.normal ?_) _
      go_wp2_with fail
      exact ⟨⟨k + 1, by omega, by go_num, by rw [HT.out, ← bapp]; exact HW2.out, HK2.out⟩, by simp [intOf]; omega⟩
    · have hd : decide ((k : Int) < (n : Int)) = false := by simp; omega
      have hdi : ¬ (k : Int) < (n : Int) := by omega
      have HF : Hid (Wt B b (s ++ numsB L) wr) := by
        unfold Hid
        have e := HN.out
        have : L.take k = L := List.take_of_length_le (by omega)
        have q := HWR.out
        rw [this] at q
        exact q
      go_wp2_with fail
      go_end0
      exact ⟨rfl, HF.out, HKW.out⟩
end Go.Proofs.Ytaiafbihcfbglaa
