/- SpaceFull answers true at every input. -/
import Derived.Test.YthcpcdinjellcaaSpLive
namespace Go.Proofs.Ythcpcdinjellcaa
open Go.RowKit
set_option linter.unusedVariables false
/-- the first k slots of a disk are taken -/
def fullB (d k : Nat) : Nat → Bool := fun q => decide (d * 48 ≤ q ∧ q < d * 48 + k)
theorem full_in {d k i : Nat} (h : i < k) : fullB d k (d * 48 + i) = true := by unfold fullB; simp; omega
theorem full_out {d k i : Nat} (h : k ≤ i) : fullB d k (d * 48 + i) = false := by unfold fullB; simp; omega
theorem okD_nat {d : Nat} (h : d < 12) : okD (d : Int) = true := okD_iff.2 ⟨by omega, by omega⟩
theorem full_fr {d k : Nat} (h : k < 48) : frO (fullB d k) d = some k := fr_some h (fun i hi => full_in hi) (full_out (Nat.le_refl _))
theorem full_N {d k : Nat} (hd : d < 12) (h : k < 48) : tkN (fullB d k) (d : Int) = (k : Int) := by unfold tkN; rw [if_pos (okD_nat hd), Int.toNat_natCast, full_fr h]; rfl
theorem full_E {d k : Nat} (hd : d < 12) (h : k < 48) : tkE (fullB d k) (d : Int) = 0 := by unfold tkE; rw [if_pos (okD_nat hd), Int.toNat_natCast, full_fr h]; rfl
theorem full_B {d k : Nat} (hd : d < 12) (h : k < 48) : tkB (fullB d k) (d : Int) = fullB d (k + 1) := by
  unfold tkB
  rw [if_pos (okD_nat hd), Int.toNat_natCast, full_fr h]
  funext q
  show setB (fullB d k) (d * 48 + k) true q = _
  unfold setB fullB
  by_cases e : q = d * 48 + k
  · rw [if_pos e]; simp; omega
  · rw [if_neg e]; apply decide_eq_decide.2; omega
theorem full_none {B : Nat → Bool} {d : Nat} (hd : d < 12) (h : ∀ i, i < 48 → B (d * 48 + i) = true) : tkE B (d : Int) = 7 ∧ tkB B (d : Int) = B := by
  have hf := fr_none h
  refine ⟨?_, ?_⟩
  · unfold tkE; rw [if_pos (okD_nat hd), Int.toNat_natCast, hf]; rfl
  · unfold tkB; rw [if_pos (okD_nat hd), Int.toNat_natCast, hf]
theorem frN_free {B : Nat → Bool} {d : Nat} : ∀ {k : Nat}, (∀ i, i < k → B (d * 48 + i) = false) → frN B d k = k := by
  intro k
  induction k with
  | zero => intro _; rfl
  | succ k ih => intro h; rw [frN_succ, ih fun i hi => h i (by omega), h k (by omega)]; rfl
theorem frN_full {B : Nat → Bool} {d : Nat} : ∀ {k : Nat}, (∀ i, i < k → B (d * 48 + i) = true) → frN B d k = 0 := by
  intro k
  induction k with
  | zero => intro _; rfl
  | succ k ih => intro h; rw [frN_succ, ih fun i hi => h i (by omega), h k (by omega)]; rfl
set_option maxRecDepth 100000 in
set_option maxHeartbeats 4000000 in
theorem full_is (d o : Nat) (w : World) (hd : d < 12) (ho : o < 12) (hne : o ≠ d) : Calls Try.prog 5 #[.int .i64 (d : Int), .int .i64 (o : Int)] w fun e w' => e = .returned (.bool true) ∧ Below w.heap.size w w' := by
  have p1 : decide ((d : Int) < 0) = false := by simp
  have p2 : decide ((11 : Int) < (d : Int)) = false := by simp; omega
  have p3 : decide ((o : Int) < 0) = false := by simp
  have p4 : decide ((11 : Int) < (o : Int)) = false := by simp; omega
  have p5 : ((o : Int) == (d : Int)) = false := by simp; omega
  have p6 : ¬ o = d := hne
  go_enter Try.func5, Try.ntmps5
  go_wp2_with fail
  refine (newS w).mono ?_
  rintro e w1 ⟨rfl, h1⟩
  have H1 := hide h1
  have HZ : Hid (∀ q, (fun _ => false : Nat → Bool) q = fullB d 0 q) := fun q => by unfold fullB; simp
  clear h1
  go_wp2_with fail
  go_loopw [6] (fun y wr => ∃ k : Nat, k ≤ 48 ∧ y = .int .i64 k ∧ SpB w.heap.size (fullB d k) w wr) (fun y _ => 48 - (intOf y).toNat)
  case atStart => exact ⟨0, by omega, rfl, H1.out.1.congr fun q _ => HZ.out q, H1.out.2⟩
  case round =>
    obtain ⟨k, hk, rfl, hsp⟩ := hrel
    have HSP := hide hsp
    clear hsp H1 HZ
    by_cases hlt : k < 48
    · have hdk : decide ((k : Int) < 48) = true := by simp; omega
      have HT := hide (takeS HSP.out (d : Int) (k : Int) 0 (full_N hd hlt) (full_E hd hlt))
      rw [full_B hd hlt] at HT
      go_wp2_with fail
      refine HT.out.mono ?_
      rintro e w2 ⟨rfl, h2, -⟩
      have H2 := hide h2
      clear h2
      go_wp2_with fail
      go_roundw
      case rel => exact ⟨k + 1, by omega, by go_num, H2.out⟩
      case measure => simp [intOf]; omega
    · have hdk : decide ((k : Int) < 48) = false := by simp; omega
      obtain rfl : k = 48 := by omega
      have hf := full_none (B := fullB d 48) hd (fun i hi => full_in hi)
      have HN : ∃ N, tkN (fullB d 48) (d : Int) = N := ⟨_, rfl⟩
      obtain ⟨N, hN⟩ := HN
      have HT := hide (takeS HSP.out (d : Int) N 7 hN hf.1)
      rw [hf.2] at HT
      clear hf hN
      go_wp2_with fail
      refine HT.out.mono ?_
      rintro e w2 ⟨rfl, h2, -⟩
      have H2 := hide h2
      clear h2 HT
      go_wp2_with fail
      have hb3 : Below w2.heap.size w2 (w2.alloc (.cells #[.int .i64 (o : Int), .int .i64 (d : Int), .int .i64 (o : Int)] 3)) := (Below.refl _ _).alloc (Nat.le_refl _) _
      have H3 := hide (H2.out.keep hb3)
      have HI3 : Hid (IntsAt (w2.alloc (.cells #[.int .i64 (o : Int), .int .i64 (d : Int), .int .i64 (o : Int)] 3)) (some ⟨w2.heap.size, 0, none⟩) [(o : Int), (d : Int), (o : Int)]) := ints_block (heap_alloc_new _ _)
      have hlt2 := H2.out.1.lt
      have hofree : frO (fullB d 48) o = some 0 := fr_some (by omega) (fun i hi => by omega) (by unfold fullB; simp; omega)
      have hE0 : allE (fullB d 48) [(o : Int), (d : Int), (o : Int)] 0 = 0 := by
        show tkE (fullB d 48) (o : Int) = 0
        unfold tkE; rw [if_pos (okD_nat ho), Int.toNat_natCast, hofree]; rfl
      have hE1 : allE (fullB d 48) [(o : Int), (d : Int), (o : Int)] 1 = 7 := by
        show tkE (tkB (fullB d 48) (o : Int)) (d : Int) = 7
        refine (full_none hd fun i hi => ?_).1
        unfold tkB
        rw [if_pos (okD_nat ho), Int.toNat_natCast, hofree]
        show setB (fullB d 48) (o * 48 + 0) true (d * 48 + i) = true
        rw [setB_ne (by omega)]
        exact full_in hi
      have HALL := hide (allF H3.out (some ⟨w2.heap.size, 0, none⟩) 3 3 [(o : Int), (d : Int), (o : Int)] 1 7 rfl (by omega) HI3.out (fun p hp => by cases hp; show w2.heap.size ≠ w.heap.size; omega) (by omega) (fun i hi => by obtain rfl : i = 0 := (by omega); exact hE0) hE1 (by decide))
      clear hb3 hE0 hE1 hofree
      refine HALL.out.mono ?_
      rintro e w4 ⟨rfl, h4, -⟩
      have H4 := hide h4
      clear h4 HALL H3 HI3 H2
      have HF1 : Hid (frC (fullB d 48) (o : Int) = 48) := by unfold Hid frC; rw [if_pos (okD_nat ho), Int.toNat_natCast, frN_free fun i hi => by unfold fullB; simp; omega]; rfl
      have HF2 : Hid (frC (fullB d 48) (d : Int) = 0) := by unfold Hid frC; rw [if_pos (okD_nat hd), Int.toNat_natCast, frN_full fun i hi => full_in hi]; rfl
      go_wp2_with fail
      refine (freeS H4.out (o : Int) 48 HF1.out).mono ?_
      rintro e w5 ⟨rfl, rfl⟩
      go_wp2_with fail
      refine (freeS H4.out (d : Int) 0 HF2.out).mono ?_
      rintro e w5 ⟨rfl, rfl⟩
      go_wp2_with fail
      refine (live_any _).mono ?_
      rintro e w6 ⟨rfl, hb6⟩
      have H6 := hide (H4.out.keep hb6)
      clear hb6
      go_wp2_with fail
      try go_ret
      exact ⟨rfl, H6.out.2.1⟩
theorem walkSpaceFull (d o : Int) (w : World) (_ : (Lit.int .i64 d).wf = true) (_ : (Lit.int .i64 o).wf = true) : Calls Try.prog 5 #[.int .i64 d, .int .i64 o] w fun e w' => e = .returned (.bool true) ∧ Below w.heap.size w w' := by
  by_cases h : (0 ≤ d ∧ d ≤ 11) ∧ (0 ≤ o ∧ o ≤ 11) ∧ o ≠ d
  · obtain ⟨⟨h1, h2⟩, ⟨h3, h4⟩, h5⟩ := h
    obtain ⟨d, rfl⟩ := Int.eq_ofNat_of_zero_le h1
    obtain ⟨o, rfl⟩ := Int.eq_ofNat_of_zero_le h3
    exact full_is d o w (by omega) (by omega) (by omega)
  · have main : ∀ (b1 b2 b3 b4 b5 : Bool), decide (d < 0) = b1 → decide (11 < d) = b2 → decide (o < 0) = b3 → decide (11 < o) = b4 → (o == d) = b5 → (b1 || b2 || b3 || b4 || b5) = true → Calls Try.prog 5 #[.int .i64 d, .int .i64 o] w fun e w' => e = .returned (.bool true) ∧ Below w.heap.size w w' := by
      intro b1 b2 b3 b4 b5 p1 p2 p3 p4 p5 hor
      clear h
      cases b1 <;> cases b2 <;> cases b3 <;> cases b4 <;> cases b5 <;> first | (cases hor; done) | skip
      all_goals
        clear hor
        go_enter Try.func5, Try.ntmps5
        go_wp2_with fail
        refine (live_any _).mono ?_
        rintro e w1 ⟨rfl, hb⟩
        have HB1 := hide hb
        clear hb
        go_wp2_with fail
        try go_ret
        exact ⟨rfl, HB1.out⟩
    refine main _ _ _ _ _ rfl rfl rfl rfl rfl ?_
    simp only [Bool.or_eq_true, decide_eq_true_eq, beq_iff_eq]
    omega
end Go.Proofs.Ythcpcdinjellcaa
