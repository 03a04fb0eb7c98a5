/- Twelve volumes that follow one another: how often each disk is chosen. -/
import Derived.Test.YtleknjjfmklkcaaPlLive
namespace Go.Proofs.Ytleknjjfmklkcaa
open Go.RowKit
set_option linter.unusedVariables false
theorem rot_all12 (f k : Nat) : rot all12 f k = (((f + k) % 12 : Nat) : Int) := by
  unfold rot
  have h : ∀ p, p < 12 → all12.getD p 0 = (p : Int) := by decide
  exact h _ (Nat.mod_lt _ (by decide))
/-- of the first k disks of the i-th volume behind r, how many are d -/
def rcI (r i k d : Nat) : Nat := (List.range k).countP fun q => (5 * (r + i) + q) % 12 == d
def rcO (r i d : Nat) : Nat := ((List.range i).map fun q => rcI r q 9 d).sum
def rcP (r i k d : Nat) : Nat := rcO r i d + rcI r i k d
theorem rcI_le (r i k d : Nat) : rcI r i k d ≤ k := by unfold rcI; have := List.countP_le_length (p := fun q => (5 * (r + i) + q) % 12 == d) (l := List.range k); simpa using this
theorem rcO_le (r d : Nat) : ∀ i, rcO r i d ≤ 9 * i := by
  intro i
  induction i with
  | zero => simp [rcO]
  | succ i ih =>
    unfold rcO at *
    rw [List.range_succ, List.map_append, List.sum_append]
    simp only [List.map_cons, List.map_nil, List.sum_cons, List.sum_nil]
    have := rcI_le r i 9 d
    omega
theorem rcP_succ (r i k d : Nat) : rcP r i (k + 1) d = rcP r i k d + (if d = (5 * (r + i) + k) % 12 then 1 else 0) := by
  unfold rcP rcI
  rw [List.range_succ, List.countP_append]
  simp only [List.countP_cons, List.countP_nil, beq_iff_eq]
  by_cases h : d = (5 * (r + i) + k) % 12
  · rw [if_pos h, if_pos h.symm]; omega
  · rw [if_neg h, if_neg (fun e => h e.symm)]; omega
theorem rcP_zero (r i d : Nat) : rcP r i 0 d = rcO r i d := by simp [rcP, rcI]
theorem rcP_end (r i d : Nat) : rcP r i 9 d = rcO r (i + 1) d := by
  unfold rcP rcO
  rw [List.range_succ, List.map_append, List.sum_append]
  simp
theorem rcP_le {r i k d : Nat} (hi : i ≤ 12) (hk : k ≤ 9) : rcP r i k d ≤ 1000 := by
  unfold rcP
  have h1 := rcO_le r d i
  have h2 := rcI_le r i k d
  omega
theorem rc_nine : ∀ r, r < 12 → ∀ d, d < 12 → rcO r 12 d = 9 := by decide +kernel
theorem rcO_mod (j : Nat) : ∀ i d, rcO j i d = rcO (j % 12) i d := by
  intro i d
  have h : ∀ q k, rcI j q k d = rcI (j % 12) q k d := by
    intro q k
    unfold rcI
    congr 1
    funext p
    rw [show (5 * (j + q) + p) % 12 = (5 * (j % 12 + q) + p) % 12 by omega]
  unfold rcO
  congr 1
  exact List.map_congr_left fun q _ => h q 9
theorem round_nine (j : Nat) {d : Nat} (hd : d < 12) : rcO j 12 d = 9 := by rw [rcO_mod]; exact rc_nine _ (Nat.mod_lt _ (by decide)) d hd
theorem live_all12 : liveB all12 = true := by decide
theorem choose_all (j b : Nat) (w : World) (hj : j ≤ 1099511627776) (hI : IntsAt w (some ⟨b, 0, none⟩) all12) :
    Calls Try.prog 10 #[.int .i64 (j : Int), .int .i64 0, .slice (some ⟨b, 0, none⟩) 12 12] w fun e w' => ∃ g o c, e = .returned (.tuple #[.slice (some ⟨g, o, none⟩) 9 c, .int .i64 0]) ∧ 9 ≤ c ∧ w.heap.size ≤ g ∧ g < w'.heap.size ∧ (∀ k, k < 9 → w'.cell? ⟨g, o + k, none⟩ = some (.int .i64 (((5 * j + k) % 12 : Nat) : Int))) ∧ Below w.heap.size w w' := by
  have hB : chB (j : Int) 0 all12 = true := by
    unfold chB numB
    rw [live_all12]
    simp
    omega
  have hE : chE (j : Int) 0 all12 = 0 := by unfold chE; rw [hB]; rfl
  have hL : chL (j : Int) 0 all12 = rotL all12 (5 * j) 9 := by unfold chL; rw [hB]; rfl
  refine (choose_any (j : Int) 0 (some ⟨b, 0, none⟩) 12 12 all12 w rfl (by omega) hI).mono fun e w' ⟨hb, a, c, he, hc, hI', hnew⟩ => ?_
  rw [hL, hE, rotL_len] at he
  rw [hL, rotL_len] at hc
  rw [hL] at hI'
  rcases hI' with q | ⟨g, o, rfl, hg, hcell⟩
  · have := rotL_len all12 (5 * j) 9; rw [q] at this; simp at this
  · exact ⟨g, o, c, he, hc, hnew _ rfl, hg, fun k hk => by rw [← rot_all12]; exact hcell k _ (rotL_at hk), hb⟩
end Go.Proofs.Ytleknjjfmklkcaa
