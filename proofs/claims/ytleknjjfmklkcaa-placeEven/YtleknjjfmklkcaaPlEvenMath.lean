/- Volumes that follow one another from the first one on: how much each disk has. -/
import Derived.Test.YtleknjjfmklkcaaPlRoundMath
import Derived.Test.YtleknjjfmklkcaaPlVR
namespace Go.Proofs.Ytleknjjfmklkcaa
open Go.RowKit
set_option linter.unusedVariables false
theorem rcO_add (j a b d : Nat) : rcO j (a + b) d = rcO j a d + rcO (j + a) b d := by
  unfold rcO
  rw [List.range_add, List.map_append, List.sum_append, List.map_map]
  congr 2
  apply List.map_congr_left
  intro q _
  show rcI j (a + q) 9 d = rcI (j + a) q 9 d
  unfold rcI
  rw [Nat.add_assoc]
theorem rc_small : ∀ i, i < 12 → ∀ d, d < 12 → rcO 0 i d ≤ 9 := by decide +kernel
theorem rc_bounds {d : Nat} (hd : d < 12) : ∀ q r, r < 12 → 9 * q ≤ rcO 0 (12 * q + r) d ∧ rcO 0 (12 * q + r) d ≤ 9 * q + 9 := by
  intro q
  induction q with
  | zero => intro r hr; rw [Nat.mul_zero, Nat.zero_add]; exact ⟨Nat.zero_le _, rc_small r hr d hd⟩
  | succ q ih =>
    intro r hr
    have h := ih r hr
    rw [show 12 * (q + 1) + r = (12 * q + r) + 12 by omega, rcO_add, round_nine _ hd]
    omega
theorem rc_near (i : Nat) {a b : Nat} (ha : a < 12) (hb : b < 12) : rcO 0 i a ≤ rcO 0 i b + 9 := by
  have h1 := rc_bounds ha (i / 12) (i % 12) (Nat.mod_lt _ (by decide))
  have h2 := rc_bounds hb (i / 12) (i % 12) (Nat.mod_lt _ (by decide))
  rw [Nat.div_add_mod] at h1 h2
  omega
def smN (F : Nat → Nat) (k : Nat) : Nat := ((List.range k).map F).sum
theorem smN_succ (F : Nat → Nat) (k : Nat) : smN F (k + 1) = smN F k + F k := by unfold smN; rw [List.range_succ, List.map_append, List.sum_append]; simp
theorem smN_add (F G : Nat → Nat) (k : Nat) : smN (fun d => F d + G d) k = smN F k + smN G k := by
  induction k with
  | zero => rfl
  | succ k ih => rw [smN_succ, smN_succ, smN_succ, ih]; omega
theorem smN_congr {F G : Nat → Nat} {k : Nat} (h : ∀ d, d < k → F d = G d) : smN F k = smN G k := by
  unfold smN; congr 1; exact List.map_congr_left fun d hd => h d (List.mem_range.1 hd)
theorem rc_each : ∀ r, r < 12 → smN (rcI r 0 9) 12 = 9 := by decide +kernel
theorem rcI_mod (i k d : Nat) : rcI 0 i k d = rcI (i % 12) 0 k d := by
  unfold rcI
  congr 1
  funext p
  rw [show (5 * (0 + i) + p) % 12 = (5 * (i % 12 + 0) + p) % 12 by omega]
theorem rc_sum : ∀ i, smN (rcO 0 i) 12 = 9 * i := by
  intro i
  induction i with
  | zero => decide
  | succ i ih =>
    rw [smN_congr (G := fun d => rcO 0 i d + rcI 0 i 9 d) fun d _ => (rcP_end 0 i d).symm, smN_add, ih]
    rw [smN_congr (G := rcI (i % 12) 0 9) fun d _ => rcI_mod i 9 d, rc_each _ (Nat.mod_lt _ (by decide))]
    omega
/-- the places of the volume i -/
def evLs (i : Nat) : List (Int × Int) := (List.range 9).map fun k => ((((5 * i + k) % 12 : Nat) : Int), (0 : Int))
theorem evLs_at {i k : Nat} (h : k < 9) : (evLs i)[k]? = some ((((5 * i + k) % 12 : Nat) : Int), (0 : Int)) := by simp [evLs, h]
theorem evLs_len (i : Nat) : (evLs i).length = 9 := by simp [evLs]
theorem ldN_ev (i d : Nat) : ldN (evLs i) (d : Int) = rcI 0 i 9 d := by
  unfold ldN evLs rcI
  rw [List.countP_map]
  congr 1
  funext k
  show ((((5 * i + k) % 12 : Nat) : Int) == (d : Int)) = ((5 * (0 + i) + k) % 12 == d)
  rw [Nat.zero_add, Bool.eq_iff_iff]
  simp
  omega
theorem ldV_ev (n d : Nat) : ldV ((List.range n).map evLs) (d : Int) = rcO 0 n d := by
  unfold ldV rcO
  rw [List.map_map]
  congr 1
  exact List.map_congr_left fun i _ => ldN_ev i d
end Go.Proofs.Ytleknjjfmklkcaa
