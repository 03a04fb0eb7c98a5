/- What the listed variables, and the world's shape, give the model's walks; the door's own heap meets the condition. -/
import Derived.Test.YtlpibpkbgmcclaaGreatDoorRows
import Derived.Test.YtlpibpkbgmcclaaGreatDoorMdMathX
import Derived.WalkKit
import Derived.ProofKit
import Derived.LaidMore
import Derived.Lay
import Derived.OpenShut
import Derived.HandedShaped
import Derived.Stop.Joined
import Derived.Stop.LaidErr
import Derived.Shelf.Vars
namespace Go.Proofs.YtlpibpkbgmcclaaGreatDoor
open Go.ChangeShapes Go.WideShapes Go.ChangeAt Go.RowKit
set_option linter.unusedVariables false
def laidK : List (String × DataW Unit) := [("math/bits.deBruijn32tab", Rows.laid_math_bits_deBruijn32tab), ("math/bits.deBruijn64tab", Rows.laid_math_bits_deBruijn64tab), ("internal/strconv.uint64pow10", Rows.laid_internal_strconv_uint64pow10), ("sluicegate/digest.constants", Rows.laid_sluicegate_digest_constants)]
theorem gK : Tryz.prog.globalNamed "sluicegate/digest.constants" = some 0 := by kernel_rfl
theorem tK : (Tryz.prog.globals[0]?).map (·.type) = some 131 := by kernel_rfl
theorem cellsK : Tryz.prog.cellsOf 75 = 1 := by kernel_rfl
theorem cells64 : Tryz.prog.cellsOf 131 = 64 := by kernel_rfl
theorem laid_kk : (Rows.laid_sluicegate_digest_constants : DataW Unit) = .agg (Sh.kL.map fun n : Nat => .lit (.int .u32 (n : Int))) := rfl
theorem door_met (os : Os) (args : Array Value) : laidMetH Tryz.prog laidK ((World.laidAll Tryz.prog os laidK).forCall (fun _ _ => 0) ⟨#[], args, []⟩).memory := by
  rw [MakeChecks.laidMetH_plain _ _ _ (by kernel_rfl)]
  exact laidMet_laidAll args (by kernel_rfl) (by kernel_rfl)
theorem laid_tab : (Rows.laid_internal_strconv_uint64pow10 : DataW Unit) = Lib.tabData .u64 Lib.pow10Tab := by rfl
theorem kAt_of {W : World} {L : List (String × DataW Unit)} (h : laidMet Tryz.prog (("sluicegate/digest.constants", Rows.laid_sluicegate_digest_constants) :: L) W) : KAt W := by
  obtain ⟨ps, ⟨g0, t0, cs0, f0, p0, q0, hg0, ht0, hv0, hd0, _, _⟩, _, _⟩ := h
  obtain rfl := Option.some.inj (gK.symm.trans hg0)
  obtain rfl := Option.some.inj (tK.symm.trans ht0)
  obtain ⟨xs, m1, rfl, hx1, hlen, hn, hel⟩ := DataW.trod_array Tryz.underlying131 hd0
  have hx2 : (Rows.laid_sluicegate_digest_constants : DataW Unit) = .agg (xs.map (·.1)) := (Prod.mk.inj hx1).1
  rw [laid_kk] at hx2
  have hx3 : (Sh.kL.map fun n : Nat => (DataW.lit (.int .u32 (n : Int)) : DataW Unit)) = xs.map (·.1) := by injection hx2
  have hcell : ∀ i, i < 64 → W.cell? ⟨0, i, none⟩ = some (.int .u32 (Sh.kk i : Nat)) := by
    intro i hi
    have h0 := hel i hi
    rw [cellsK, Nat.mul_one] at h0
    have hxi : xs[i]? = some (xs[i]'(by omega)) := List.getElem?_eq_getElem (by omega)
    rw [hxi] at h0
    obtain ⟨k, e1, e2, _⟩ := DataW.trod_int Tryz.underlying75 h0
    have h3 := congrArg (fun l => l[i]?) hx3
    simp only [List.getElem?_map] at h3
    rw [hxi, e2] at h3
    have hk : Sh.kL[i]? = some (Sh.kk i) := by
      unfold Sh.kk
      rw [List.getD_eq_getElem?_getD, List.getElem?_eq_getElem (show i < Sh.kL.length from hi)]
      rfl
    rw [hk] at h3
    simp at h3
    have hv := World.var?_cell hg0 hv0 i
    rw [hv]
    have e3 : (cs0.toList.drop i)[0]? = some (.int .u32 k) := by
      have : ((cs0.toList.drop i).take 1)[0]? = some (.int .u32 k) := by rw [e1]; rfl
      rwa [List.getElem?_take, if_pos (by omega)] at this
    rw [List.getElem?_drop, Nat.add_zero, Array.getElem?_toList] at e3
    rw [e3, ← h3]
  refine ⟨?_, hcell⟩
  exact World.block_lt_of_cell? W _ (hcell 0 (by omega))
theorem kd_of {W : World} (h : laidMetH Tryz.prog laidK W) (hs : W.ShapedOpen Tryz.prog) : KM W := by
  rw [MakeChecks.laidMetH_plain _ _ _ (by kernel_rfl)] at h
  refine ⟨kAt_of h.tail.tail.tail, ?_⟩
  have h2 := h.tail.tail
  rw [laid_tab] at h2
  exact Lib.tabIs_of_head (g := 1) (t := 140) (e := 108) (n := 20) (by kernel_rfl) (by kernel_rfl) Tryz.underlying140 Tryz.underlying108 (by kernel_rfl) (by kernel_rfl) h2
end Go.Proofs.YtlpibpkbgmcclaaGreatDoor
