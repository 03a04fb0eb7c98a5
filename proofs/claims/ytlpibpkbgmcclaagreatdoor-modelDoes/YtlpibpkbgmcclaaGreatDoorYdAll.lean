/- What Do of the document's model answers and leaves: all cases. -/
import Derived.Test.YtlpibpkbgmcclaaGreatDoorYdStat
import Derived.Test.YtlpibpkbgmcclaaGreatDoorYdDel
namespace Go.Proofs.YtlpibpkbgmcclaaGreatDoor
open Go.RowKit
set_option linter.unusedVariables false
theorem yd_do {w : World} {y : Nat} {R : List KyE} {T : MT} (h : KyAt w y R) (hr : Rl R T) (hT : T.Ok) (hn : R.length ≤ 1000) (r : Rq) (hk : r.k.size ≤ 100000) (hv : r.v.size ≤ 100000) : Calls Tryz.prog 9 #[.pointer (some ⟨y, 0, none⟩), .agg (rqs r)] w (YdP T R r y w) := by
  obtain ⟨d, k, v⟩ := r
  simp only [rqs]
  by_cases hz : rqE ⟨d, k, v⟩ = 0
  · have hd : 0 ≤ d ∧ d ≤ 4 := rqE_d hz
    by_cases h0 : d = 0
    · exact yd_pt h hr hT hn d k v hk hv hz h0
    by_cases h4 : d = 4
    · exact yd_lst h hr hT hn d k v hk hv hz h4
    cases hy : T.val k with
    | none => exact yd_no h hr hT hn d k v hk hv hz h0 h4 hy
    | some u =>
      have h3 : d = 1 ∨ d = 2 ∨ d = 3 := by omega
      rcases h3 with q | q | q
      · exact yd_gt h hr hT hn d k v hk hv hz q u hy
      · exact yd_del h hr hT hn d k v hk hv hz q u hy
      · exact yd_stat h hr hT hn d k v hk hv hz q u hy
  · exact yd_err h hr hT hn d k v hk hv hz
end Go.Proofs.YtlpibpkbgmcclaaGreatDoor
