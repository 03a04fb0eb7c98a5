/- What record.takenVolume answers. What record.taken answers. -/
import Derived.Test.YtonhmihmnkicdaaGreatRcRd
namespace Go.Proofs.YtonhmihmnkicdaaGreat
open Go.RowKit
set_option linter.unusedVariables false
theorem vol_size_ : (Tryz.prog.info? 36).map (·.size) = some 4 := by kernel_rfl
end Go.Proofs.YtonhmihmnkicdaaGreat
namespace Go.Proofs.YtonhmihmnkicdaaGreat
open Go.RowKit
set_option linter.unusedVariables false
theorem LocsAt.keep {w w' : World} {a : Option Addr} {l : List (Int × Int)} (h : LocsAt w a l) (hs : w.heap.size ≤ w'.heap.size) (hb : ∀ b o, a = some ⟨b, o, none⟩ → b < w.heap.size → w'.heap[b]? = w.heap[b]?) : LocsAt w' a l := by
  rcases h with h | ⟨b1, o, ha, hlt, hc⟩
  · exact .inl h
  · have hbl := hb b1 o ha hlt
    exact .inr ⟨b1, o, ha, Nat.lt_of_lt_of_le hlt hs, fun i x hx => ⟨(World.cell?_of_block (a := ⟨b1, o + i * 2, none⟩) hbl).trans (hc i x hx).1, (World.cell?_of_block (a := ⟨b1, o + i * 2 + 1, none⟩) hbl).trans (hc i x hx).2⟩⟩
end Go.Proofs.YtonhmihmnkicdaaGreat
