/- What record.Read answers at every text. -/
import Derived.Test.YtonhmihmnkicdaaRcTaken
namespace Go.Proofs.Ytonhmihmnkicdaa
open Go.RowKit
set_option linter.unusedVariables false
theorem sSJ_list : sSJ.toList = [83, 74] := by rw [ByteArray.toList_eq]; rfl
theorem rN_56 (s : ByteArray) : (0 : Int) ≤ ((rN s : Nat) : Int) ∧ ((rN s : Nat) : Int) ≤ 9223372036854775807 := by have := rN_lt s; omega
theorem tkR_fit (s : ByteArray) (hs : s.size ≤ 150000000000000) : (tkR s).fit := by
  have a1 := rR_size s
  have a2 := rR_size (rR s)
  have a3 := rR_size (rR (rR s))
  have a4 := rR_size (rR (rR (rR s)))
  have a5 := rR_size (rR (rR (rR (rR s))))
  have a6 := lcsR_size 9 (rR (rR (rR (rR (rR s)))))
  have a7 := tR_size (lcsR 9 (rR (rR (rR (rR (rR s))))))
  have a8 := rR_size (tR (lcsR 9 (rR (rR (rR (rR (rR s)))))))
  have a9 := rR_size (rR (tR (lcsR 9 (rR (rR (rR (rR (rR s))))))))
  have b1 := tT_size (lcsR 9 (rR (rR (rR (rR (rR s))))))
  have b2 := tT_size (rR (rR s))
  have b3 := lcsT_len 9 (rR (rR (rR (rR (rR s)))))
  have b4 := rN_56 (tR (lcsR 9 (rR (rR (rR (rR (rR s)))))))
  unfold tkR Rc.fit
  split
  · unfold tk0; dsimp only; exact ⟨by omega, by omega, by omega, by simp, by omega, by omega⟩
  split
  · unfold tk1; dsimp only; exact ⟨by simp, by simp, by simp, by omega, by omega, by omega⟩
  split
  · unfold tk2; dsimp only; exact ⟨by omega, by simp, by simp, by simp, by omega, by omega⟩
  split
  · unfold tk3; dsimp only; exact ⟨by omega, by simp, by simp, by simp, by omega, by omega⟩
  · unfold tkX; dsimp only; exact ⟨by simp, by simp, by simp, by simp, by omega, by omega⟩
theorem trimS_size (t : ByteArray) : (trimS t).size ≤ t.size := by
  unfold trimS rest2
  split
  · rw [ByteArray.size_extract]; omega
  · exact Nat.le_refl _
/-- the record of any text, and what is left of it -/
def RdP (s : ByteArray) (w : World) (e : Ending) (w' : World) : Prop := ∃ a c, e = .returned (.tuple #[.agg (rcs (rdC s) a c), .int .i64 (rdE s)]) ∧ LocsAt w' a (rdC s).ls ∧ (∀ b o, a = some ⟨b, o, none⟩ → w.heap.size ≤ b ∧ LocB w' b) ∧ Below w.heap.size w w'
end Go.Proofs.Ytonhmihmnkicdaa
