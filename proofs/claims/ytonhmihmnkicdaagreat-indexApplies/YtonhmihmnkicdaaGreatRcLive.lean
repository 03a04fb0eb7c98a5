/- What record.Read answers at every text. Records handed from one package to the other; which are small; what layer 11's live answers: true. -/
import Derived.Test.YtonhmihmnkicdaaGreatRcTaken
namespace Go.Proofs.YtonhmihmnkicdaaGreat
open Go.RowKit
set_option linter.unusedVariables false
theorem sSJ_list : sSJ.toList = [83, 74] := by rw [ByteArray.toList_eq]; rfl
theorem rN_56 (s : ByteArray) : (0 : Int) ≤ ((rN s : Nat) : Int) ∧ ((rN s : Nat) : Int) ≤ 9223372036854775807 := by have := rN_lt s; omega
theorem tkR_fit (s : ByteArray) (hs : s.size ≤ 150000000000000) : (tkR s).fit := by
  have a1 := rR_size s
  have a2 := rR_size (rR s)
  have a3 := rR_size (rR (rR s))
  have a4 := rR_size (rR (rR (rR s)))
  have a5 := rR_size (rR (rR (rR (rR s))))
  have a6 := lcsR_size 9 (rR (rR (rR (rR (rR s)))))
  have a7 := tR_size (lcsR 9 (rR (rR (rR (rR (rR s))))))
  have a8 := rR_size (tR (lcsR 9 (rR (rR (rR (rR (rR s)))))))
  have a9 := rR_size (rR (tR (lcsR 9 (rR (rR (rR (rR (rR s))))))))
  have b1 := tT_size (lcsR 9 (rR (rR (rR (rR (rR s))))))
  have b2 := tT_size (rR (rR s))
  have b3 := lcsT_len 9 (rR (rR (rR (rR (rR s)))))
  have b4 := rN_56 (tR (lcsR 9 (rR (rR (rR (rR (rR s)))))))
  unfold tkR Rc.fit
  split
  · unfold tk0; dsimp only; exact ⟨by omega, by omega, by omega, by simp, by omega, by omega⟩
  split
  · unfold tk1; dsimp only; exact ⟨by simp, by simp, by simp, by omega, by omega, by omega⟩
  split
  · unfold tk2; dsimp only; exact ⟨by omega, by simp, by simp, by simp, by omega, by omega⟩
  split
  · unfold tk3; dsimp only; exact ⟨by omega, by simp, by simp, by simp, by omega, by omega⟩
  · unfold tkX; dsimp only; exact ⟨by simp, by simp, by simp, by simp, by omega, by omega⟩
theorem trimS_size (t : ByteArray) : (trimS t).size ≤ t.size := by
  unfold trimS rest2
  split
  · rw [ByteArray.size_extract]; omega
  · exact Nat.le_refl _
/-- the record of any text, and what is left of it -/
def RdP (s : ByteArray) (w : World) (e : Ending) (w' : World) : Prop := ∃ a c, e = .returned (.tuple #[.agg (rcs (rdC s) a c), .int .i64 (rdE s)]) ∧ LocsAt w' a (rdC s).ls ∧ (∀ b o, a = some ⟨b, o, none⟩ → w.heap.size ≤ b ∧ LocB w' b) ∧ Below w.heap.size w w'
end Go.Proofs.YtonhmihmnkicdaaGreat
namespace Go.Proofs.YtonhmihmnkicdaaGreat
open Go.RowKit
set_option linter.unusedVariables false
/-- few places, short texts -/
def smlB (r : Rc) : Bool := decide (r.ls.length ≤ 20) && (decide (r.ek.size ≤ 100) && (decide (r.ed.size ≤ 100) && decide (r.k.size ≤ 100)))
theorem smlB_iff {r : Rc} : smlB r = true ↔ r.ls.length ≤ 20 ∧ r.ek.size ≤ 100 ∧ r.ed.size ≤ 100 ∧ r.k.size ≤ 100 := by unfold smlB; simp
/-- what came in lies within the machine's reach -/
def Rc.cm (r : Rc) : Prop := r.ls.length ≤ 9223372036854775807 ∧ r.ek.size ≤ 9223372036854775807 ∧ r.ed.size ≤ 9223372036854775807 ∧ r.k.size ≤ 9223372036854775807 ∧ (-9223372036854775808 ≤ r.eo ∧ r.eo ≤ 9223372036854775807)
theorem small_fit {r : Rc} (hc : r.cm) (h : smlB r = true) : r.fit := by
  obtain ⟨h1, h2, h3, h4⟩ := smlB_iff.1 h
  exact ⟨by omega, by omega, by omega, by omega, hc.2.2.2.2⟩
set_option maxRecDepth 100000 in
set_option maxHeartbeats 4000000 in
theorem small_any (r : Rc) (a : Option Addr) (c : Nat) (w : World) (hc : r.cm) : Calls Tryz.prog 7 #[.agg (rcs r a c)] w fun e w' => e = .returned (.bool (smlB r)) ∧ Below w.heap.size w w' := by
  have HB : Hid (Below w.heap.size w (w.alloc (.cells (rcs r a c) 40))) := (Below.refl _ _).alloc (Nat.le_refl _) _
  have HR := hide (rbx_new 40 r a c w)
  obtain ⟨m1, m2, m3, m4, m5⟩ := hc
  have main : ∀ b1 b2 b3 b4 : Bool, decide (r.ls.length ≤ 20) = b1 → decide (r.ek.size ≤ 100) = b2 → decide (r.ed.size ≤ 100) = b3 → decide (r.k.size ≤ 100) = b4 → Calls Tryz.prog 7 #[.agg (rcs r a c)] w fun e w' => e = .returned (.bool (b1 && (b2 && (b3 && b4)))) ∧ Below w.heap.size w w' := by
    intro b1 b2 b3 b4 p1 p2 p3 p4
    have q1 : decide ((r.ls.length : Int) ≤ 20) = b1 := by rw [← p1]; congr 1; simp; omega
    have q2 : decide ((r.ek.size : Int) ≤ 100) = b2 := by rw [← p2]; congr 1; simp; omega
    have q3 : decide ((r.ed.size : Int) ≤ 100) = b3 := by rw [← p3]; congr 1; simp; omega
    have q4 : decide ((r.k.size : Int) ≤ 100) = b4 := by rw [← p4]; congr 1; simp; omega
    go_enter Tryz.func7, Tryz.ntmps7
    go_upto_region 1 with fail
    generalize w.alloc (.cells (rcs r a c) 40) = W at *
    have c5 := HR.out.c5
    have c6 := HR.out.c6
    have c10 := HR.out.c10
    have c11 := HR.out.c11
    cases b1
    · go_wp2_with fail
      try go_ret
      exact ⟨rfl, HB.out⟩
    cases b2
    · go_wp2_with fail
      try go_ret
      exact ⟨rfl, HB.out⟩
    cases b3
    · go_wp2_with fail
      try go_ret
      exact ⟨rfl, HB.out⟩
    cases b4
    all_goals
      go_wp2_with fail
      try go_ret
      exact ⟨rfl, HB.out⟩
  exact main _ _ _ _ rfl rfl rfl rfl
end Go.Proofs.YtonhmihmnkicdaaGreat
