/- What a space's All answers: each one's slot, or, behind an error, nothing is taken. -/
import Derived.Test.YthcpcdinjellcaaSpTake
import Derived.Test.YthcpcdinjellcaaSpAllMath
import Derived.Test.YthcpcdinjellcaaRFun
import Derived.Defers
namespace Go.Proofs.Ythcpcdinjellcaa
open Go.RowKit
set_option linter.unusedVariables false
theorem Bu.cell {b : Nat} {w w' : World} (h : Bu b w w') {p : Addr} (hp : p.block < w.heap.size) (hn : p.block ≠ b) : w'.cell? p = w.cell? p := World.cell?_of_block (h.blk p.block hp hn)
/-- places that lie elsewhere -/
def LocsB (b : Nat) (w : World) (a : Option Addr) (l : List (Int × Int)) : Prop := LocsAt w a l ∧ ∀ p, a = some p → p.block ≠ b
theorem LocsB.keep {b : Nat} {w w' : World} {a : Option Addr} {l : List (Int × Int)} (h : LocsB b w a l) (hb : Bu b w w') : LocsAt w' a l := by
  rcases h.1 with q | ⟨bl, o, rfl, hlt, hc⟩
  · exact .inl q
  · have hn := h.2 _ rfl
    exact .inr ⟨bl, o, rfl, Nat.lt_of_lt_of_le hlt hb.size, fun i x hx => ⟨(hb.cell (p := ⟨bl, o + i * 2, none⟩) hlt hn).trans (hc i x hx).1, (hb.cell (p := ⟨bl, o + i * 2 + 1, none⟩) hlt hn).trans (hc i x hx).2⟩⟩
set_option maxRecDepth 100000 in
set_option maxHeartbeats 2000000 in
theorem giveBack_any (b : Nat) (a : Option Addr) (n c : Nat) (l : List (Int × Int)) (B : Nat → Bool) (w : World) (h : SpAt w b B) (hl : l.length = n) (hn : n ≤ 1000000) (hL : LocsB b w a l) :
    Calls Try.prog 30 #[.pointer (some ⟨b, 0, none⟩), .slice a n c] w fun e w' => e = .returned (.tuple #[]) ∧ SpAt w' b (gvs B l n) ∧ Bu b w w' := by
  have HS := hide h
  have HL := hide hl
  have HLB := hide hL
  clear h hl hL
  go_enter Try.func30, Try.ntmps30
  go_wp2_with fail
  go_loopw [8] (fun y wr => ∃ k : Nat, k ≤ n ∧ y = .int .i64 k ∧ SpAt wr b (gvs B l k) ∧ Bu b w wr) (fun y _ => n - (intOf y).toNat)
  case atStart => exact ⟨0, by omega, rfl, HS.out, Bu.refl _ _⟩
  case round =>
    obtain ⟨k, hk, rfl, hsp, hbu⟩ := hrel
    have HSP := hide hsp
    have HBU := hide hbu
    clear hsp hbu
    by_cases hlt : k < n
    · have hdk : decide ((k : Int) < (n : Int)) = true := by simp; omega
      have hki : (k : Int) < (n : Int) := by omega
      obtain ⟨⟨x, y⟩, hx⟩ : ∃ x, l[k]? = some x := ⟨_, List.getElem?_eq_getElem (by have := HL.out; omega)⟩
      rcases HLB.out.keep HBU.out with q | ⟨bl, o, rfl, hbl, hc⟩
      · rw [q] at hx; simp at hx
      obtain ⟨c0, c1⟩ := hc k _ hx
      simp only at c0 c1
      have HG := hide (gvs_succ (B := B) hx)
      have hal : Below wr.heap.size wr (wr.alloc (.cells #[.int .i64 x, .int .i64 y] 31)) := (Below.refl _ _).alloc (Nat.le_refl _) _
      have HGV := hide (give_any b (x, y) (gvs B l k) _ (HSP.out.below hal))
      have HBA := hide (HBU.out.trans (Bu.of_below hal))
      clear hc hx hal
      simp only at HGV
      go_wp2_with fail
      refine HGV.out.mono ?_
      rintro e w1 ⟨rfl, hs1, hb1⟩
      have HS1 := hide hs1
      have HB1 := hide (HBA.out.trans hb1)
      clear hs1 hb1
      generalize gvE (gvs B l k) (x, y) = E at *
      go_wp2_with fail
      go_roundw
      case rel => exact ⟨k + 1, by omega, by go_num, by rw [HG.out]; exact HS1.out, HB1.out⟩
      case measure => simp [intOf]; omega
    · have hdk : decide ((k : Int) < (n : Int)) = false := by simp; omega
      obtain rfl : k = n := by omega
      go_wp2_with fail
      go_end0
      exact ⟨rfl, HSP.out, HBU.out⟩
theorem boxed_drop {W : World} {B : Nat} {t : TypeId} {v : Value} (h : Boxed W B t v) : W.cell? ⟨B, 0, none⟩ = some v := h.cell
set_option maxRecDepth 100000 in
set_option maxHeartbeats 2000000 in
theorem undo_done (b0 b1 b2 : Nat) (u : FrameMode) (w : World) (h0 : w.cell? ⟨b0, 0, none⟩ = some (.bool true)) :
    CallsD Try.prog 29 #[.pointer (some ⟨b0, 0, none⟩), .pointer (some ⟨b1, 0, none⟩), .pointer (some ⟨b2, 0, none⟩)] u w fun e u' w' => u' = u ∧ (e = .returned (.tuple #[]) ∧ w = w') := by
  go_enter_d Try.func29, Try.ntmps29
  go_wp2
  go_end0
  exact ⟨rfl, rfl⟩
set_option maxRecDepth 100000 in
set_option maxHeartbeats 2000000 in
theorem undo_open (b0 b1 b2 b : Nat) (a : Option Addr) (n c : Nat) (l : List (Int × Int)) (B : Nat → Bool) (u : FrameMode) (w : World) (h0 : w.cell? ⟨b0, 0, none⟩ = some (.bool false)) (h1 : w.cell? ⟨b1, 0, none⟩ = some (.pointer (some ⟨b, 0, none⟩))) (h2 : w.cell? ⟨b2, 0, none⟩ = some (.slice a n c)) (h : SpAt w b B) (hl : l.length = n) (hn : n ≤ 1000000) (hL : LocsB b w a l) :
    CallsD Try.prog 29 #[.pointer (some ⟨b0, 0, none⟩), .pointer (some ⟨b1, 0, none⟩), .pointer (some ⟨b2, 0, none⟩)] u w fun e u' w' => u' = u ∧ (e = .returned (.tuple #[]) ∧ SpAt w' b (gvs B l n) ∧ Bu b w w') := by
  have HG := hide (giveBack_any b a n c l B w h hl hn hL)
  clear h hl hL
  go_enter_d Try.func29, Try.ntmps29
  go_wp2_with fail
  refine HG.out.mono ?_
  rintro e w1 ⟨rfl, hs, hb⟩
  have HS := hide hs
  have HB := hide hb
  clear hs hb
  go_wp2_with fail
  go_end0
  exact ⟨rfl, HS.out, HB.out⟩
end Go.Proofs.Ythcpcdinjellcaa
