/- What slices.IndexFunc answers of writes: the first one for a sector. -/
import Derived.Test.YtnpioaidbmllkaaDkCopyB
namespace Go.Proofs.Ytnpioaidbmllkaa
open Go.RowKit
set_option linter.unusedVariables false
theorem row_at {w : World} {base : Nat} {v : Value} {L i : Nat} {ws : List (Nat × ByteArray)} (hr : w.ownsRow base 72 2 v L (wtV ws)) {x : Nat × ByteArray} (hx : ws[i]? = some x) : ∃ g c, v = .slice (some ⟨g, 0, none⟩) L c ∧ L ≤ c ∧ c ≤ 9223372036854775807 ∧ g < w.heap.size ∧ w.cell? ⟨g, i * 2, none⟩ = some (.int .i64 (x.1 : Int)) ∧ w.cell? ⟨g, i * 2 + 1, none⟩ = some (.string x.2) := by
  have hi : i < ws.length := (List.getElem?_eq_some_iff.1 hx).1
  obtain ⟨hl, ⟨h1, h2⟩ | ⟨g, cap, cur, hv, hb, hg, hc, hm, hz, ht⟩⟩ := hr
  · rw [wtV_len] at hl; omega
  · rw [wtV_len] at hl
    have hcell : ∀ p, p < L * 2 → w.cell? ⟨g, p, none⟩ = (wtV ws)[p]? := fun p hp => by
      rw [cell_of_block hg, ← ht, List.getElem?_take, if_pos hp, Array.getElem?_toList]
    have hw := wtV_at hx
    refine ⟨g, cap, hv, hc, hm, lt_of_block hg, ?_, ?_⟩
    · rw [hcell _ (by omega), show i * 2 = 2 * i by omega, hw.1]
    · rw [hcell _ (by omega), show i * 2 + 1 = 2 * i + 1 by omega, hw.2]
theorem row_len {w : World} {base : Nat} {v : Value} {L : Nat} {ws : List (Nat × ByteArray)} (hr : w.ownsRow base 72 2 v L (wtV ws)) : ws.length = L := by
  have := hr.1
  rw [wtV_len] at this
  omega
theorem row_max {w : World} {base : Nat} {e : TypeId} {size : Nat} {v : Value} {L : Nat} {xs : List Value} (hr : w.ownsRow base e size v L xs) : L ≤ 9223372036854775807 := by
  obtain ⟨hl, ⟨h1, h2⟩ | ⟨g, cap, cur, hv, hb, hg, hc, hm, hz, ht⟩⟩ := hr
  · omega
  · exact Nat.le_trans hc hm
set_option maxRecDepth 100000 in
set_option maxHeartbeats 2000000 in
theorem spoil1_any (x n nb : Nat) (s : ByteArray) (w : World) (hc : w.cell? ⟨nb, 0, none⟩ = some (.int .i64 (n : Int))) :
    Calls Try.prog 53 #[.agg #[.int .i64 (x : Int), .string s], .pointer (some ⟨nb, 0, none⟩)] w fun e w' => e = .returned (.bool (x == n)) ∧ Below w.heap.size w w' := by
  have hc' := Lib.cell?_alloc_some (.cells #[.int .i64 (x : Int), .string s] 72) hc
  have hE : ((x : Int) == (n : Int)) = (x == n) := by
    by_cases h : x = n
    · subst h; simp
    · have h1 : ¬ ((x : Int) = (n : Int)) := by omega
      rw [beq_eq_false_iff_ne.2 h, beq_eq_false_iff_ne.2 h1]
  have HE := hide hE
  clear hE
  clear hc
  go_enter Try.func53, Try.ntmps53
  go_wp2_with fail
  try go_ret
  exact ⟨ret_bool HE.out, (Below.refl _ _).alloc (Nat.le_refl _) _⟩
def IdxIs (ws : List (Nat × ByteArray)) (n : Nat) (r : Int) : Prop := (r = -1 ∧ ∀ x ∈ ws, x.1 ≠ n) ∨ ∃ k : Nat, r = k ∧ (∃ x, ws[k]? = some x ∧ x.1 = n) ∧ ∀ x ∈ ws.take k, x.1 ≠ n
set_option maxRecDepth 100000 in
set_option maxHeartbeats 2000000 in
theorem index_any (v : Value) (L n nb : Nat) (ws : List (Nat × ByteArray)) (w : World) (hr : w.ownsRow 0 72 2 v L (wtV ws)) (hc : w.cell? ⟨nb, 0, none⟩ = some (.int .i64 (n : Int))) (hnb : nb < w.heap.size) :
    Calls Try.prog 55 #[v, .func (.func 53) #[] #[.pointer (some ⟨nb, 0, none⟩)]] w fun e w' => ∃ r : Int, e = .returned (.int .i64 r) ∧ IdxIs ws n r ∧ Below w.heap.size w w' := by
  obtain ⟨a, c, rfl⟩ := row_form hr
  have HR := hide hr
  have HL := hide (row_len hr)
  have hL63 := row_max hr
  have HC := hide hc
  clear hr hc
  go_enter Try.func55, Try.ntmps55
  go_wp2_with fail
  go_loopw [8] (fun y wr => ∃ k : Nat, k ≤ L ∧ y = .int .i64 k ∧ (∀ x ∈ ws.take k, x.1 ≠ n) ∧ Below w.heap.size w wr) (fun y _ => L - (intOf y).toNat)
  case atStart => exact ⟨0, by omega, rfl, fun x hx => by simp at hx, Below.refl _ _⟩
  case round =>
    obtain ⟨k, hk, rfl, hN, hB⟩ := hrel
    have HN := hide hN
    have HB := hide hB
    have hsz := hB.size
    clear hN
    by_cases hlt : k < L
    · obtain ⟨x, hx⟩ : ∃ x, ws[k]? = some x := ⟨_, List.getElem?_eq_getElem (by have := HL.out; omega)⟩
      obtain ⟨g, cc, hv, hlc, hcm, hgl, hr1, hr2⟩ := row_at (row_keep HR.out fun g hg => hB.block g (row_lt HR.out hg)) hx
      cases hv
      have hcn : wr.cell? ⟨nb, 0, none⟩ = some (.int .i64 (n : Int)) := (hB.cell (p := ⟨nb, 0, none⟩) hnb).trans HC.out
      have HCN := hide hcn
      have HX := hide hx
      obtain ⟨xn, xs⟩ := x
      have hd1 : decide ((k : Int) < (L : Int)) = true := by simp; omega
      have hdi : (k : Int) < (L : Int) := by omega
      have hni : (0 : Int) ≤ (k : Int) := by omega
      clear hx hB hcn hlc hgl
      go_wp2_with fail
      refine (spoil1_any xn n nb xs _ HCN.out).mono ?_
      rintro e w1 ⟨rfl, hb1⟩
      have HB1 := hide (HB.out.trans (hb1.mono hsz))
      clear hb1 hr1 hr2
      by_cases he : xn = n
      · have hq : (xn == n) = true := by simpa using he
        have HE := hide he
        rw [hq]
        clear he
        go_wp2_with fail
        try go_ret
        exact ⟨_, rfl, .inr ⟨k, rfl, ⟨_, HX.out, HE.out⟩, HN.out⟩, HB1.out⟩
      · have hq : (xn == n) = false := by simpa using he
        have HE := hide he
        rw [hq]
        clear he
        go_wp2_with fail
        refine ⟨⟨k + 1, by omega, by go_num, fun y hy => ?_, HB1.out⟩, by simp [intOf]; omega⟩
        rw [List.take_add_one, HX.out] at hy
        rcases List.mem_append.1 hy with hy | hy
        · exact HN.out y hy
        · have : y = (xn, xs) := by simpa using hy
          rw [this]; exact HE.out
    · have hd1 : decide ((k : Int) < (L : Int)) = false := by simp; omega
      clear hB
      go_wp2_with fail
      try go_ret
      exact ⟨_, rfl, .inl ⟨rfl, by have := HN.out; rw [List.take_of_length_le (by have := HL.out; omega)] at this; exact this⟩, HB.out⟩
end Go.Proofs.Ytnpioaidbmllkaa
