/- What a space's at, Taken, Mark, Give, Free, Take answer. -/
import Derived.Test.YthcpcdinjellcaaSpMem
namespace Go.Proofs.Ythcpcdinjellcaa
open Go.RowKit
set_option linter.unusedVariables false
/-- where a slot lies, if it is one -/
def atP (b : Nat) (x : Int × Int) : Option Addr := if okL x then some ⟨b, idx x, none⟩ else none
set_option maxRecDepth 100000 in
set_option maxHeartbeats 2000000 in
theorem at_no (p : Option Addr) (x y : Int) (w : World) (hp : p = none ∨ (∃ b, p = some ⟨b, 0, none⟩) ∧ okL (x, y) = false) : Calls Try.prog 27 #[.pointer p, .agg #[.int .i64 x, .int .i64 y]] w fun e w' => e = .returned (.pointer none) ∧ Below w.heap.size w w' := by
  have HB : Hid (Below w.heap.size w (w.alloc (.cells #[.int .i64 x, .int .i64 y] 31))) := (Below.refl _ _).alloc (Nat.le_refl _) _
  by_cases ho : p = none ∨ okD x = false
  · have HO := hide (fun w => of_no p x w ho)
    clear ho hp
    go_enter Try.func27, Try.ntmps27
    go_wp2_with fail
    refine (HO.out _).mono ?_
    rintro e w1 ⟨rfl, rfl⟩
    go_wp2_with fail
    try go_ret
    exact ⟨rfl, HB.out⟩
  · have hpn : p ≠ none := fun e => ho (.inl e)
    have hok : okD x = true := by
      cases h : okD x with
      | true => rfl
      | false => exact absurd (.inr h) ho
    obtain ⟨⟨b, rfl⟩, hno⟩ : (∃ b, p = some ⟨b, 0, none⟩) ∧ okL (x, y) = false := by rcases hp with q | q; exact absurd q hpn; exact q
    obtain ⟨d, rfl⟩ := Int.eq_ofNat_of_zero_le (okD_iff.1 hok).1
    have hd : d < 12 := by have := (okD_iff.1 hok).2; omega
    have hy : ¬ (0 ≤ y ∧ y < 48) := fun q => by rw [okL_iff.2 ⟨okD_iff.1 hok, q⟩] at hno; cases hno
    have HO := hide (fun w => of_yes b d w hd)
    clear ho hp hno hok hpn
    by_cases h0 : y < 0
    · have q0 : decide (y < 0) = true := by simpa using h0
      go_enter Try.func27, Try.ntmps27
      go_wp2_with fail
      refine (HO.out _).mono ?_
      rintro e w1 ⟨rfl, rfl⟩
      go_wp2_with fail
      try go_ret
      exact ⟨rfl, HB.out⟩
    · have q0 : decide (y < 0) = false := by simpa using h0
      have q1 : decide (48 ≤ y) = true := by simp; omega
      go_enter Try.func27, Try.ntmps27
      go_wp2_with fail
      refine (HO.out _).mono ?_
      rintro e w1 ⟨rfl, rfl⟩
      go_wp2_with fail
      try go_ret
      exact ⟨rfl, HB.out⟩
set_option maxRecDepth 100000 in
set_option maxHeartbeats 2000000 in
theorem at_yes (b d n : Nat) (w : World) (hd : d < 12) (hn : n < 48) : Calls Try.prog 27 #[.pointer (some ⟨b, 0, none⟩), .agg #[.int .i64 (d : Int), .int .i64 (n : Int)]] w fun e w' => e = .returned (.pointer (some ⟨b, d * 48 + n, none⟩)) ∧ Below w.heap.size w w' := by
  have HB : Hid (Below w.heap.size w (w.alloc (.cells #[.int .i64 (d : Int), .int .i64 (n : Int)] 31))) := (Below.refl _ _).alloc (Nat.le_refl _) _
  have HO := hide (fun w => of_yes b d w hd)
  have q0 : decide ((n : Int) < 0) = false := by simp
  have q1 : decide ((48 : Int) ≤ (n : Int)) = false := by simp; omega
  have hni : (n : Int) < 48 := by omega
  have hn0 : (0 : Int) ≤ (n : Int) := by omega
  go_enter Try.func27, Try.ntmps27
  go_wp2_with fail
  refine (HO.out _).mono ?_
  rintro e w1 ⟨rfl, rfl⟩
  go_wp2_with fail
  go_quiet (fail)
  go_wp2_with fail
  try go_ret
  exact ⟨rfl, drawn_below HB.out _⟩
theorem at_any (b : Nat) (x : Int × Int) (w : World) : Calls Try.prog 27 #[.pointer (some ⟨b, 0, none⟩), .agg #[.int .i64 x.1, .int .i64 x.2]] w fun e w' => e = .returned (.pointer (atP b x)) ∧ Below w.heap.size w w' := by
  obtain ⟨x, y⟩ := x
  by_cases h : okL (x, y) = true
  · obtain ⟨⟨h1, h2⟩, h3, h4⟩ := okL_iff.1 h
    simp only at h1 h2 h3 h4
    obtain ⟨d, rfl⟩ := Int.eq_ofNat_of_zero_le h1
    obtain ⟨n, rfl⟩ := Int.eq_ofNat_of_zero_le h3
    unfold atP
    rw [if_pos h]
    exact at_yes b d n w (by omega) (by omega)
  · have h' : okL (x, y) = false := by simpa using h
    unfold atP
    rw [if_neg h]
    exact at_no _ x y w (.inr ⟨⟨b, rfl⟩, h'⟩)
set_option maxRecDepth 100000 in
set_option maxHeartbeats 2000000 in
theorem taken_any (b : Nat) (x : Int × Int) (B : Nat → Bool) (w : World) (h : SpAt w b B) : Calls Try.prog 14 #[.pointer (some ⟨b, 0, none⟩), .agg #[.int .i64 x.1, .int .i64 x.2]] w fun e w' => e = .returned (.bool (tnB B x)) ∧ Below w.heap.size w w' := by
  have hal : Below w.heap.size w (w.alloc (.cells #[.int .i64 x.1, .int .i64 x.2] 31)) := (Below.refl _ _).alloc (Nat.le_refl _) _
  have HB := hide hal
  have HA := hide (fun w => at_any b x w)
  have HS := hide h
  unfold tnB
  clear hal h
  by_cases ho : okL x = true
  · have hp : atP b x = some ⟨b, idx x, none⟩ := by unfold atP; rw [if_pos ho]
    rw [hp] at HA
    have hlt := idx_lt ho
    rw [ho]
    clear hp ho
    obtain ⟨x1, x2⟩ := x
    simp only at HA HB ⊢
    generalize idx (x1, x2) = p at *
    go_enter Try.func14, Try.ntmps14
    go_wp2_with fail
    refine (HA.out _).mono ?_
    rintro e w1 ⟨rfl, hb⟩
    have HB1 : Hid (Below w.heap.size w w1) := HB.out.trans (hb.mono HB.out.size)
    have cc := (HS.out.below HB1.out).cell hlt
    clear hb
    go_wp2_with fail
    try go_ret
    exact ⟨rfl, HB1.out⟩
  · have hp : atP b x = none := by unfold atP; rw [if_neg ho]
    have ho' : okL x = false := by simpa using ho
    rw [hp] at HA
    rw [ho']
    clear hp ho ho'
    obtain ⟨x1, x2⟩ := x
    simp only at HA HB ⊢
    go_enter Try.func14, Try.ntmps14
    go_wp2_with fail
    refine (HA.out _).mono ?_
    rintro e w1 ⟨rfl, hb⟩
    have HB1 : Hid (Below w.heap.size w w1) := HB.out.trans (hb.mono HB.out.size)
    clear hb
    go_wp2_with fail
    try go_ret
    exact ⟨rfl, HB1.out⟩
set_option maxRecDepth 100000 in
set_option maxHeartbeats 2000000 in
theorem mark_any (b : Nat) (x : Int × Int) (B : Nat → Bool) (w : World) (h : SpAt w b B) : Calls Try.prog 17 #[.pointer (some ⟨b, 0, none⟩), .agg #[.int .i64 x.1, .int .i64 x.2]] w fun e w' => e = .returned (.int .i64 (mkE B x)) ∧ SpAt w' b (mkB B x) ∧ Bu b w w' := by
  have hal : Below w.heap.size w (w.alloc (.cells #[.int .i64 x.1, .int .i64 x.2] 31)) := (Below.refl _ _).alloc (Nat.le_refl _) _
  have HB := hide hal
  have HA := hide (fun w => at_any b x w)
  have HS := hide h
  unfold mkE mkB
  clear hal h
  by_cases ho : okL x = true
  · have hp : atP b x = some ⟨b, idx x, none⟩ := by unfold atP; rw [if_pos ho]
    rw [hp] at HA
    have hlt := idx_lt ho
    rw [if_pos ho, if_pos ho]
    clear hp ho
    obtain ⟨x1, x2⟩ := x
    simp only at HA HB ⊢
    generalize idx (x1, x2) = p at *
    cases hc : B p with
    | true =>
      have HCC := hide hc
      go_enter Try.func17, Try.ntmps17
      go_wp2_with fail
      refine (HA.out _).mono ?_
      rintro e w1 ⟨rfl, hb⟩
      have HB1 : Hid (Below w.heap.size w w1) := HB.out.trans (hb.mono HB.out.size)
      have cc := (HS.out.below HB1.out).cell hlt
      rw [hc] at cc
      clear hb
      go_wp2_with fail
      try go_ret
      exact ⟨rfl, (HS.out.below HB1.out).congr fun q _ => by
        by_cases e : q = p
        · subst e; rw [setB_at]; exact HCC.out
        · rw [setB_ne e], Bu.of_below HB1.out⟩
    | false =>
      go_enter Try.func17, Try.ntmps17
      go_wp2_with fail
      refine (HA.out _).mono ?_
      rintro e w1 ⟨rfl, hb⟩
      have HB1 : Hid (Below w.heap.size w w1) := HB.out.trans (hb.mono HB.out.size)
      have HS1 := hide (HS.out.below HB1.out)
      have cc := HS1.out.cell hlt
      have cf := HS1.out.fr p
      rw [hc] at cc
      clear hb
      go_wp2_with fail
      try go_ret
      exact ⟨rfl, HS1.out.set p true, (Bu.of_below HB1.out).trans (Bu.set _ _ _)⟩
  · have hp : atP b x = none := by unfold atP; rw [if_neg ho]
    rw [hp] at HA
    rw [if_neg ho, if_neg ho]
    clear hp ho
    obtain ⟨x1, x2⟩ := x
    simp only at HA HB ⊢
    go_enter Try.func17, Try.ntmps17
    go_wp2_with fail
    refine (HA.out _).mono ?_
    rintro e w1 ⟨rfl, hb⟩
    have HB1 : Hid (Below w.heap.size w w1) := HB.out.trans (hb.mono HB.out.size)
    clear hb
    go_wp2_with fail
    try go_ret
    exact ⟨rfl, HS.out.below HB1.out, Bu.of_below HB1.out⟩
set_option maxRecDepth 100000 in
set_option maxHeartbeats 2000000 in
theorem give_any (b : Nat) (x : Int × Int) (B : Nat → Bool) (w : World) (h : SpAt w b B) : Calls Try.prog 18 #[.pointer (some ⟨b, 0, none⟩), .agg #[.int .i64 x.1, .int .i64 x.2]] w fun e w' => e = .returned (.int .i64 (gvE B x)) ∧ SpAt w' b (gvB B x) ∧ Bu b w w' := by
  have hal : Below w.heap.size w (w.alloc (.cells #[.int .i64 x.1, .int .i64 x.2] 31)) := (Below.refl _ _).alloc (Nat.le_refl _) _
  have HB := hide hal
  have HA := hide (fun w => at_any b x w)
  have HT := hide (taken_any b x B _ (h.below hal))
  have HLC : Hid ((w.alloc (.cells #[.int .i64 x.1, .int .i64 x.2] 31)).heap[w.heap.size]? = some (.cells #[.int .i64 x.1, .int .i64 x.2] 31 (0, 0))) := heap_alloc_new _ _
  have HS := hide h
  have hsz : w.heap.size < (w.alloc (.cells #[.int .i64 x.1, .int .i64 x.2] 31)).heap.size := by rw [World.size_alloc]; omega
  have HZ := hide hsz
  unfold gvE gvB
  unfold tnB at HT
  clear hal h hsz
  by_cases hg : (okL x && B (idx x)) = true
  · have ho : okL x = true := by rw [Bool.and_eq_true] at hg; exact hg.1
    have hp : atP b x = some ⟨b, idx x, none⟩ := by unfold atP; rw [if_pos ho]
    rw [hp] at HA
    have hlt := idx_lt ho
    rw [if_pos hg, if_pos ho]
    rw [hg] at HT
    clear hp ho hg
    obtain ⟨x1, x2⟩ := x
    simp only at HA HB HT HLC HZ ⊢
    generalize idx (x1, x2) = p at *
    go_enter Try.func18, Try.ntmps18
    go_wp2_with fail
    refine HT.out.mono ?_
    rintro e w1 ⟨rfl, hb⟩
    have HB1 : Hid (Below w.heap.size w w1) := HB.out.trans (hb.mono HB.out.size)
    have hbk : w1.heap[w.heap.size]? = some (.cells #[.int .i64 x1, .int .i64 x2] 31 (0, 0)) := (hb.block _ HZ.out).trans HLC.out
    have l0 : w1.cell? ⟨w.heap.size, 0, none⟩ = some (.int .i64 x1) := cell_of_block hbk
    have l1 : w1.cell? ⟨w.heap.size, 1, none⟩ = some (.int .i64 x2) := cell_of_block hbk
    clear hb hbk
    go_wp2_with fail
    refine (HA.out _).mono ?_
    rintro e w2 ⟨rfl, hb2⟩
    have HB2 : Hid (Below w.heap.size w w2) := HB1.out.trans (hb2.mono HB1.out.size)
    have HS2 := hide (HS.out.below HB2.out)
    have cc := HS2.out.cell hlt
    have cf := HS2.out.fr p
    clear hb2
    go_wp2_with fail
    try go_ret
    exact ⟨rfl, HS2.out.set p false, (Bu.of_below HB2.out).trans (Bu.set _ _ _)⟩
  · have hg' : (okL x && B (idx x)) = false := by simpa using hg
    have HEQ : Hid (∀ q, q < 576 → B q = (if okL x then setB B (idx x) false else B) q) := fun q _ => by
      by_cases ho : okL x = true
      · rw [if_pos ho]
        rw [ho] at hg'
        by_cases e : q = idx x
        · subst e; rw [setB_at]; simpa using hg'
        · rw [setB_ne e]
      · rw [if_neg ho]
    rw [if_neg hg]
    rw [hg'] at HT
    clear hg hg'
    generalize (if okL x then setB B (idx x) false else B) = C at *
    obtain ⟨x1, x2⟩ := x
    simp only at HA HB HT HLC HZ ⊢
    go_enter Try.func18, Try.ntmps18
    go_wp2_with fail
    refine HT.out.mono ?_
    rintro e w1 ⟨rfl, hb⟩
    have HB1 : Hid (Below w.heap.size w w1) := HB.out.trans (hb.mono HB.out.size)
    clear hb
    go_wp2_with fail
    try go_ret
    exact ⟨rfl, (HS.out.below HB1.out).congr HEQ.out, Bu.of_below HB1.out⟩
end Go.Proofs.Ythcpcdinjellcaa
