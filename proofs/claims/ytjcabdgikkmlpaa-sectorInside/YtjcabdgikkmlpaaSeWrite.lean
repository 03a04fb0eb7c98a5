/- What sector.Write answers, and the functions that it calls. -/
import Derived.Test.YtjcabdgikkmlpaaCameHd
import Derived.Test.YtjcabdgikkmlpaaPkReader
import Derived.Lib.QuietBelow
import Derived.Deep.RegionHeld3
namespace Go.Proofs.Ytjcabdgikkmlpaa
open Go.RowKit
set_option linter.unusedVariables false
set_option maxRecDepth 100000 in
set_option maxHeartbeats 2000000 in
theorem below_yes (n e : Int) (w : World) (h0 : 0 ≤ n) (h1 : n < e) : Calls Try.prog 34 #[.int .i64 n, .int .i64 e] w fun r w' => r = .returned (.bool true) ∧ w = w' := by
  have h0' : decide (0 ≤ n) = true := by simp; omega
  have h1' : decide (n < e) = true := by simp; omega
  go_enter Try.func34, Try.ntmps34
  go_wp2_with fail
  try go_ret
  exact ⟨rfl, rfl⟩
set_option maxRecDepth 100000 in
set_option maxHeartbeats 2000000 in
theorem below_no (n e : Int) (w : World) (h : ¬ (0 ≤ n ∧ n < e)) : Calls Try.prog 34 #[.int .i64 n, .int .i64 e] w fun r w' => r = .returned (.bool false) ∧ w = w' := by
  by_cases h0 : 0 ≤ n
  · have h0' : decide (0 ≤ n) = true := by simp; omega
    have h1 : ¬ n < e := by omega
    have h1' : decide (n < e) = false := by simp; omega
    clear h
    go_enter Try.func34, Try.ntmps34
    go_wp2_with fail
    try go_ret
    exact ⟨rfl, rfl⟩
  · have h0' : decide (0 ≤ n) = false := by simp; omega
    clear h
    go_enter Try.func34, Try.ntmps34
    go_wp2_with fail
    try go_ret
    exact ⟨rfl, rfl⟩
set_option maxRecDepth 100000 in
set_option maxHeartbeats 4000000 in
theorem inRange_any (h : Hd) (w : World) : Calls Try.prog 20 #[.agg (hcs h)] w fun r w' => r = .returned (.bool (decide h.inR)) ∧ Below w.heap.size w w' := by
  obtain ⟨v, g, i, d, s, x⟩ := h
  simp only [hcs]
  have HB : Hid (Below w.heap.size w (w.alloc (.cells #[.int .i64 v, .int .i64 g, .int .i64 i, .int .i64 d, .int .i64 s, .string x] 30))) := (Below.refl _ _).alloc (Nat.le_refl _) _
  by_cases h1 : 0 ≤ v ∧ v < 1099511627777
  case neg =>
    have hd : decide (Hd.inR ⟨v, g, i, d, s, x⟩) = false := decide_eq_false fun q => by unfold Hd.inR at q; simp only at q; omega
    rw [hd]
    go_enter Try.func20, Try.ntmps20
    go_wp2_with fail
    refine (below_no _ _ _ h1).mono ?_
    rintro e w1 ⟨rfl, rfl⟩
    go_wp2_with fail
    try go_ret
    exact ⟨rfl, HB.out⟩
  by_cases h2 : 0 ≤ g ∧ g < 1099511627777
  case neg =>
    have hd : decide (Hd.inR ⟨v, g, i, d, s, x⟩) = false := decide_eq_false fun q => by unfold Hd.inR at q; simp only at q; omega
    rw [hd]
    go_enter Try.func20, Try.ntmps20
    go_wp2_with fail
    refine (below_yes _ _ _ h1.1 h1.2).mono ?_
    rintro e w1 ⟨rfl, rfl⟩
    go_wp2_with fail
    refine (below_no _ _ _ h2).mono ?_
    rintro e w1 ⟨rfl, rfl⟩
    go_wp2_with fail
    try go_ret
    exact ⟨rfl, HB.out⟩
  by_cases h3 : 0 ≤ i ∧ i < 9
  case neg =>
    have hd : decide (Hd.inR ⟨v, g, i, d, s, x⟩) = false := decide_eq_false fun q => by unfold Hd.inR at q; simp only at q; omega
    rw [hd]
    go_enter Try.func20, Try.ntmps20
    go_wp2_with fail
    refine (below_yes _ _ _ h1.1 h1.2).mono ?_
    rintro e w1 ⟨rfl, rfl⟩
    go_wp2_with fail
    refine (below_yes _ _ _ h2.1 h2.2).mono ?_
    rintro e w1 ⟨rfl, rfl⟩
    go_wp2_with fail
    refine (below_no _ _ _ h3).mono ?_
    rintro e w1 ⟨rfl, rfl⟩
    go_wp2_with fail
    try go_ret
    exact ⟨rfl, HB.out⟩
  by_cases h4 : 0 ≤ d ∧ d < 12
  case neg =>
    have hd : decide (Hd.inR ⟨v, g, i, d, s, x⟩) = false := decide_eq_false fun q => by unfold Hd.inR at q; simp only at q; omega
    rw [hd]
    go_enter Try.func20, Try.ntmps20
    go_wp2_with fail
    refine (below_yes _ _ _ h1.1 h1.2).mono ?_
    rintro e w1 ⟨rfl, rfl⟩
    go_wp2_with fail
    refine (below_yes _ _ _ h2.1 h2.2).mono ?_
    rintro e w1 ⟨rfl, rfl⟩
    go_wp2_with fail
    refine (below_yes _ _ _ h3.1 h3.2).mono ?_
    rintro e w1 ⟨rfl, rfl⟩
    go_wp2_with fail
    refine (below_no _ _ _ h4).mono ?_
    rintro e w1 ⟨rfl, rfl⟩
    go_wp2_with fail
    try go_ret
    exact ⟨rfl, HB.out⟩
  by_cases h5 : 0 ≤ s ∧ s < 48
  case neg =>
    have hd : decide (Hd.inR ⟨v, g, i, d, s, x⟩) = false := decide_eq_false fun q => by unfold Hd.inR at q; simp only at q; omega
    rw [hd]
    go_enter Try.func20, Try.ntmps20
    go_wp2_with fail
    refine (below_yes _ _ _ h1.1 h1.2).mono ?_
    rintro e w1 ⟨rfl, rfl⟩
    go_wp2_with fail
    refine (below_yes _ _ _ h2.1 h2.2).mono ?_
    rintro e w1 ⟨rfl, rfl⟩
    go_wp2_with fail
    refine (below_yes _ _ _ h3.1 h3.2).mono ?_
    rintro e w1 ⟨rfl, rfl⟩
    go_wp2_with fail
    refine (below_yes _ _ _ h4.1 h4.2).mono ?_
    rintro e w1 ⟨rfl, rfl⟩
    go_wp2_with fail
    refine (below_no _ _ _ h5).mono ?_
    rintro e w1 ⟨rfl, rfl⟩
    go_wp2_with fail
    try go_ret
    exact ⟨rfl, HB.out⟩
  have hd : decide (Hd.inR ⟨v, g, i, d, s, x⟩) = true := decide_eq_true (by unfold Hd.inR; simp only; omega)
  rw [hd]
  go_enter Try.func20, Try.ntmps20
  go_wp2_with fail
  refine (below_yes _ _ _ h1.1 h1.2).mono ?_
  rintro e w1 ⟨rfl, rfl⟩
  go_wp2_with fail
  refine (below_yes _ _ _ h2.1 h2.2).mono ?_
  rintro e w1 ⟨rfl, rfl⟩
  go_wp2_with fail
  refine (below_yes _ _ _ h3.1 h3.2).mono ?_
  rintro e w1 ⟨rfl, rfl⟩
  go_wp2_with fail
  refine (below_yes _ _ _ h4.1 h4.2).mono ?_
  rintro e w1 ⟨rfl, rfl⟩
  go_wp2_with fail
  refine (below_yes _ _ _ h5.1 h5.2).mono ?_
  rintro e w1 ⟨rfl, rfl⟩
  go_wp2_with fail
  try go_ret
  exact ⟨rfl, HB.out⟩
/-- numbers one behind the other -/
def catN (f : Nat → Int) : Nat → ByteArray
  | 0 => ByteArray.empty
  | k + 1 => catN f k ++ numI (f k)
theorem numI_8 (n : Int) : (numI n).size ≤ 8 := by
  unfold numI
  split
  · exact Nat.zero_le _
  · rw [numS_size]; exact nlen_top (by omega)
theorem catN_size (f : Nat → Int) : ∀ k, (catN f k).size ≤ 8 * k
  | 0 => Nat.zero_le _
  | k + 1 => by
    show (catN f k ++ numI (f k)).size ≤ _
    rw [ByteArray.size_append]
    have := catN_size f k
    have := numI_8 (f k)
    omega
set_option maxRecDepth 100000 in
set_option maxHeartbeats 4000000 in
theorem numbers_any (b : Nat) (f : Nat → Int) (w : World) (hb : b < w.heap.size) (hc : ∀ k, k < 5 → w.cell? ⟨b, k, none⟩ = some (.int .i64 (f k))) :
    Calls Try.prog 22 #[.slice (some ⟨b, 0, none⟩) 5 5] w fun r w' => r = .returned (.string (catN f 5)) ∧ Below w.heap.size w w' := by
  have HC := hide hc
  clear hc
  go_enter Try.func22, Try.ntmps22
  go_wp2_with fail
  go_loopw [3, 8] (fun x y wr => ∃ k : Nat, k ≤ 5 ∧ y = .int .i64 k ∧ x = .string (catN f k) ∧ Below w.heap.size w wr) (fun _ y _ => 5 - (intOf y).toNat)
  case atStart => exact ⟨0, by omega, rfl, rfl, Below.refl _ _⟩
  case round =>
    obtain ⟨k, hk, rfl, rfl, hbl⟩ := hrel
    have HB := hide hbl
    have hz := catN_size f k
    clear hbl
    by_cases hlt : k < 5
    · have hck := HC.out k hlt
      rw [← HB.out.cell (p := ⟨b, k, none⟩) hb] at hck
      have hd : decide ((k : Int) < 5) = true := by simp; omega
      have hdi : (k : Int) < 5 := by omega
      have hz2 := numI_8 (f k)
      have HE : Hid (catN f (k + 1) = catN f k ++ numI (f k)) := rfl
      generalize catN f k = L at *
      go_wp2_with fail
      refine (number_any (f k) wr).mono ?_
      rintro e w1 ⟨rfl, hb1⟩
      have HB2 := hide (HB.out.trans (hb1.mono HB.out.size))
      clear hb1
      generalize numI (f k) = M at *
      go_wp2_with fail
      exact ⟨⟨k + 1, by omega, by simp, by rw [HE.out], HB2.out⟩, by simp [intOf]; omega⟩
    · have hd : decide ((k : Int) < 5) = false := by simp; omega
      have hdi : ¬ (k : Int) < 5 := by omega
      obtain rfl : k = 5 := by omega
      go_wp2_with fail
      try go_ret
      exact ⟨rfl, HB.out⟩
end Go.Proofs.Ytjcabdgikkmlpaa
