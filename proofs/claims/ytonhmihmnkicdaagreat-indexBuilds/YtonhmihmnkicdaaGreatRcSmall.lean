/- What record's small functions answer: upTo, isNumber, areEnds, isKey, isWithin, partsOf; the document's number and Is. -/
import Derived.Test.YtonhmihmnkicdaaGreatRcMath
import Derived.Test.YtonhmihmnkicdaaGreatPnVol
import Derived.Handy
namespace Go.Proofs.YtonhmihmnkicdaaGreat
open Go.RowKit
set_option linter.unusedVariables false
theorem dec_and {p q : Prop} [Decidable p] [Decidable q] {a b : Bool} (h : decide p = a) (k : decide q = b) : decide (p ∧ q) = (a && b) := by subst h k; simp
theorem upTo_any (n e : Int) (w : World) : Calls Tryz.prog 56 #[.int .i64 n, .int .i64 e] w fun r w' => r = .returned (.bool (decide (0 ≤ n ∧ n ≤ e))) ∧ w = w' := by
  have main : ∀ (b1 b2 : Bool), decide (0 ≤ n) = b1 → decide (n ≤ e) = b2 → Calls Tryz.prog 56 #[.int .i64 n, .int .i64 e] w fun r w' => r = .returned (.bool (decide (0 ≤ n ∧ n ≤ e))) ∧ w = w' := by
    intro b1 b2 p1 p2
    have HE := hide (dec_and p1 p2)
    rw [HE.out]
    cases b1 <;> cases b2
    all_goals
      go_enter Tryz.func56, Tryz.ntmps56
      go_wp2_with fail
      try go_ret
      exact ⟨rfl, rfl⟩
  exact main _ _ rfl rfl
theorem isNumber_any (n : Int) (w : World) : Calls Tryz.prog 82 #[.int .i64 n] w fun r w' => r = .returned (.bool (decide (numR n))) ∧ w = w' := by
  have HU := hide (upTo_any n 1099511627776 w)
  have HE : Hid (decide (0 ≤ n ∧ n ≤ 1099511627776) = decide (numR n)) := rfl
  rw [HE.out] at HU
  generalize decide (numR n) = B at *
  go_enter Tryz.func82, Tryz.ntmps82
  go_wp2_with fail
  refine HU.out.mono ?_
  rintro e _ ⟨rfl, rfl⟩
  go_wp2_with fail
  try go_ret
  exact ⟨rfl, rfl⟩
theorem rnumber_any (n : Int) (w : World) : Calls Tryz.prog 66 #[.int .i64 n] w fun r w' => r = .returned (.bool (decide (numR n))) ∧ w = w' := by
  have main : ∀ (b1 b2 : Bool), decide (0 ≤ n) = b1 → decide (n ≤ 1099511627776) = b2 → Calls Tryz.prog 66 #[.int .i64 n] w fun r w' => r = .returned (.bool (decide (numR n))) ∧ w = w' := by
    intro b1 b2 p1 p2
    have HE : Hid (decide (numR n) = (b1 && b2)) := dec_and p1 p2
    rw [HE.out]
    cases b1 <;> cases b2
    all_goals
      go_enter Tryz.func66, Tryz.ntmps66
      go_wp2_with fail
      try go_ret
      exact ⟨rfl, rfl⟩
  exact main _ _ rfl rfl
set_option maxRecDepth 100000 in
theorem areEnds_any (f t : Int) (w : World) : Calls Tryz.prog 60 #[.int .i64 f, .int .i64 t] w fun r w' => r = .returned (.bool (decide (endR f t))) ∧ w = w' := by
  have main : ∀ (b1 b2 b3 : Bool), decide (numR f) = b1 → decide (numR t) = b2 → (f == t) = b3 → Calls Tryz.prog 60 #[.int .i64 f, .int .i64 t] w fun r w' => r = .returned (.bool (decide (endR f t))) ∧ w = w' := by
    intro b1 b2 b3 p1 p2 p3
    have H1 := hide (isNumber_any f w)
    have H2 := hide (isNumber_any t w)
    have HE : Hid (decide (endR f t) = (b1 && (b2 && !b3))) := dec_and p1 (dec_and p2 (by rw [← p3]; by_cases q : f = t <;> simp [q]))
    rw [HE.out]
    rw [p1] at H1
    rw [p2] at H2
    have p4 : (f != t) = !b3 := by rw [← p3]; rfl
    clear p1 p2
    cases b1 <;> cases b2 <;> cases b3 <;> simp only [Bool.not_true, Bool.not_false] at p4
    all_goals
      go_enter Tryz.func60, Tryz.ntmps60
      go_wp2_with (first | (go_at_call 82; first | (refine H1.out.mono ?_; rintro e _ ⟨rfl, rfl⟩) | (refine H2.out.mono ?_; rintro e _ ⟨rfl, rfl⟩)))
      try go_ret
      exact ⟨rfl, rfl⟩
  exact main _ _ _ rfl rfl rfl
open Classical in
theorem ckE_kOk (k : ByteArray) (h : k.size ≤ 150000000000000) : (ckE ⟨k, ByteArray.empty⟩ != 11) = kOk k := by
  unfold kOk
  by_cases hk : keyOk k
  · have hz : nsz ⟨k, ByteArray.empty⟩ ≤ 384 := by
      unfold nsz
      have := hk.2.1
      have h1 := textS_len (s := k) (by omega)
      have h2 := textS_len (s := ByteArray.empty) (by simp)
      simp only at *
      rw [h1, h2]
      simp; omega
    have := (ckE_zero (n := ⟨k, ByteArray.empty⟩)).2 ⟨hk, hz⟩
    rw [this, decide_eq_true hk]; rfl
  · rw [ckE_key (n := ⟨k, ByteArray.empty⟩) hk, decide_eq_false hk]; rfl
theorem rkey_any (k : ByteArray) (w : World) (hk : k.size ≤ 150000000000000) : Calls Tryz.prog 58 #[.string k] w fun r w' => r = .returned (.bool (kOk k)) ∧ Below w.heap.size w w' := by
  have HC := hide (ncheck_any ⟨k, ByteArray.empty⟩ w hk (by simp))
  have HE := hide (ckE_kOk k hk)
  have hB : ∃ B, kOk k = B := ⟨_, rfl⟩
  obtain ⟨B, hB⟩ := hB
  rw [hB] at HE ⊢
  generalize ckE ⟨k, ByteArray.empty⟩ = E at *
  have hq : (E != 11) = B := HE.out
  have hq2 : (E == 11) = !B := by rw [← hq]; simp [bne]
  clear hB HE
  simp only [ncs] at HC
  cases B <;> simp only [Bool.not_true, Bool.not_false] at hq2
  all_goals
    go_enter Tryz.func58, Tryz.ntmps58
    go_wp2_with fail
    refine HC.out.mono ?_
    rintro e w1 ⟨rfl, hb⟩
    have HB := hide hb
    clear hb
    go_wp2_with fail
    try go_ret
    exact ⟨rfl, HB.out⟩
theorem lis_any (x y : Int) (w : World) : Calls Tryz.prog 85 #[.agg #[.int .i64 x, .int .i64 y]] w fun e w' => e = .returned (.bool (decide (locR (x, y)))) ∧ Below w.heap.size w w' := by
  have HB : Hid (Below w.heap.size w (w.alloc (.cells #[.int .i64 x, .int .i64 y] 84))) := (Below.refl _ _).alloc (Nat.le_refl _) _
  have main : ∀ (b1 b2 b3 b4 : Bool), decide (0 ≤ x) = b1 → decide (x < 12) = b2 → decide (0 ≤ y) = b3 → decide (y < 48) = b4 → Calls Tryz.prog 85 #[.agg #[.int .i64 x, .int .i64 y]] w fun e w' => e = .returned (.bool (decide (locR (x, y)))) ∧ Below w.heap.size w w' := by
    intro b1 b2 b3 b4 p1 p2 p3 p4
    have HE : Hid (decide (locR (x, y)) = (b1 && b2 && (b3 && b4))) := by
      have q2 : decide (x ≤ 11) = b2 := by rw [← p2]; congr 1; simp; omega
      have q4 : decide (y ≤ 47) = b4 := by rw [← p4]; congr 1; simp; omega
      exact dec_and (dec_and p1 q2) (dec_and p3 q4)
    rw [HE.out]
    clear HE
    cases b1 <;> cases b2 <;> cases b3 <;> cases b4
    all_goals
      go_enter Tryz.func85, Tryz.ntmps85
      go_wp2_with fail
      try go_ret
      exact ⟨rfl, HB.out⟩
  exact main _ _ _ _ rfl rfl rfl rfl
/-- what a kind has -/
def prt (k : Int) : Array Value := #[.bool (decide (k = 0 ∨ k = 2 ∨ k = 3)), .bool (decide (k = 0)), .bool (decide (k = 1)), .bool (decide (k = 3))]
set_option maxRecDepth 100000 in
set_option maxHeartbeats 2000000 in
theorem partsOf_any (k : Int) (w : World) : Calls Tryz.prog 55 #[.int .i64 k] w fun r w' => r = .returned (.agg (prt k)) ∧ Below w.heap.size w w' := by
  have HB2 : ∀ o1 o2, Below w.heap.size w ((w.alloc o1).alloc o2) := fun o1 o2 => ((Below.refl _ _).alloc (Nat.le_refl _) _).alloc (by rw [World.size_alloc]; omega) _
  have HB := hide HB2
  clear HB2
  unfold prt
  by_cases h0 : k = 0
  · subst h0
    simp
    go_enter Tryz.func55, Tryz.ntmps55
    go_wp2_with fail
    go_returns
    exact ⟨rfl, HB.out _ _⟩
  by_cases h1 : k = 1
  · subst h1
    simp
    go_enter Tryz.func55, Tryz.ntmps55
    go_wp2_with fail
    go_returns
    exact ⟨rfl, HB.out _ _⟩
  by_cases h2 : k = 2
  · subst h2
    simp
    go_enter Tryz.func55, Tryz.ntmps55
    go_wp2_with fail
    go_returns
    exact ⟨rfl, HB.out _ _⟩
  by_cases h3 : k = 3
  · subst h3
    simp
    go_enter Tryz.func55, Tryz.ntmps55
    go_wp2_with fail
    go_returns
    exact ⟨rfl, HB.out _ _⟩
  have q0 : (k == 0) = false := by simpa using h0
  have q1 : (k == 1) = false := by simpa using h1
  have q2 : (k == 2) = false := by simpa using h2
  have q3 : (k == 3) = false := by simpa using h3
  simp [h0, h1, h2, h3]
  go_enter Tryz.func55, Tryz.ntmps55
  go_wp2_with fail
  go_returns
  exact ⟨rfl, HB.out _ _⟩
set_option maxRecDepth 100000 in
set_option maxHeartbeats 4000000 in
theorem isWithin_any (v g n : Int) (a : Option Addr) (l c : Nat) (ek : ByteArray) (ev eo el : Int) (ed : ByteArray) (w : World) (hn : 0 ≤ n ∧ n ≤ 384) (ho : -9223372036854775808 ≤ eo ∧ eo ≤ 9223372036854775807) (hd : ed.size ≤ 9223372036854775807) : Calls Tryz.prog 59 #[.agg #[.string ek, .int .i64 ev, .int .i64 eo, .int .i64 el, .string ed], .agg #[.int .i64 v, .int .i64 g, .int .i64 n, .slice a l c]] w fun r w' => r = .returned (.bool (decide (inEn v ev eo el n ed.size))) ∧ Below w.heap.size w w' := by
  have HB : Hid (Below w.heap.size w ((w.alloc (.cells #[.string ek, .int .i64 ev, .int .i64 eo, .int .i64 el, .string ed] 38)).alloc (.cells #[.int .i64 v, .int .i64 g, .int .i64 n, .slice a l c] 36))) := ((Below.refl _ _).alloc (Nat.le_refl _) _).alloc (by rw [World.size_alloc]; omega) _
  have main : ∀ (b1 b2 b3 b4 b5 : Bool), (ev == v) = b1 → decide (0 ≤ eo) = b2 → decide (0 ≤ el) = b3 → decide (el ≤ n - eo) = b4 → (ed.size == 32) = b5 → Calls Tryz.prog 59 #[.agg #[.string ek, .int .i64 ev, .int .i64 eo, .int .i64 el, .string ed], .agg #[.int .i64 v, .int .i64 g, .int .i64 n, .slice a l c]] w fun r w' => r = .returned (.bool (decide (inEn v ev eo el n ed.size))) ∧ Below w.heap.size w w' := by
    intro b1 b2 b3 b4 b5 p1 p2 p3 p4 p5
    have HE : Hid (decide (inEn v ev eo el n ed.size) = (b1 && (b2 && (b3 && (b4 && b5))))) := dec_and (by rw [← p1]; rfl) (dec_and p2 (dec_and p3 (dec_and p4 (by rw [← p5]; rfl))))
    have hw : b2 = true → IntKind.i64.wrap (n - eo) = n - eo := fun hb => by
      subst hb
      have : 0 ≤ eo := by simpa using p2
      rw [IntKind.wrap_i64]; omega
    have p6 : ((ed.size : Int) == 32) = b5 := by rw [← p5, Bool.eq_iff_iff]; simp; omega
    rw [HE.out]
    clear HE p5
    cases b1
    · go_enter Tryz.func59, Tryz.ntmps59
      go_wp2_with fail
      try go_ret
      exact ⟨rfl, HB.out⟩
    cases b2
    · go_enter Tryz.func59, Tryz.ntmps59
      go_wp2_with fail
      try go_ret
      exact ⟨rfl, HB.out⟩
    have hw2 := hw rfl
    cases b3
    · go_enter Tryz.func59, Tryz.ntmps59
      go_wp2_with fail
      try go_ret
      exact ⟨rfl, HB.out⟩
    cases b4 <;> cases b5
    all_goals
      go_enter Tryz.func59, Tryz.ntmps59
      go_wp2_with fail
      try go_ret
      exact ⟨rfl, HB.out⟩
  exact main _ _ _ _ _ rfl rfl rfl rfl rfl
end Go.Proofs.YtonhmihmnkicdaaGreat
