/- ReplayCut answers true at every input. -/
import Derived.Test.YtaiafbihcfbglaaRpLive
import Derived.Test.YtaiafbihcfbglaaRpRow
namespace Go.Proofs.Ytaiafbihcfbglaa
open Go.RowKit
set_option linter.unusedVariables false
set_option maxRecDepth 100000 in
set_option maxHeartbeats 8000000 in
theorem cut_a (a0 : Option Addr) (l0 c0 : Nat) (n : Int) (junk : ByteArray) (w : World) (L0 : List ByteArray) (hl0 : L0.length = l0) (z0 : l0 ≤ 9223372036854775807) (hS0 : StrsAt w a0 L0) (h : smallB L0 20 300 = false) : Calls Try.prog 7 #[.slice a0 l0 c0, .int .i64 n, .string junk] w fun e w' => e = .returned (.bool true) ∧ Below w.heap.size w w' := by
  have HL0 := hide hl0
  have HS0 := hide hS0
  clear hl0 hS0
  go_enter Try.func7, Try.ntmps7
  go_wp2_with fail
  refine (small_wide a0 l0 c0 20 300 L0 w HL0.out z0 HS0.out).mono ?_
  rintro e _ ⟨he, rfl⟩
  rw [h] at he; subst he
  go_wp2_with fail
  refine (live12_any w).mono ?_
  rintro e wl ⟨rfl, hbl⟩
  go_wp2_with fail
  try go_ret
  exact ⟨rfl, hbl⟩
set_option maxRecDepth 100000 in
set_option maxHeartbeats 8000000 in
theorem cut_b (a0 : Option Addr) (l0 c0 : Nat) (n : Int) (junk : ByteArray) (w : World) (L0 : List ByteArray) (hl0 : L0.length = l0) (z0 : l0 ≤ 9223372036854775807) (hS0 : StrsAt w a0 L0) (s0 : smallB L0 20 300 = true) (h : n < 0) : Calls Try.prog 7 #[.slice a0 l0 c0, .int .i64 n, .string junk] w fun e w' => e = .returned (.bool true) ∧ Below w.heap.size w w' := by
  have HL0 := hide hl0
  have HS0 := hide hS0
  clear hl0 hS0
  have d1 : decide (n < 0) = true := by simpa using h
  go_enter Try.func7, Try.ntmps7
  go_wp2_with fail
  refine (small_wide a0 l0 c0 20 300 L0 w HL0.out z0 HS0.out).mono ?_
  rintro e _ ⟨he, rfl⟩
  rw [s0] at he; subst he
  go_wp2_with fail
  refine (live12_any w).mono ?_
  rintro e wl ⟨rfl, hbl⟩
  go_wp2_with fail
  try go_ret
  exact ⟨rfl, hbl⟩
set_option maxRecDepth 100000 in
set_option maxHeartbeats 8000000 in
theorem cut_c (a0 : Option Addr) (l0 c0 : Nat) (n : Int) (junk : ByteArray) (w : World) (L0 : List ByteArray) (hl0 : L0.length = l0) (z0 : l0 ≤ 9223372036854775807) (hS0 : StrsAt w a0 L0) (s0 : smallB L0 20 300 = true) (h0 : ¬ n < 0) (h : (l0 : Int) ≤ n) : Calls Try.prog 7 #[.slice a0 l0 c0, .int .i64 n, .string junk] w fun e w' => e = .returned (.bool true) ∧ Below w.heap.size w w' := by
  have HL0 := hide hl0
  have HS0 := hide hS0
  clear hl0 hS0
  have d1 : decide (n < 0) = false := by simpa using h0
  have d2 : decide (n ≥ (l0 : Int)) = true := by simpa using h
  go_enter Try.func7, Try.ntmps7
  go_wp2_with fail
  refine (small_wide a0 l0 c0 20 300 L0 w HL0.out z0 HS0.out).mono ?_
  rintro e _ ⟨he, rfl⟩
  rw [s0] at he; subst he
  go_wp2_with fail
  refine (live12_any w).mono ?_
  rintro e wl ⟨rfl, hbl⟩
  go_wp2_with fail
  try go_ret
  exact ⟨rfl, hbl⟩
set_option maxRecDepth 100000 in
set_option maxHeartbeats 8000000 in
theorem cut_d (a0 : Option Addr) (l0 c0 : Nat) (n : Int) (junk : ByteArray) (w : World) (L0 : List ByteArray) (hl0 : L0.length = l0) (z0 : l0 ≤ 9223372036854775807) (hS0 : StrsAt w a0 L0) (s0 : smallB L0 20 300 = true) (h0 : ¬ n < 0) (h1 : ¬ (l0 : Int) ≤ n) (hj : junk.size ≤ 9223372036854775807) (h : 8 < junk.size) : Calls Try.prog 7 #[.slice a0 l0 c0, .int .i64 n, .string junk] w fun e w' => e = .returned (.bool true) ∧ Below w.heap.size w w' := by
  have HL0 := hide hl0
  have HS0 := hide hS0
  clear hl0 hS0
  have d1 : decide (n < 0) = false := by simpa using h0
  have d2 : decide (n ≥ (l0 : Int)) = false := by simp; omega
  have d3 : decide ((junk.size : Int) > 8) = true := by simp; omega
  go_enter Try.func7, Try.ntmps7
  go_wp2_with fail
  refine (small_wide a0 l0 c0 20 300 L0 w HL0.out z0 HS0.out).mono ?_
  rintro e _ ⟨he, rfl⟩
  rw [s0] at he; subst he
  go_wp2_with fail
  refine (live12_any w).mono ?_
  rintro e wl ⟨rfl, hbl⟩
  go_wp2_with fail
  try go_ret
  exact ⟨rfl, hbl⟩
set_option maxRecDepth 100000 in
set_option maxHeartbeats 8000000 in
theorem cut_main (a0 : Option Addr) (l0 c0 : Nat) (k : Nat) (junk : ByteArray) (w : World) (L0 : List ByteArray) (hl0 : L0.length = l0) (z0 : l0 ≤ 9223372036854775807) (hS0 : StrsAt w a0 L0) (hc0 : l0 ≤ c0) (hc63 : c0 ≤ 9223372036854775807) (s0 : smallB L0 20 300 = true) (hk : k < l0) (hj : junk.size ≤ 8) (P : List Rc) (hP : prefR L0 = P) (m : Nat) (hm : (P.take k).length = m) : Calls Try.prog 7 #[.slice a0 l0 c0, .int .i64 (k : Int), .string junk] w fun e w' => e = .returned (.bool true) ∧ Below w.heap.size w w' := by
  have h20 : l0 ≤ 20 := small_len (m := 20) s0 hl0
  have XA : Hid (∀ w, StrsAt w a0 L0 → Calls Try.prog 12 #[.slice a0 l0 c0] w (PxP P w)) := fun w q => by rw [← hP]; exact px_any a0 l0 c0 L0 w hl0 z0 q (small_of s0)
  have XB : Hid (∀ w, StrsAt w a0 (L0.take k) → Calls Try.prog 12 #[.slice a0 k c0] w (PxP (P.take k) w)) := fun w q => by
    have e : prefR (L0.take k) = P.take k := by rw [← hP]; exact pref_cut L0 0 k
    rw [← e]
    exact px_any a0 k c0 (L0.take k) w (by rw [List.length_take]; omega) (by omega) q fun s hs => small_of s0 s (List.mem_of_mem_take hs)
  have XC : Hid (∀ (g c : Nat) w, StrsAt w (some ⟨g, 0, none⟩) (L0.set k junk) → Calls Try.prog 12 #[.slice (some ⟨g, 0, none⟩) l0 c] w (PxP (P.take k) w)) := fun g c w q => by
    have e : prefR (L0.set k junk) = P.take k := by rw [← hP]; exact pref_set L0 0 k junk (by omega) (by rw [Nat.zero_add]; exact ok_short hj)
    rw [← e]
    refine px_any _ l0 c (L0.set k junk) w (by rw [List.length_set]; exact hl0) z0 q fun s hs => ?_
    rcases List.mem_or_eq_of_mem_set hs with h | h
    · exact small_of s0 s h
    · rw [h]; omega
  have HM : Hid (m = min k P.length) := by rw [List.length_take] at hm; exact hm.symm
  have HT := hide hm
  have HKL : Hid (∃ s, L0[k]? = some s) := ⟨_, List.getElem?_eq_getElem (by omega)⟩
  obtain ⟨i0, hi, hz0, hz1, hz2⟩ := info_parts str_info
  have HI := hide hi
  have HI0 := hide hz0
  have HI1 := hide hz1
  have HI2 := hide hz2
  clear hi hz0 hz1 hz2 hP hm
  have HL0 := hide hl0
  have HS0 := hide hS0
  clear hl0 hS0
  have d1 : decide ((k : Int) < 0) = false := by simp
  have d2 : decide ((k : Int) ≥ (l0 : Int)) = false := by simp; omega
  have d3 : decide ((junk.size : Int) > 8) = false := by simp; omega
  have d4 : (0 : Int) ≤ (k : Int) := by omega
  have d5 : (k : Int) < (l0 : Int) := by omega
  have d6 : (k : Int) ≤ (c0 : Int) := by omega
  go_enter Try.func7, Try.ntmps7
  go_wp2_with fail
  refine (small_wide a0 l0 c0 20 300 L0 w HL0.out z0 HS0.out).mono ?_
  rintro e _ ⟨he, rfl⟩
  rw [s0] at he; subst he
  go_wp2_with fail
  clear s0 d1 d2 d3
  refine (XA.out w HS0.out).mono ?_
  rintro e w1 ⟨p0, n0, k0, rfl, hr, hb⟩
  have B1 := hide hb
  have R1 := hide hr
  have S1 := hide (HS0.out.below hb)
  clear hb hr
  rcases S1.out with h | ⟨sb, so, rfl, hsb, hsc⟩
  · have := HL0.out; rw [h] at this; simp at this; omega
  clear hsb hsc
  go_wp2_with (first | (at_builtin; refine wpList_append_own _ rfl (.tmp 33) (.tmp 34) 22 rfl w1.heap.size 9 i0 (.string ByteArray.empty) 1 16 Try.underlying22 HI.out HI0.out HI1.out HI2.out rfl (by decide) _ 0 [] rfl (World.ownsRow_nil _ _ _ _) ⟨sb, so, none⟩ l0 _ (stV L0) rfl (by rw [stV_len, HL0.out]) S1.out.news (stV_one L0) (by unfold maxLen; omega) (by omega) (Nat.le_refl _) ?_; intro v' w2 hown hgr hnil; clear hnil; obtain ⟨g, cap, hv', hg, hcap, hcm, hsb⟩ := row_sb (by rw [Nat.zero_add, List.nil_append] at hown; exact hown) HL0.out (by omega); subst hv'; have B2 := hide (below_of_grown hgr); have G2 := hide hsb; obtain ⟨s9, hs9⟩ := HKL.out; have q1 := hsb.cell hs9; have q2 := hsb.free k; clear hown hgr hsb hs9))
  clear q1 q2
  have G3 := hide (G2.out.set k junk)
  have hsc : Below w1.heap.size w1 (w2.setCell ⟨g, k, none⟩ (.string junk)) := B2.out.setCell (p := ⟨g, k, none⟩) hg _
  have B3 := hide (B1.out.trans (hsc.mono B1.out.size))
  have R3 := hide (R1.out.below hsc)
  have S3 := hide ((S1.out.below hsc).take k)
  clear hsc G2 B2 B1 R1 S1
  generalize w2.setCell ⟨g, k, none⟩ (.string junk) = w3 at *
  refine (XB.out w3 S3.out).mono ?_
  rintro e w4 ⟨p1, n1, k1, rfl, hr, hb⟩
  have B4 := hide (B3.out.trans (hb.mono B3.out.size))
  have G4 := hide (G3.out.below hb G3.out.lt)
  have R4 := hide (R3.out.below hb)
  have RA4 := hide hr
  clear hb hr B3 G3 R3 S3
  go_wp2_with fail
  refine (XC.out g cap w4 G4.out.strs).mono ?_
  rintro e w5 ⟨p2, n2, k2, rfl, hr, hb⟩
  have B5 := hide (B4.out.trans (hb.mono B4.out.size))
  have R5 := hide (R4.out.below hb)
  have RA5 := hide (RA4.out.below hb)
  have RB5 := hide hr
  obtain rfl : n1 = m := by have := RA5.out.len; have := HT.out; omega
  obtain rfl : n2 = n1 := by have := RB5.out.len; have := HT.out; omega
  have hmn : n2 = min k n0 := by have := HM.out; have := R5.out.len; omega
  clear hb hr B4 G4 R4 RA4 HM
  subst hmn
  have BT := hide (begR_take P k)
  go_wp2_with fail
  all_goals
    refine (pb_any RA5.out R5.out).mono ?_
    rintro e w6 ⟨he, hb⟩
    rw [BT.out] at he; subst he
    have B6 := hide (B5.out.trans (hb.mono B5.out.size))
    have R6 := hide (R5.out.below hb)
    have RB6 := hide (RB5.out.below hb)
    clear hb B5 R5 RA5 RB5
    go_wp2_with fail
    refine (pb_any RB6.out R6.out).mono ?_
    rintro e w7 ⟨he, hb⟩
    rw [BT.out] at he; subst he
    have B7 := hide (B6.out.trans (hb.mono B6.out.size))
    clear hb B6 R6 RB6
    go_wp2_with fail
    refine (live12_any w7).mono ?_
    rintro e w8 ⟨rfl, hb⟩
    have B8 := hide (B7.out.trans (hb.mono B7.out.size))
    clear hb B7
    go_wp2_with fail
    try go_ret
    exact ⟨rfl, B8.out⟩
theorem walkReplayCut (a0 : Option Addr) (l0 c0 : Nat) (n : Int) (junk : ByteArray) (w : World) (h0 : Came 22 w a0 l0 c0) (h1 : (Lit.int .i64 n).wf = true) (h2 : junk.size ≤ reachBytes) : Calls Try.prog 7 #[.slice a0 l0 c0, .int .i64 n, .string junk] w fun e w' => e = .returned (.bool true) ∧ Below w.heap.size w w' := by
  obtain ⟨L0, hl0, _, z0, hS0⟩ := came_strs h0
  obtain ⟨k1, k2⟩ := came_str_cap h0
  cases s0 : smallB L0 20 300
  · exact cut_a a0 l0 c0 n junk w L0 hl0 z0 hS0 s0
  by_cases q0 : n < 0
  · exact cut_b a0 l0 c0 n junk w L0 hl0 z0 hS0 s0 q0
  by_cases q1 : (l0 : Int) ≤ n
  · exact cut_c a0 l0 c0 n junk w L0 hl0 z0 hS0 s0 q0 q1
  by_cases q2 : 8 < junk.size
  · exact cut_d a0 l0 c0 n junk w L0 hl0 z0 hS0 s0 q0 q1 (by unfold reachBytes at h2; omega) q2
  obtain ⟨k, rfl⟩ := Int.eq_ofNat_of_zero_le (show 0 ≤ n by omega)
  exact cut_main a0 l0 c0 k junk w L0 hl0 z0 hS0 k1 k2 s0 (by omega) (by omega) _ rfl _ rfl
end Go.Proofs.Ytaiafbihcfbglaa
