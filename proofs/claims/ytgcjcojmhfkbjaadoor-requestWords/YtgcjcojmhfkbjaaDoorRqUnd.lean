/- The text that a word of digits tells: what request.ofDigits answers, and the document's Undigits. -/
import Derived.Test.YtgcjcojmhfkbjaaDoorRqDigits
namespace Go.Proofs.YtgcjcojmhfkbjaaDoor
open Go.RowKit
set_option linter.unusedVariables false
noncomputable def unV (s : ByteArray) : Value := match undg s with | some v => .tuple #[.string v, .bool true] | none => .tuple #[.string ByteArray.empty, .bool false]
theorem unV_some {s v : ByteArray} (h : undg s = some v) : unV s = .tuple #[.string v, .bool true] := by unfold unV; rw [h]
theorem unV_none {s : ByteArray} (h : undg s = none) : unV s = .tuple #[.string ByteArray.empty, .bool false] := by unfold unV; rw [h]
theorem undg_dash : undg dash = some ByteArray.empty := by unfold undg; rw [if_pos rfl]
theorem undg_odd {s : ByteArray} (h : s ≠ dash) (h2 : s.size = 0 ∨ s.size % 2 = 1) : undg s = none := by unfold undg; rw [if_neg h, if_pos h2]
theorem undg_no {s : ByteArray} (h : s ≠ dash) (h2 : ¬ (s.size = 0 ∨ s.size % 2 = 1)) (h3 : ¬ allD s) : undg s = none := by unfold undg; rw [if_neg h, if_neg h2, if_neg h3]
theorem undg_yes {s : ByteArray} (h : s ≠ dash) (h2 : ¬ (s.size = 0 ∨ s.size % 2 = 1)) (h3 : allD s) : undg s = some (mkS (s.size / 2) (ub (bt s))) := by unfold undg; rw [if_neg h, if_neg h2, if_pos h3]
theorem lit_t {s t : ByteArray} (l : List UInt8) (hl : t.toList = l) (h : s = t) : (s.toList == l) = true := by rw [h, hl]; simp
theorem lit_f {s t : ByteArray} (l : List UInt8) (hl : t.toList = l) (h : s ≠ t) : (s.toList == l) = false := by
  rw [← hl]; exact str_ne h
theorem dash_list : dash.toList = [45] := by rw [ByteArray.toList_eq]; rfl
theorem str_at (s : ByteArray) {p : Nat} (hp : p < s.size) (w : World) : (Instr.index 9 (.string s) (.int .i64 (p : Int))).run Tryd.prog w = .ok (.int .u8 ((bt s p : Nat) : Int)) w := by
  have hb : (p : Int) < s.size := by omega
  rw [run_index_string (P := Tryd.prog) w 9 s .i64 (p : Int) Tryd.underlying9]
  simp [hp, bt_eq hp]
theorem hi_lo {a b : Nat} (ha : a < 16) (hb : b < 16) : bits .or .u8 ((a : Int) * 16) (b : Int) = ((16 * a + b : Nat) : Int) := by
  rw [show ((a : Int) * 16) = ((16 * a : Nat) : Int) by omega, u8_or_nat _ _ (by omega) (by omega)]
  congr 1
  rw [show 16 * a = a <<< 4 by rw [Nat.shiftLeft_eq]; omega, ← Nat.shiftLeft_add_eq_or_of_lt (b := b) (i := 4) (by omega) a]
theorem allD_not {s : ByteArray} {p : Nat} (hp : p < s.size) (h : ¬ isD (bt s p)) : ¬ allD s := fun q => h (q p hp)
set_option maxRecDepth 100000 in
set_option maxHeartbeats 8000000 in
theorem ofDigits_any (s : ByteArray) (w : World) (hs : s.size ≤ 100000) : Calls Tryd.prog 52 #[.string s] w fun e w' => e = .returned (unV s) ∧ Below w.heap.size w w' := by
  by_cases hdash : s = dash
  · have e1 := lit_t [45] dash_list hdash
    have HE : Hid (unV s = .tuple #[.string ByteArray.empty, .bool true]) := unV_some (by rw [hdash]; exact undg_dash)
    clear hdash
    go_enter Tryd.func52, Tryd.ntmps52
    go_wp2_with fail
    first | go_ret | go_returns
    exact ⟨ret_val HE.out.symm, Below.refl _ _⟩
  have e1 := lit_f [45] dash_list hdash
  by_cases h0 : s.size = 0
  · have e2 := is_empty h0
    have HE := hide (unV_none (undg_odd hdash (.inl h0)))
    clear hdash h0
    go_enter Tryd.func52, Tryd.ntmps52
    go_wp2_with fail
    first | go_ret | go_returns
    exact ⟨ret_val HE.out.symm, Below.refl _ _⟩
  have e2 := not_empty h0
  by_cases hodd : s.size % 2 = 1
  · have e3 : ((s.size : Int) % 2 != 0) = true := by simp; omega
    have HE := hide (unV_none (undg_odd hdash (.inr hodd)))
    clear hdash h0 hodd
    go_enter Tryd.func52, Tryd.ntmps52
    go_wp2_with fail
    first | go_ret | go_returns
    exact ⟨ret_val HE.out.symm, Below.refl _ _⟩
  have e3 : ((s.size : Int) % 2 != 0) = false := by simp; omega
  have hno : ¬ (s.size = 0 ∨ s.size % 2 = 1) := by omega
  have HNO : Hid (¬ allD s → unV s = .tuple #[.string ByteArray.empty, .bool false]) := fun h => unV_none (undg_no hdash hno h)
  have HYES : Hid (allD s → unV s = .tuple #[.string (mkS (s.size / 2) (ub (bt s))), .bool true]) := fun h => unV_some (undg_yes hdash hno h)
  obtain ⟨n, hn⟩ : ∃ n, s.size = 2 * n := ⟨s.size / 2, by omega⟩
  have HSZ := hide hn
  have hdiv : (s.size : Int) / 2 = (n : Int) := by omega
  have hn2 : s.size / 2 = n := by omega
  rw [hn2] at HYES
  have hmk := make_room n (by omega) w
  have HST : Hid (ByRel w (w.alloc (.cells (fnC n fun _ => .int .u8 0) 5)) (ub (bt s)) (.slice (some ⟨w.heap.size, 0, none⟩) 0 n) 0) := ⟨room_own n (by omega) w (ub (bt s)) w.heap.size (Nat.le_refl _), (Below.refl _ _).alloc (Nat.le_refl _) _⟩
  obtain ⟨i0, hi0, hz0, hz1, hz2⟩ := info_parts u8_info
  have HI := hide hi0
  have HI0 := hide hz0
  have HI1 := hide hz1
  have HI2 := hide hz2
  have hn5 : n ≤ 50000 := by omega
  clear hi0 hz0 hz1 hz2 hdash h0 hodd hno hn2 hn
  go_enter Tryd.func52, Tryd.ntmps52
  go_wp2_with fail
  clear hmk
  go_loopw [4, 27] (fun x y wr => ∃ k : Nat, k ≤ n ∧ y = .int .i64 k ∧ Hid (ByRel w wr (ub (bt s)) x k) ∧ Hid (∀ p, p < 2 * k → isD (bt s p))) (fun _ y _ => n - (intOf y).toNat)
  case atStart => exact ⟨0, by omega, rfl, HST, hide (fun p hp => by omega)⟩
  case round =>
    obtain ⟨k, hk, rfl, H, HOK⟩ := hrel
    have hsz := H.out.2.size
    by_cases hlt : k < n
    · have hd : decide ((k : Int) < (n : Int)) = true := by simp; omega
      have p0 : 2 * k < s.size := by have := HSZ.out; omega
      have p1 : 2 * k + 1 < s.size := by have := HSZ.out; omega
      have i1 : ∀ W, (Instr.index 9 (.string s) (.int .i64 (2 * (k : Int)))).run Tryd.prog W = .ok (.int .u8 ((bt s (2 * k) : Nat) : Int)) W := fun W => by
        have := str_at s p0 W
        rw [show ((2 * k : Nat) : Int) = 2 * (k : Int) by omega] at this
        exact this
      have i2 : ∀ W, (Instr.index 9 (.string s) (.int .i64 (2 * (k : Int) + 1))).run Tryd.prog W = .ok (.int .u8 ((bt s (2 * k + 1) : Nat) : Int)) W := fun W => by
        have := str_at s p1 W
        rw [show ((2 * k + 1 : Nat) : Int) = 2 * (k : Int) + 1 by omega] at this
        exact this
      have HP := hide p0
      have HP1 := hide p1
      have c0 := bt_lt s (2 * k)
      have c1 := bt_lt s (2 * k + 1)
      have D0 := hide (fun W => digit_any (bt s (2 * k)) c0 W)
      have D1 := hide (fun W => digit_any (bt s (2 * k + 1)) c1 W)
      have HUB : Hid (ub (bt s) k = 16 * dv (bt s (2 * k)) + dv (bt s (2 * k + 1))) := rfl
      obtain ⟨a, ha⟩ : ∃ a, bt s (2 * k) = a := ⟨_, rfl⟩
      obtain ⟨b, hb⟩ : ∃ b, bt s (2 * k + 1) = b := ⟨_, rfl⟩
      have HA := hide ha
      have HB := hide hb
      simp only [ha, hb] at i1 i2 c0 c1 D0 D1 HUB
      clear ha hb p0 p1
      by_cases da : isD a
      · have e4 : dgV a = .tuple #[.int .u8 ((dv a : Nat) : Int), .bool true] := by unfold dgV; rw [if_pos da]
        rw [e4] at D0
        have la := dv_lt da
        by_cases db : isD b
        · have e5 : dgV b = .tuple #[.int .u8 ((dv b : Nat) : Int), .bool true] := by unfold dgV; rw [if_pos db]
          rw [e5] at D1
          have lb := dv_lt db
          have HN : Hid (∀ p, p < 2 * (k + 1) → isD (bt s p)) := fun p hp => by
            by_cases q : p < 2 * k
            · exact HOK.out p q
            · by_cases q2 : p = 2 * k
              · rw [q2, HA.out]; exact da
              · rw [show p = 2 * k + 1 by omega, HB.out]; exact db
          have hor := hi_lo la lb
          have hl1 : (dv a : Int) < 16 := by omega
          have hl2 : (dv b : Int) < 16 := by omega
          clear e4 e5 da db la lb
          generalize dv a = x at *
          generalize dv b = y at *
          go_wp2_with fail
          refine (D0.out _).mono ?_
          rintro e w1 ⟨rfl, rfl⟩
          go_wp2_with fail
          refine (D1.out _).mono ?_
          rintro e w1 ⟨rfl, rfl⟩
          have HX : Hid (16 * x + y = ub (bt s) k) := HUB.out.symm
          go_wp2_with (first | (at_builtin; refine wpList_append_own _ rfl (.tmp 53) (.tmp 58) 59 rfl w.heap.size 5 i0 (.int .u8 0) 1 1 Tryd.underlying59 HI.out HI0.out HI1.out HI2.out rfl (by decide) _ k (bys (ub (bt s)) k) rfl (H.out.1.alloc _) ⟨wr.heap.size, 0, none⟩ 1 1 [.int .u8 ((16 * x + y : Nat) : Int)] rfl rfl (cell_one_new _ _ _) (by simp [Value.oneCell']) (by unfold maxLen; omega) (by omega) (by simp; omega) ?_; intro v' w3 hown hgr hnil; clear hnil; have HN3 := hide (byRel_step H.out HX.out hown hgr); clear hown hgr))
          exact ⟨⟨k + 1, by omega, by go_num, HN3, HN⟩, by simp [intOf]; omega⟩
        · have e5 : dgV b = .tuple #[.int .u8 0, .bool false] := by unfold dgV; rw [if_neg db]
          rw [e5] at D1
          have HE := hide (HNO.out (allD_not HP1.out (by rw [HB.out]; exact db)))
          clear e4 e5 da db la
          generalize dv a = x at *
          go_wp2_with fail
          refine (D0.out _).mono ?_
          rintro e w1 ⟨rfl, rfl⟩
          go_wp2_with fail
          refine (D1.out _).mono ?_
          rintro e w1 ⟨rfl, rfl⟩
          go_wp2_with fail
          first | go_ret | go_returns
          exact ⟨ret_val HE.out.symm, H.out.2⟩
      · have e4 : dgV a = .tuple #[.int .u8 0, .bool false] := by unfold dgV; rw [if_neg da]
        rw [e4] at D0
        have HE := hide (HNO.out (allD_not HP.out (by rw [HA.out]; exact da)))
        have e5 : ∃ q : Int, ∃ z : Bool, dgV b = .tuple #[.int .u8 q, .bool z] := by
          unfold dgV
          split
          · exact ⟨_, _, rfl⟩
          · exact ⟨_, _, rfl⟩
        obtain ⟨q, z, e5⟩ := e5
        rw [e5] at D1
        clear e4 e5 da
        go_wp2_with fail
        refine (D0.out _).mono ?_
        rintro e w1 ⟨rfl, rfl⟩
        go_wp2_with fail
        refine (D1.out _).mono ?_
        rintro e w1 ⟨rfl, rfl⟩
        go_wp2_with fail
        first | go_ret | go_returns
        exact ⟨ret_val HE.out.symm, H.out.2⟩
    · have hd : decide ((k : Int) < (n : Int)) = false := by simp; omega
      obtain rfl : k = n := by omega
      have hcv := own_string H.out.1
      have HE := hide (HYES.out (fun p hp => HOK.out p (by have := HSZ.out; omega)))
      go_wp2_with fail
      first | go_ret | go_returns
      exact ⟨ret_val HE.out.symm, H.out.2⟩
theorem mkS_one_more (f : Nat → Nat) (k : Nat) (h : ∀ p, p ≤ k → f p < 256) : mkS k f ++ (mkS 1 fun _ => f k) = mkS (k + 1) f := by
  apply ext_bt
  · simp only [ByteArray.size_append, mkS_size]
  · intro p hp
    simp only [ByteArray.size_append, mkS_size] at hp
    rw [mkS_bt hp (h p (by omega)), app_bt]
    simp only [mkS_size]
    by_cases q : p < k
    · rw [if_pos q, mkS_bt q (h p (by omega))]
    · obtain rfl : p = k := by omega
      rw [if_neg q, Nat.sub_self, mkS_bt (f := fun _ => f p) (p := 0) (by omega) (h p (Nat.le_refl _))]
set_option maxRecDepth 100000 in
set_option maxHeartbeats 8000000 in
theorem undigits_any (s : ByteArray) (w : World) (hs : s.size ≤ 100000) : Calls Tryd.prog 28 #[.string s] w fun e w' => e = .returned (unV s) ∧ Below w.heap.size w w' := by
  by_cases hdash : s = dash
  · have e1 := lit_t [45] dash_list hdash
    have HE : Hid (unV s = .tuple #[.string ByteArray.empty, .bool true]) := unV_some (by rw [hdash]; exact undg_dash)
    clear hdash
    go_enter Tryd.func28, Tryd.ntmps28
    go_wp2_with fail
    first | go_ret | go_returns
    exact ⟨ret_val HE.out.symm, Below.refl _ _⟩
  have e1 := lit_f [45] dash_list hdash
  by_cases h0 : s.size = 0
  · have e2 := is_empty h0
    have HE := hide (unV_none (undg_odd hdash (.inl h0)))
    clear hdash h0
    go_enter Tryd.func28, Tryd.ntmps28
    go_wp2_with fail
    first | go_ret | go_returns
    exact ⟨ret_val HE.out.symm, Below.refl _ _⟩
  have e2 := not_empty h0
  by_cases hodd : s.size % 2 = 1
  · have e3 : ((s.size : Int) % 2 == 1) = true := by simp; omega
    have HE := hide (unV_none (undg_odd hdash (.inr hodd)))
    clear hdash h0 hodd
    go_enter Tryd.func28, Tryd.ntmps28
    go_wp2_with fail
    first | go_ret | go_returns
    exact ⟨ret_val HE.out.symm, Below.refl _ _⟩
  have e3 : ((s.size : Int) % 2 == 1) = false := by simp; omega
  have hno : ¬ (s.size = 0 ∨ s.size % 2 = 1) := by omega
  have HNO : Hid (¬ allD s → unV s = .tuple #[.string ByteArray.empty, .bool false]) := fun h => unV_none (undg_no hdash hno h)
  have HYES : Hid (allD s → unV s = .tuple #[.string (mkS (s.size / 2) (ub (bt s))), .bool true]) := fun h => unV_some (undg_yes hdash hno h)
  obtain ⟨n, hn⟩ : ∃ n, s.size = 2 * n := ⟨s.size / 2, by omega⟩
  have HSZ := hide hn
  have hn2 : s.size / 2 = n := by omega
  rw [hn2] at HYES
  have hn5 : n ≤ 50000 := by omega
  clear hdash h0 hodd hno hn2 hn
  go_enter Tryd.func28, Tryd.ntmps28
  go_wp2_with fail
  go_loopw [4, 5] (fun x y wr => ∃ k : Nat, k ≤ n ∧ y = .int .i64 (2 * (k : Int)) ∧ x = .string (mkS k (ub (bt s))) ∧ Hid (Below w.heap.size w wr) ∧ Hid (∀ p, p < 2 * k → isD (bt s p))) (fun _ y _ => s.size - (intOf y).toNat)
  case atStart => exact ⟨0, by omega, rfl, rfl, hide (Below.refl _ _), hide (fun p hp => by omega)⟩
  case round =>
    obtain ⟨k, hk, rfl, rfl, H, HOK⟩ := hrel
    have hsz := H.out.size
    by_cases hlt : k < n
    · have p0 : 2 * k < s.size := by have := HSZ.out; omega
      have p1 : 2 * k + 1 < s.size := by have := HSZ.out; omega
      have hd : decide (2 * (k : Int) < (s.size : Int)) = true := by simp; omega
      have i1 : ∀ W, (Instr.index 9 (.string s) (.int .i64 (2 * (k : Int)))).run Tryd.prog W = .ok (.int .u8 ((bt s (2 * k) : Nat) : Int)) W := fun W => by
        have := str_at s p0 W
        rw [show ((2 * k : Nat) : Int) = 2 * (k : Int) by omega] at this
        exact this
      have i2 : ∀ W, (Instr.index 9 (.string s) (.int .i64 (2 * (k : Int) + 1))).run Tryd.prog W = .ok (.int .u8 ((bt s (2 * k + 1) : Nat) : Int)) W := fun W => by
        have := str_at s p1 W
        rw [show ((2 * k + 1 : Nat) : Int) = 2 * (k : Int) + 1 by omega] at this
        exact this
      have HP := hide p0
      have HP1 := hide p1
      have c0 := bt_lt s (2 * k)
      have c1 := bt_lt s (2 * k + 1)
      have D0 := hide (fun W => refdigit_any (bt s (2 * k)) c0 W)
      have D1 := hide (fun W => refdigit_any (bt s (2 * k + 1)) c1 W)
      have HUB : Hid (ub (bt s) k = 16 * dv (bt s (2 * k)) + dv (bt s (2 * k + 1))) := rfl
      obtain ⟨a, ha⟩ : ∃ a, bt s (2 * k) = a := ⟨_, rfl⟩
      obtain ⟨b, hb⟩ : ∃ b, bt s (2 * k + 1) = b := ⟨_, rfl⟩
      have HA := hide ha
      have HB := hide hb
      simp only [ha, hb] at i1 i2 c0 c1 D0 D1 HUB
      clear ha hb p0 p1
      by_cases da : isD a
      · have e4 : rdI a = ((dv a : Nat) : Int) := by unfold rdI; rw [if_pos da]
        rw [e4] at D0
        have la := dv_lt da
        by_cases db : isD b
        · have e5 : rdI b = ((dv b : Nat) : Int) := by unfold rdI; rw [if_pos db]
          rw [e5] at D1
          have lb := dv_lt db
          have hok : ∀ p, p < 2 * (k + 1) → isD (bt s p) := fun p hp => by
            by_cases q : p < 2 * k
            · exact HOK.out p q
            · by_cases q2 : p = 2 * k
              · rw [q2, HA.out]; exact da
              · rw [show p = 2 * k + 1 by omega, HB.out]; exact db
          have HN := hide hok
          have HMK : Hid (mkS k (ub (bt s)) ++ (mkS 1 fun _ => 16 * dv a + dv b) = mkS (k + 1) (ub (bt s))) := by
            show _ = _
            rw [← HUB.out]
            refine mkS_one_more _ _ fun p hp => ?_
            unfold ub
            have l1 := dv_lt (hok (2 * p) (by omega))
            have l2 := dv_lt (hok (2 * p + 1) (by omega))
            omega
          have z1 : (mkS k (ub (bt s))).size = k := mkS_size _ _
          have z2 : (mkS 1 fun _ => 16 * dv a + dv b).size = 1 := mkS_size _ _
          have g1 : decide (((dv a : Nat) : Int) < 0) = false := by simp
          have g2 : decide (((dv b : Nat) : Int) < 0) = false := by simp
          have hl1 : (dv a : Int) < 16 := by omega
          have hl2 : (dv b : Int) < 16 := by omega
          have hcx : 16 * (dv a : Int) + (dv b : Int) = ((16 * dv a + dv b : Nat) : Int) := by omega
          have hcl : 16 * dv a + dv b < 256 := by omega
          have hw : IntKind.u8.wrap ((16 * dv a + dv b : Nat) : Int) = ((16 * dv a + dv b : Nat) : Int) := by rw [IntKind.wrap_u8]; omega
          have hcv := one_string (16 * dv a + dv b) wr
          clear e4 e5 da db la lb hok
          generalize mkS k (ub (bt s)) = M at *
          generalize dv a = x at *
          generalize dv b = y at *
          generalize 16 * x + y = z at *
          go_wp2_with fail
          refine (D0.out _).mono ?_
          rintro e w1 ⟨rfl, rfl⟩
          go_wp2_with fail
          refine (D1.out _).mono ?_
          rintro e w1 ⟨rfl, rfl⟩
          go_wp2_with fail
          rw [HMK.out]
          exact ⟨⟨k + 1, by omega, by go_num, rfl, hide (H.out.alloc hsz _), HN⟩, by have := HP.out; simp [intOf]; omega⟩
        · have e5 : rdI b = -1 := by unfold rdI; rw [if_neg db]
          rw [e5] at D1
          have HE := hide (HNO.out (allD_not HP1.out (by rw [HB.out]; exact db)))
          have g1 : decide (((dv a : Nat) : Int) < 0) = false := by simp
          clear e4 e5 da db la
          generalize dv a = x at *
          go_wp2_with fail
          refine (D0.out _).mono ?_
          rintro e w1 ⟨rfl, rfl⟩
          go_wp2_with fail
          refine (D1.out _).mono ?_
          rintro e w1 ⟨rfl, rfl⟩
          go_wp2_with fail
          first | go_ret | go_returns
          exact ⟨ret_val HE.out.symm, H.out⟩
      · have e4 : rdI a = -1 := by unfold rdI; rw [if_neg da]
        rw [e4] at D0
        have HE := hide (HNO.out (allD_not HP.out (by rw [HA.out]; exact da)))
        generalize rdI b = q at *
        clear e4 da
        go_wp2_with fail
        refine (D0.out _).mono ?_
        rintro e w1 ⟨rfl, rfl⟩
        go_wp2_with fail
        refine (D1.out _).mono ?_
        rintro e w1 ⟨rfl, rfl⟩
        go_wp2_with fail
        first | go_ret | go_returns
        exact ⟨ret_val HE.out.symm, H.out⟩
    · obtain rfl : k = n := by omega
      have hd : decide (2 * (k : Int) < (s.size : Int)) = false := by have := HSZ.out; simp; omega
      have HE := hide (HYES.out (fun p hp => HOK.out p (by have := HSZ.out; omega)))
      go_wp2_with fail
      first | go_ret | go_returns
      exact ⟨ret_val HE.out.symm, H.out⟩
end Go.Proofs.YtgcjcojmhfkbjaaDoor
