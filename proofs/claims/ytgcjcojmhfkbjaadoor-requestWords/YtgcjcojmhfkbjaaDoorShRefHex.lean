/- What sluicegateref03.Hex answers: the same digits. -/
import Derived.Test.YtgcjcojmhfkbjaaDoorShHex
namespace Go.Proofs.YtgcjcojmhfkbjaaDoor
open Go.RowKit
theorem app_bt (a b : ByteArray) (p : Nat) : bt (a ++ b) p = if p < a.size then bt a p else bt b (p - a.size) := by
  by_cases h : p < a.size
  · rw [if_pos h, ← bt_eq h, ← bt_eq (s := a ++ b) (by rw [ByteArray.size_append]; omega), ByteArray.getElem_append_left h]
  · rw [if_neg h]
    by_cases h2 : p - a.size < b.size
    · rw [← bt_eq h2, ← bt_eq (s := a ++ b) (by rw [ByteArray.size_append]; omega), ByteArray.getElem_append_right (by omega)]
    · unfold bt
      rw [dif_neg h2, dif_neg (by rw [ByteArray.size_append]; omega)]
theorem mkS_two (f : Nat → Nat) (k : Nat) (h : ∀ p, f p < 256) : mkS (2 * k) (hx f) ++ mkS 1 (fun _ => dgt (f k / 16)) ++ mkS 1 (fun _ => dgt (f k % 16)) = mkS (2 * (k + 1)) (hx f) := by
  have hk := h k
  have e0 : hx f (2 * k) = dgt (f k / 16) := by unfold hx; rw [if_pos (by omega), show 2 * k / 2 = k by omega]
  have e1 : hx f (2 * k + 1) = dgt (f k % 16) := by unfold hx; rw [if_neg (by omega), show (2 * k + 1) / 2 = k by omega]
  apply ext_bt
  · simp only [ByteArray.size_append, mkS_size]; omega
  · intro p hp
    simp only [ByteArray.size_append, mkS_size] at hp
    rw [mkS_bt (by omega) (hx_lt h p), app_bt, app_bt]
    simp only [ByteArray.size_append, mkS_size]
    by_cases h1 : p < 2 * k
    · rw [if_pos (by omega), if_pos h1, mkS_bt h1 (hx_lt h p)]
    · by_cases h2 : p = 2 * k
      · subst h2
        rw [if_pos (by omega), if_neg h1, Nat.sub_self, mkS_bt (f := fun _ => dgt (f k / 16)) (p := 0) (by omega) (dgt_lt (by omega)), e0]
      · obtain rfl : p = 2 * k + 1 := by omega
        rw [if_neg (by omega), Nat.sub_self, mkS_bt (f := fun _ => dgt (f k % 16)) (p := 0) (by omega) (dgt_lt (by omega)), e1]
theorem dig_ext {n : Nat} (h : n < 16) : (⟨#[48, 49, 50, 51, 52, 53, 54, 55, 56, 57, 97, 98, 99, 100, 101, 102]⟩ : ByteArray).extract n (n + 1) = mkS 1 (fun _ => dgt n) := by
  rcases lt16 h with rfl | rfl | rfl | rfl | rfl | rfl | rfl | rfl | rfl | rfl | rfl | rfl | rfl | rfl | rfl | rfl <;> decide
theorem dig_slice {n : Nat} (h : n < 16) (wx : World) : (Instr.slice 9 (.string ⟨#[48, 49, 50, 51, 52, 53, 54, 55, 56, 57, 97, 98, 99, 100, 101, 102]⟩) (some (.int .u8 (n : Int))) (some (.int .u8 ((n : Int) + 1))) none).run Tryd.prog wx = .ok (.string (mkS 1 (fun _ => dgt n))) wx := by
  have hl : (⟨#[48, 49, 50, 51, 52, 53, 54, 55, 56, 57, 97, 98, 99, 100, 101, 102]⟩ : ByteArray).size = 16 := rfl
  have := run_slice_string (P := Tryd.prog) wx 9 ⟨#[48, 49, 50, 51, 52, 53, 54, 55, 56, 57, 97, 98, 99, 100, 101, 102]⟩ .u8 .u8 (n : Int) ((n : Int) + 1) Tryd.underlying9 (by omega) (by omega) (by rw [hl]; omega)
  rw [this, show ((n : Int) + 1).toNat = n + 1 by omega, Int.toNat_natCast, dig_ext h]
set_option maxRecDepth 100000 in
set_option maxHeartbeats 4000000 in
theorem refHex_any (s : ByteArray) (w : World) (hs : s.size ≤ 100000) :
    Calls Tryd.prog 33 #[.string s] w fun e w' => e = .returned (.string (mkS (2 * s.size) (hx (bt s)))) ∧ ∃ n, w' = w.drewN n := by
  go_enter Tryd.func33, Tryd.ntmps33
  go_wp2_with fail
  go_loopw [4, 5] (fun x y wr => ∃ k : Nat, k ≤ s.size ∧ y = .int .i64 k ∧ x = .string (mkS (2 * k) (hx (bt s))) ∧ Hid (∃ n, wr = w.drewN n)) (fun _ y _ => s.size - (intOf y).toNat)
  case atStart => exact ⟨0, by omega, rfl, rfl, 0, rfl⟩
  case round =>
    obtain ⟨k, hk, rfl, rfl, hrel⟩ := hrel
    by_cases hlt : k < s.size
    · have hd : decide ((k : Int) < (s.size : Int)) = true := by simp; omega
      have b1 : (k : Int) < s.size := by omega
      have hb0 : (s[k]'hlt).toNat < 256 := UInt8.toNat_lt _
      have HBT := hide (bt_eq hlt)
      generalize hc : (s[k]'hlt).toNat = c at *
      have hdiv : (c : Int) / 16 = ((c / 16 : Nat) : Int) := by omega
      have hmod : (c : Int) % 16 = ((c % 16 : Nat) : Int) := by omega
      have hq1 : c / 16 < 16 := by omega
      have hq2 : c % 16 < 16 := by omega
      have HN : Hid (mkS (2 * k) (hx (bt s)) ++ mkS 1 (fun _ => dgt (c / 16)) ++ mkS 1 (fun _ => dgt (c % 16)) = mkS (2 * (k + 1)) (hx (bt s))) := by
        rw [HBT.out]
        exact mkS_two (bt s) k (bt_lt s)
      generalize c / 16 = q at *
      generalize c % 16 = r at *
      have hi1 : (q : Int) < 16 := by omega
      have hi2 : (r : Int) < 16 := by omega
      have hw1 : IntKind.u8.wrap (q : Int) = q := by rw [IntKind.wrap_u8]; omega
      have hw2 : IntKind.u8.wrap (r : Int) = r := by rw [IntKind.wrap_u8]; omega
      have hw3 : IntKind.u8.wrap ((q : Int) + 1) = (q : Int) + 1 := by rw [IntKind.wrap_u8]; omega
      have hw4 : IntKind.u8.wrap ((r : Int) + 1) = (r : Int) + 1 := by rw [IntKind.wrap_u8]; omega
      have hs1 := dig_slice hq1
      have hs2 := dig_slice hq2
      have z0 : (mkS (2 * k) (hx (bt s))).size = 2 * k := mkS_size _ _
      have z1 : (mkS 1 (fun _ => dgt q)).size = 1 := mkS_size _ _
      have z2 : (mkS 1 (fun _ => dgt r)).size = 1 := mkS_size _ _
      generalize mkS (2 * k) (hx (bt s)) = SA at *
      generalize mkS 1 (fun _ => dgt q) = SB at *
      generalize mkS 1 (fun _ => dgt r) = SC at *
      have hs3 : ∀ wx, (Op.stringOp .add SA SB).run Tryd.prog wx = .ok (.string (SA ++ SB)) wx := fun wx => run_string_add_sum wx _ _ (by omega)
      have hs4 : ∀ wx, (Op.stringOp .add (SA ++ SB) SC).run Tryd.prog wx = .ok (.string (SA ++ SB ++ SC)) wx := fun wx => run_string_add_sum wx _ _ (by rw [ByteArray.size_append]; omega)
      generalize SA ++ SB = SAB at *
      generalize SAB ++ SC = SABC at *
      go_wp2_with fail
      go_quiet (fail)
      have HE : Hid (∃ n, wr.drewN nq = w.drewN n) := by
        obtain ⟨m, e⟩ := hrel.out
        exact ⟨m + nq, by rw [e, World.drewN_drewN]⟩
      clear hrel
      generalize wr.drewN nq = wq at *
      go_wp2_with fail
      refine ⟨⟨k + 1, by omega, by go_num, by rw [HN.out], HE⟩, by simp [intOf]; omega⟩
    · obtain rfl : k = s.size := by omega
      go_wp2_with fail
      go_ret
      exact ⟨rfl, hrel.out⟩
end Go.Proofs.YtgcjcojmhfkbjaaDoor
