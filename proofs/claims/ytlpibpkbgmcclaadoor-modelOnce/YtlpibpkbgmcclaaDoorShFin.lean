/- A state's end is the digest of its text; what digest.Sum answers; the two examples of the document. -/
import Derived.Test.YtlpibpkbgmcclaaDoorShSum
import Derived.Test.YtlpibpkbgmcclaaDoorShHex
namespace Go.Proofs.YtlpibpkbgmcclaaDoor
open Go.RowKit
theorem sts_congr {f g : Nat → Nat} : ∀ {k : Nat}, (∀ p, p < 64 * k → f p = g p) → Sh.sts f k = Sh.sts g k := by
  intro k
  induction k with
  | zero => intro _; rfl
  | succ k ih =>
    intro h
    rw [Sh.sts, Sh.sts, ih fun p hp => h p (by omega)]
    exact blk_congr fun p hp => h _ (by omega)
theorem fb_low {f : Nat → Nat} {n p : Nat} (h : p < n) : Sh.fb f n p = f p := by unfold Sh.fb; rw [if_pos h]
theorem end_fin (f : Nat → Nat) (n : Nat) : endS (Sh.sts f (n / 64)) (restF f n) n = Sh.fin f n := by
  have hbase : Sh.sts (Sh.fb f n) (n / 64) = Sh.sts f (n / 64) := sts_congr fun p hp => fb_low (by omega)
  unfold endS Sh.fin
  by_cases h : n % 64 < 56
  · have hfl : Sh.fl n = 64 * (n / 64) + 64 := by unfold Sh.fl; omega
    rw [if_pos h, show Sh.fl n / 64 = n / 64 + 1 by omega, Sh.sts, hbase]
    refine blk_congr fun p hp => ?_
    unfold lenB markB restF Sh.fb
    rw [hfl]
    by_cases c1 : 56 ≤ p
    · rw [if_pos (by omega), if_neg (by omega), if_neg (by omega), if_neg (by omega)]
      congr 3
      omega
    · rw [if_neg (by omega)]
      by_cases c2 : p = n % 64
      · rw [if_pos c2, if_neg (by omega), if_pos (by omega)]
      · rw [if_neg c2]
        by_cases c3 : p < n % 64
        · rw [if_pos c3, if_pos (by omega)]
        · rw [if_neg c3, if_neg (by omega), if_neg (by omega), if_pos (by omega)]
  · have hfl : Sh.fl n = 64 * (n / 64) + 128 := by unfold Sh.fl; omega
    rw [if_neg h, show Sh.fl n / 64 = n / 64 + 1 + 1 by omega, Sh.sts, Sh.sts, hbase]
    rw [blk_congr (v := Sh.sts f (n / 64)) (b := markB (restF f n) (n % 64)) (b' := fun p => Sh.fb f n (64 * (n / 64) + p)) fun p hp => ?_]
    · refine blk_congr fun p hp => ?_
      unfold lenB Sh.fb
      rw [hfl]
      by_cases c1 : 56 ≤ p
      · rw [if_pos (by omega), if_neg (by omega), if_neg (by omega), if_neg (by omega)]
        congr 3
        omega
      · rw [if_neg (by omega), if_neg (by omega), if_neg (by omega), if_pos (by omega)]
    · unfold markB restF Sh.fb
      rw [hfl]
      by_cases c2 : p = n % 64
      · rw [if_pos c2, if_neg (by omega), if_pos (by omega)]
      · rw [if_neg c2]
        by_cases c3 : p < n % 64
        · rw [if_pos c3, if_pos (by omega)]
        · rw [if_neg c3, if_neg (by omega), if_neg (by omega), if_pos (by omega)]
/-- the digest of a text, as a string -/
def dig (f : Nat → Nat) (n : Nat) : ByteArray := mkS 32 (by8 (Sh.fin f n))
theorem dig_size (f : Nat → Nat) (n : Nat) : (dig f n).size = 32 := mkS_size _ _
theorem dig_congr {f g : Nat → Nat} {n : Nat} (h : ∀ p, p < n → f p = g p) : dig f n = dig g n := by
  unfold dig Sh.fin
  rw [sts_congr (g := Sh.fb g n) fun p hp => ?_]
  unfold Sh.fb
  by_cases c : p < n
  · rw [if_pos c, if_pos c, h p c]
  · rw [if_neg c, if_neg c]
theorem txSum_any (b : Nat) (f : Nat → Nat) (n : Nat) (w : World) (hK : KAt w) (hS : TxSt w b f n) (hf : ∀ p, f p < 256) (hn : n < 1099511627776) :
    Calls Tryd.prog 49 #[.pointer (some ⟨b, 0, none⟩)] w fun e w' => e = .returned (.string (dig f n)) ∧ Below w.heap.size w w' := by
  have h := stSum_any b (Sh.sts f (n / 64)) (restF f n) n w hK hS (sts_in f _) (restF_lt hf n) hn
  rw [end_fin] at h
  exact h
theorem newT_any (f : Nat → Nat) (w : World) : Calls Tryd.prog 47 #[] w fun e w' => ∃ b, e = .returned (.pointer (some ⟨b, 0, none⟩)) ∧ w.heap.size ≤ b ∧ TxSt w' b f 0 ∧ Below w.heap.size w w' := by
  refine (new_any w).mono ?_
  rintro e w' ⟨b, he, hb, hS, hB⟩
  exact ⟨b, he, hb, StAt.congr hS fun p _ => by unfold restF; rw [if_neg (by omega)], hB⟩
set_option maxRecDepth 100000 in
set_option maxHeartbeats 1000000 in
theorem dsum_any (s : ByteArray) (w : World) (hK : KAt w) (hs : s.size ≤ 1000000) :
    Calls Tryd.prog 40 #[.string s] w fun e w' => e = .returned (.string (dig (bt s) s.size)) ∧ Below w.heap.size w w' := by
  have HK := hide hK
  clear hK
  go_enter Tryd.func40, Tryd.ntmps40
  go_wp2_with fail
  refine (newT_any (bt s) w).mono ?_
  rintro e w1 ⟨b, rfl, hb, hT, hB⟩
  have HT := hide hT
  have HB := hide hB
  have hb0 : 0 < b := Nat.lt_of_lt_of_le HK.out.1 hb
  clear hT hB
  go_wp2_with fail
  refine (add_any b (bt s) 0 s w1 (HK.out.below HB.out) hb0 HT.out (bt_lt s) (fun p _ => by rw [Nat.zero_add]) (by omega)).mono ?_
  rintro e w2 ⟨rfl, hT2, hB2⟩
  rw [Nat.zero_add] at hT2
  have HT2 := hide hT2
  have HB2 := hide (HB.out.trans (hB2.mono hb))
  clear hT2 hB2 HT HB
  go_wp2_with fail
  refine (txSum_any b (bt s) s.size w2 (HK.out.below HB2.out) HT2.out (bt_lt s) (by omega)).mono ?_
  rintro e w3 ⟨rfl, hB3⟩
  have HB3 := hide (HB2.out.trans (hB3.mono HB2.out.size))
  clear hB3 HB2
  go_wp2_with fail
  go_ret
  exact ⟨rfl, HB3.out⟩
def sAbc : ByteArray := ⟨#[97, 98, 99]⟩
theorem dig_abc : dig (bt sAbc) 3 = mkS 32 (by8 Sh.abc) := by
  rw [dig_congr (g := fun p => 97 + p) fun p hp => ?_]
  · unfold dig; rw [Sh.fin_abc]
  · rcases (show p = 0 ∨ p = 1 ∨ p = 2 by omega) with rfl | rfl | rfl <;> rfl
theorem dig_nul : dig (bt ByteArray.empty) 0 = mkS 32 (by8 Sh.nul) := by
  rw [dig_congr (g := fun _ => 0) fun p hp => by omega]
  unfold dig; rw [Sh.fin_nul]
end Go.Proofs.YtlpibpkbgmcclaaDoor
