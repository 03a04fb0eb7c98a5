/- The law DigestLong returns true at every input, and writes nothing that was there. -/
import Derived.Test.YtenfjhbedcnmeaaDoorShRefSum
import Derived.Test.YtenfjhbedcnmeaaDoorDigestHexWalk
import Derived.Test.YtenfjhbedcnmeaaDoorShTx
namespace Go.Proofs.YtenfjhbedcnmeaaDoor
open Go.RowKit
/-- a block of N bytes, the first k of which are c -/
def LgAt (w : World) (g N c k : Nat) : Prop := FnAt w g 5 N fun p => .int .u8 ((if p < k then c else 0 : Nat) : Int)
theorem LgAt.step {w : World} {g N c k : Nat} (h : LgAt w g N c k) : LgAt (w.setCell ⟨g, k, none⟩ (.int .u8 (c : Int))) g N c (k + 1) := by
  refine FnAt.congr (h.set k _) fun p _ => ?_
  by_cases e : p = k
  · subst e
    rw [if_pos rfl, if_pos (by omega)]
  · rw [if_neg e]
    by_cases d : p < k
    · rw [if_pos d, if_pos (by omega)]
    · rw [if_neg d, if_neg (by omega)]
theorem LgAt.string {w : World} {g N c cap : Nat} (h : LgAt w g N c N) : (convert 31 9 (.slice (some ⟨g, 0, none⟩) N cap)).run Tryd.prog w = .ok (.string (mkS N fun _ => c)) w := by
  refine run_convert_bytes_arg w 31 5 Tryd.underlying31 Tryd.underlying5 g 0 N cap _ (by simp) (fun i hi => ?_) 9 Tryd.underlying9
  rw [Nat.zero_add, FnAt.cell h hi]
  simp [hi]
theorem make_bytes (n : Nat) (h : n ≤ 1000000) (w : World) : (Instr.makeSlice 31 (.int .i64 (n : Int)) (.int .i64 (n : Int))).run Tryd.prog w = .ok (.slice (some ⟨w.heap.size, 0, none⟩) n n) (w.alloc (.cells (fnC n fun _ => .int .u8 0) 5)) := by
  obtain ⟨i0, hi, hz0, hz1, hz2⟩ := info_parts u8_info
  have h := run_make (P := Tryd.prog) w 31 5 i0 (.int .u8 0) Tryd.underlying31 hi hz0 .i64 .i64 n n (by omega) (by omega) (by rw [hz2]; omega) (by omega)
  rw [hz1] at h
  rw [h]
  simp only [Int.toNat_natCast, Nat.mul_one]
  rw [show (Value.int IntKind.u8 0).cells = #[.int .u8 0] from rfl, fnC_made]
theorem wf_u8 {x : Int} (h : (Lit.int .u8 x).wf = true) : 0 ≤ x ∧ x < 256 := by
  simp [Lit.wf, IntKind.min, IntKind.max, IntKind.signed, IntKind.bits] at h
  omega
set_option maxRecDepth 100000 in
set_option maxHeartbeats 4000000 in
theorem walkDigestLong (cc n at_ : Int) (w : World) (hK : KAt w) (w0 : (Lit.int .u8 cc).wf = true) (_w1 : (Lit.int .i64 n).wf = true) (_w2 : (Lit.int .i64 at_).wf = true) :
    Calls Tryd.prog 5 #[.int .u8 cc, .int .i64 n, .int .i64 at_] w fun e w' => e = .returned (.bool true) ∧ Below w.heap.size w w' := by
  have HK := hide hK
  have hcc := wf_u8 w0
  clear hK w0 _w1 _w2
  obtain ⟨c, rfl⟩ : ∃ c : Nat, cc = (c : Int) := ⟨cc.toNat, by omega⟩
  have hc : c < 256 := by omega
  clear hcc
  by_cases hbig : n < 0 ∨ 2000 < n ∨ at_ < 0 ∨ n < at_
  · have key : (n < 0) ∨ (¬ n < 0 ∧ 2000 < n) ∨ (¬ n < 0 ∧ ¬ 2000 < n ∧ at_ < 0) ∨ (¬ n < 0 ∧ ¬ 2000 < n ∧ ¬ at_ < 0 ∧ n < at_) := by omega
    clear hbig
    rcases key with c | ⟨c1, c⟩ | ⟨c1, c2, c⟩ | ⟨c1, c2, c3, c⟩
    all_goals
      go_enter Tryd.func5, Tryd.ntmps5
      go_wp2_with fail
      refine (live_any w HK.out).mono ?_
      rintro e w1 ⟨rfl, hb⟩
      go_wp2_with fail
      go_ret
      exact ⟨rfl, hb⟩
  obtain ⟨N, rfl⟩ : ∃ N : Nat, n = (N : Int) := ⟨n.toNat, by omega⟩
  obtain ⟨m, rfl⟩ : ∃ m : Nat, at_ = (m : Int) := ⟨at_.toNat, by omega⟩
  have hN : N ≤ 2000 := by omega
  have hm : m ≤ N := by omega
  have e0 : decide ((N : Int) < 0) = false := by simp
  have e1 : ¬ (2000 < (N : Int)) := by omega
  have e2 : decide ((m : Int) < 0) = false := by simp
  have e3 : ¬ ((N : Int) < (m : Int)) := by omega
  clear hbig
  have hmk := make_bytes N (by omega) w
  have HST : Hid (LgAt (w.alloc (.cells (fnC N fun _ => .int .u8 0) 5)) w.heap.size N c 0) := FnAt.congr (heap_alloc_new _ _) fun p _ => by rw [if_neg (by omega)]; rfl
  have HB0 : Hid (Below w.heap.size w (w.alloc (.cells (fnC N fun _ => .int .u8 0) 5))) := (Below.refl _ _).alloc (Nat.le_refl _) _
  go_enter Tryd.func5, Tryd.ntmps5
  go_wp2_with fail
  clear hmk e0 e1 e2 e3
  generalize w.alloc (.cells (fnC N fun _ => .int .u8 0) 5) = W at *
  go_loopw [8] (fun y wr => ∃ k : Nat, k ≤ N ∧ y = .int .i64 k ∧ LgAt wr w.heap.size N c k ∧ Below w.heap.size w wr) (fun y _ => N - (intOf y).toNat)
  case atStart => exact ⟨0, by omega, rfl, HST.out, HB0.out⟩
  case round =>
    obtain ⟨k, hk, rfl, hL, hbl⟩ := hrel
    clear HST HB0
    have HL := hide hL
    have HB := hide hbl
    clear hL hbl
    by_cases hlt : k < N
    · have hd : decide ((k : Int) < (N : Int)) = true := by simp; omega
      have hdi : (k : Int) < (N : Int) := by omega
      have hcell := FnAt.cell HL.out hlt
      have hfree := FnAt.free HL.out k
      go_wp2_with fail
      exact ⟨⟨k + 1, by omega, by go_num, HL.out.step, HB.out.setCell (Nat.le_refl _) _⟩, by simp [intOf]; omega⟩
    · obtain rfl : k = N := by omega
      have hd : decide ((k : Int) < (k : Int)) = false := by simp
      have hcv := LgAt.string (cap := k) HL.out
      have hz : (mkS k fun _ => c).size = k := mkS_size _ _
      have HSB : Hid (∀ p, p < k → bt (mkS k fun _ => c) p = c) := fun p hp => mkS_bt hp hc
      generalize hS : (mkS k fun _ => c) = S at *
      clear hS
      go_wp2_with fail
      refine (newT_any (bt S) wr).mono ?_
      rintro e w1 ⟨b, rfl, hb, hT1, hB1⟩
      have HT1 := hide hT1
      have HB1 := hide (HB.out.trans (hB1.mono HB.out.size))
      have HBW : Hid (w.heap.size ≤ b) := Nat.le_trans HB.out.size hb
      have hb0 : 0 < b := Nat.lt_of_lt_of_le HK.out.1 HBW.out
      clear hT1 hB1 hb hcv HB
      have hzm : (S.extract 0 m).size = m := by rw [ByteArray.size_extract]; omega
      have hzr : (S.extract m S.size).size = k - m := by rw [ByteArray.size_extract]; omega
      have P1 : Hid (∀ p, p < (S.extract 0 m).size → bt (S.extract 0 m) p = bt S (0 + p)) := fun p hp => bt_extract' _ _ _ _ (by omega) (by omega)
      have P2 : Hid (∀ p, p < (S.extract m S.size).size → bt (S.extract m S.size) p = bt S (0 + (S.extract 0 m).size + p)) := fun p hp => by rw [bt_extract' _ _ _ _ (by omega) (Nat.le_refl _)]; congr 1; omega
      have hsm : m ≤ S.size := by omega
      have hsmi : (m : Int) ≤ (S.size : Int) := by omega
      have HZS : Hid (0 + (S.extract 0 m).size + (S.extract m S.size).size = S.size) := by show _ = _; omega
      have hzl : S.size ≤ 2000 := by omega
      clear hzm hzr hz
      go_wp2_with fail
      refine (add_any b (bt S) 0 (S.extract 0 m) w1 (HK.out.below HB1.out) hb0 HT1.out (bt_lt S) P1.out (by rw [ByteArray.size_extract]; omega)).mono ?_
      rintro e w2 ⟨rfl, hT2, hb2⟩
      have HT2 := hide hT2
      have HB2 := hide (HB1.out.trans (hb2.mono HBW.out))
      clear hT2 hb2 HB1 HT1
      go_wp2_with fail
      refine (add_any b (bt S) (0 + (S.extract 0 m).size) (S.extract m S.size) w2 (HK.out.below HB2.out) hb0 HT2.out (bt_lt S) P2.out (by rw [ByteArray.size_extract, ByteArray.size_extract]; omega)).mono ?_
      rw [HZS.out]
      rintro e w3 ⟨rfl, hT3, hb3⟩
      have HT3 := hide hT3
      have HB3 := hide (HB2.out.trans (hb3.mono HBW.out))
      clear hT3 hb3 HB2 HT2
      go_wp2_with fail
      refine (dsum_any S w3 (HK.out.below HB3.out) (by omega)).mono ?_
      rintro e w4 ⟨rfl, hb4⟩
      have HT4 := hide (HT3.out.below hb4 HT3.out.lt)
      have HB4 := hide (HB3.out.trans (hb4.mono HB3.out.size))
      clear hb4 HB3 HT3
      go_wp2_with fail
      refine (refSum_any S w4 (by omega)).mono ?_
      rintro e w5 ⟨rfl, hb5⟩
      have HT5 := hide (HT4.out.below hb5 HT4.out.lt)
      have HB5 := hide (HB4.out.trans (hb5.mono HB4.out.size))
      clear hb5 HB4 HT4
      have SS := hide (txSum_any b (bt S) S.size w5 (HK.out.below HB5.out) HT5.out (bt_lt S) (by omega))
      have DD : Hid (∀ W, KAt W → Calls Tryd.prog 10 #[.string S] W fun e w' => e = .returned (.string (dig (bt S) S.size)) ∧ Below W.heap.size W w') := fun W h => dsum_any S W h (by omega)
      generalize dig (bt S) S.size = D at *
      go_wp2_with fail
      refine SS.out.mono ?_
      rintro e w6 ⟨rfl, hb6⟩
      have HB6 := hide (HB5.out.trans (hb6.mono HB5.out.size))
      clear hb6 HB5
      go_wp2_with fail
      refine (DD.out w6 (HK.out.below HB6.out)).mono ?_
      rintro e w7 ⟨rfl, hb7⟩
      have HB7 := hide (HB6.out.trans (hb7.mono HB6.out.size))
      clear hb7 HB6
      go_wp2_with fail
      refine (live_any w7 (HK.out.below HB7.out)).mono ?_
      rintro e w8 ⟨rfl, hb8⟩
      have HB8 := hide (HB7.out.trans (hb8.mono HB7.out.size))
      clear hb8 HB7
      go_wp2_with fail
      go_ret
      exact ⟨rfl, HB8.out⟩
end Go.Proofs.YtenfjhbedcnmeaaDoor
