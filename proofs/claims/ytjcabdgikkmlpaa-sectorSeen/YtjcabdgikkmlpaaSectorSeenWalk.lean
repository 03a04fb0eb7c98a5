/- The law SectorSeen returns true at every input, and writes nothing that was there. -/
import Derived.Test.YtjcabdgikkmlpaaSeLive
import Derived.Test.YtjcabdgikkmlpaaCheckSeenWalk
namespace Go.Proofs.Ytjcabdgikkmlpaa
open Go.RowKit
set_option linter.unusedVariables false
set_option maxRecDepth 100000 in
set_option maxHeartbeats 16000000 in
theorem walkSectorSeen (vp : Value) (n y : Int) (w : World) (cp : CameV 25 6 w vp) (w1 : (Lit.int .i64 n).wf = true) (w2 : (Lit.int .u32 y).wf = true) : Calls Try.prog 7 #[vp, .int .i64 n, .int .u32 y] w fun e w' => e = .returned (.bool true) ∧ Below w.heap.size w w' := by
  obtain ⟨p, rfl, hp63⟩ := hd_open cp
  have hy := wf_u32 w2
  clear cp w1 w2
  obtain ⟨v4, rfl⟩ : ∃ a : Nat, y = (a : Int) := ⟨y.toNat, by omega⟩
  have hv : v4 < 2 ^ 32 := by omega
  clear hy
  have HA : Hid (Below w.heap.size w (w.alloc (.cells (hcs p) 25))) := (Below.refl _ _).alloc (Nat.le_refl _) _
  by_cases hbig : 200 < p.x.size
  · obtain ⟨v, g, i, d, l, z⟩ := p
    simp only [hcs] at HA hbig ⊢
    go_enter Try.func7, Try.ntmps7
    go_wp2_with fail
    refine (slive_any _).mono ?_
    rintro e wLL ⟨rfl, hb⟩
    have BLL := hide (HA.out.trans (hb.mono HA.out.size))
    clear hb
    go_wp2_with fail
    try go_ret
    exact ⟨rfl, BLL.out⟩
  by_cases hv0 : v4 = 0
  · subst hv0
    obtain ⟨v, g, i, d, l, z⟩ := p
    simp only [hcs] at HA hbig ⊢
    go_enter Try.func7, Try.ntmps7
    go_wp2_with fail
    refine (slive_any _).mono ?_
    rintro e wLL ⟨rfl, hb⟩
    have BLL := hide (HA.out.trans (hb.mono HA.out.size))
    clear hb
    go_wp2_with fail
    try go_ret
    exact ⟨rfl, BLL.out⟩
  have hv0' : ((v4 : Int) == 0) = false := by simp; omega
  have HXP := hide (hbx_new 25 p w)
  have H1 := hide (own_any p)
  have H2 := hide (write_any p)
  by_cases hE : wE p = 0
  case neg =>
    have q1 : (wE p == 0) = false := by simpa using hE
    have q2 : (wE p != 0) = true := by simpa using hE
    clear hE
    generalize wS p = S at *
    generalize wE p = E at *
    obtain ⟨v, g, i, d, l, z⟩ := p
    simp only [hcs] at HA HXP H1 H2 hbig ⊢
    go_enter Try.func7, Try.ntmps7
    go_wp2_with fail
    refine (H1.out _).mono ?_
    rintro e w1 ⟨rfl, hb⟩
    have B1 := hide (HA.out.trans (hb.mono HA.out.size))
    have P1 := hide (HXP.out.below hb HXP.out.lt)
    clear hb HA HXP
    go_wp2_with fail
    refine (H2.out _).mono ?_
    rintro e w2 ⟨rfl, hb⟩
    have B2 := hide (B1.out.trans (hb.mono B1.out.size))
    have P2 := hide (P1.out.below hb P1.out.lt)
    clear hb B1 P1
    go_wp2_with fail
    refine (slive_any _).mono ?_
    rintro e wLL ⟨rfl, hb⟩
    have BLL := hide (B2.out.trans (hb.mono B2.out.size))
    clear hb
    go_wp2_with fail
    try go_ret
    exact ⟨rfl, BLL.out⟩
  have hsz := wS_small hE
  have hwS := wS_ok hE
  rw [hE] at H2
  clear hE
  rw [hwS] at H2 hsz
  clear hwS
  have hz := sealS_size (bodyS p)
  have HH : Hid (∃ s : ByteArray, bodyS p = s) := ⟨_, rfl⟩
  clear HH
  generalize bodyS p = s at *
  have hd4 : decide (((sealS s).size : Int) < 4) = false := by simp; omega
  by_cases hn0 : n < 0
  · have q0 : decide (n < 0) = true := by simp; omega
    generalize sealS s = S at *
    obtain ⟨v, g, i, d, l, z⟩ := p
    simp only [hcs] at HA HXP H1 H2 hbig ⊢
    go_enter Try.func7, Try.ntmps7
    go_wp2_with fail
    refine (H1.out _).mono ?_
    rintro e w1 ⟨rfl, hb⟩
    have B1 := hide (HA.out.trans (hb.mono HA.out.size))
    have P1 := hide (HXP.out.below hb HXP.out.lt)
    clear hb HA HXP
    go_wp2_with fail
    refine (H2.out _).mono ?_
    rintro e w2 ⟨rfl, hb⟩
    have B2 := hide (B1.out.trans (hb.mono B1.out.size))
    have P2 := hide (P1.out.below hb P1.out.lt)
    clear hb B1 P1
    go_wp2_with fail
    refine (slive_any _).mono ?_
    rintro e wLL ⟨rfl, hb⟩
    have BLL := hide (B2.out.trans (hb.mono B2.out.size))
    clear hb
    go_wp2_with fail
    try go_ret
    exact ⟨rfl, BLL.out⟩
  have q0 : decide (n < 0) = false := by simp; omega
  obtain ⟨k, rfl⟩ := Int.eq_ofNat_of_zero_le (show 0 ≤ n by omega)
  by_cases hns : s.size < k
  · have q4 : decide (((sealS s).size : Int) - 4 < (k : Int)) = true := by simp; omega
    have q5 : ((sealS s).size : Int) - 4 < (k : Int) := by omega
    generalize sealS s = S at *
    obtain ⟨v, g, i, d, l, z⟩ := p
    simp only [hcs] at HA HXP H1 H2 hbig ⊢
    go_enter Try.func7, Try.ntmps7
    go_wp2_with fail
    refine (H1.out _).mono ?_
    rintro e w1 ⟨rfl, hb⟩
    have B1 := hide (HA.out.trans (hb.mono HA.out.size))
    have P1 := hide (HXP.out.below hb HXP.out.lt)
    clear hb HA HXP
    go_wp2_with fail
    refine (H2.out _).mono ?_
    rintro e w2 ⟨rfl, hb⟩
    have B2 := hide (B1.out.trans (hb.mono B1.out.size))
    have P2 := hide (P1.out.below hb P1.out.lt)
    clear hb B1 P1
    go_wp2_with fail
    refine (slive_any _).mono ?_
    rintro e wLL ⟨rfl, hb⟩
    have BLL := hide (B2.out.trans (hb.mono B2.out.size))
    clear hb
    go_wp2_with fail
    try go_ret
    exact ⟨rfl, BLL.out⟩
  have hk : k ≤ s.size := by omega
  obtain ⟨v, g, i, d, l, z⟩ := p
  simp only [hcs] at HA HXP H1 H2 hbig ⊢
  go_enter Try.func7, Try.ntmps7
  go_wp2_with fail
  refine (H1.out _).mono ?_
  rintro e w1 ⟨rfl, hb⟩
  have B1 := hide (HA.out.trans (hb.mono HA.out.size))
  have P1 := hide (HXP.out.below hb HXP.out.lt)
  clear hb HA HXP
  go_wp2_with fail
  refine (H2.out _).mono ?_
  rintro e w2 ⟨rfl, hb⟩
  have B2 := hide (B1.out.trans (hb.mono B1.out.size))
  have P2 := hide (P1.out.below hb P1.out.lt)
  clear hb B1 P1
  have hcv := run_bytes_of_string (P := Try.prog) w2 9 48 5 (sealS s) Try.underlying9 Try.underlying48 Try.underlying5
  generalize grownCap w2 (sealS s).size 0 5 = cap at hcv
  go_wp2_with fail
  clear hcv
  have hst : BsAt ((w2.alloc (.cells (bytesRow (sealS s) cap) 5 ((bytesRow (sealS s) cap).size, (bytesRow (sealS s) cap).size + 1))).drew) w2.heap.size (s.size + 4) (trn (bt (sealS s)) k v4 0) := by
    rw [← hz]; exact (bs_new w2 (sealS s) cap 5).congr fun p _ => (trn_zero _ _ _ _).symm
  have hbl : Below w.heap.size w ((w2.alloc (.cells (bytesRow (sealS s) cap) 5 ((bytesRow (sealS s) cap).size, (bytesRow (sealS s) cap).size + 1))).drew) := (B2.out.alloc B2.out.size _).drew
  have hbs := B2.out.size
  generalize (w2.alloc (.cells (bytesRow (sealS s) cap) 5 ((bytesRow (sealS s) cap).size, (bytesRow (sealS s) cap).size + 1))).drew = W at *
  have HST := hide hst
  have HBL := hide hbl
  clear hst hbl B2 P2
  go_loopw [10] (fun y wr => ∃ j : Nat, j ≤ 4 ∧ y = .int .i64 j ∧ BsAt wr w2.heap.size (s.size + 4) (trn (bt (sealS s)) k v4 j) ∧ Below w.heap.size w wr) (fun y _ => 4 - (intOf y).toNat)
  case atStart => exact ⟨0, by omega, rfl, HST.out, HBL.out⟩
  case round =>
    obtain ⟨j, hj, rfl, hB, hbl⟩ := hrel
    have HB := hide hB
    have HL := hide hbl
    clear hbl
    by_cases hlt : j < 4
    · have hd : decide ((j : Int) < 4) = true := by simp; omega
      obtain ⟨hc, hf⟩ := hB.2 (k + j) (by omega)
      rw [trn_at] at hc
      clear hB
      go_wp2_with fail
      refine ⟨⟨j + 1, by omega, by go_num, ?_, HL.out.setCell hbs _⟩, by simp [intOf]; omega⟩
      rw [turn_u8 (bt_lt _ _) hlt]
      exact (HB.out.set _ _ (by omega)).congr fun p _ => trn_step _ _ _ _ _
    · clear hB
      obtain rfl : j = 4 := by omega
      have hcv := HB.out.string (cap := cap)
      have hzT : (mkS (s.size + 4) (trn (bt (sealS s)) k v4 4)).size = s.size + 4 := mkS_size _ _
      have hbad : opE (mkS (s.size + 4) (trn (bt (sealS s)) k v4 4)) = 5 := by
        have hlow : ∀ p, p < s.size + 4 → bt (mkS (s.size + 4) (trn (bt (sealS s)) k v4 4)) p = trn (bt (sealS s)) k v4 4 p := fun p hp => mkS_bt hp (trn_lt _ _ _ _ (bt_lt _))
        have := turned_not (s := s) (t := mkS (s.size + 4) (trn (bt (sealS s)) k v4 4)) (i := k) (v := v4) hzT hv hv0 (by omega) (fun q hq => by
          rw [hlow _ (by omega)]; unfold trn; rw [if_pos (by omega), Nat.add_sub_cancel_left]) (fun p hp => by
          by_cases h : p < s.size + 4
          · rw [hlow _ h]; unfold trn; rw [if_neg (by omega)]
          · rw [bt_out (by omega), bt_out (by omega)])
        unfold opE
        rw [if_neg (by omega), if_neg this]
      have hrE : rdE (mkS (s.size + 4) (trn (bt (sealS s)) k v4 4)) = 5 := by unfold rdE; rw [if_neg (by rw [hbad]; decide), hbad]
      have hrH : rdH (mkS (s.size + 4) (trn (bt (sealS s)) k v4 4)) = Hd.zero := by unfold rdH; rw [if_neg (by rw [hrE]; decide)]
      have H3 := hide (fun w => sread_any (mkS (s.size + 4) (trn (bt (sealS s)) k v4 4)) w (by omega))
      rw [hrE, hrH] at H3
      clear hbad hrE hrH
      generalize mkS (s.size + 4) (trn (bt (sealS s)) k v4 4) = T at *
      simp only [hcs, Hd.zero] at H3
      go_wp2_with fail
      refine (H3.out wr).mono ?_
      rintro e w4 ⟨rfl, hb4⟩
      have B4 : Hid (Below w.heap.size w (w4.alloc (.cells #[.int .i64 0, .int .i64 0, .int .i64 0, .int .i64 0, .int .i64 0, .string ByteArray.empty] 30))) := (HL.out.trans (hb4.mono HL.out.size)).alloc (HL.out.trans (hb4.mono HL.out.size)).size _
      clear hb4 HL hcv
      go_wp2_with fail
      refine (slive_any _).mono ?_
      rintro e wLL ⟨rfl, hb⟩
      have BLL := hide (B4.out.trans (hb.mono B4.out.size))
      clear hb
      go_wp2_with fail
      try go_ret
      exact ⟨rfl, BLL.out⟩
end Go.Proofs.Ytjcabdgikkmlpaa
