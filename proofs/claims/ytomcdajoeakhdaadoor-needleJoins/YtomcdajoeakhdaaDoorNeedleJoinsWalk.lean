/- The law NeedleJoins returns true at every input, and writes nothing that was there. -/
import Derived.Test.YtomcdajoeakhdaaDoorNeLive
namespace Go.Proofs.YtomcdajoeakhdaaDoor
open Go.RowKit
set_option linter.unusedVariables false
/-- are bytes n to q - 1 all 0? -/
def zb (s : ByteArray) (n q : Nat) : Bool := (List.range (q - n)).all fun i => bt s (n + i) == 0
theorem zb_start (s : ByteArray) (n : Nat) : zb s n n = true := by unfold zb; rw [Nat.sub_self]; rfl
theorem zb_next (s : ByteArray) {n q : Nat} (h : n ≤ q) : zb s n (q + 1) = (zb s n q && (bt s q == 0)) := by
  unfold zb
  rw [show q + 1 - n = (q - n) + 1 by omega, List.range_succ, List.all_append]
  simp
  rw [show n + (q - n) = q by omega]
theorem zb_iff (s : ByteArray) (n q : Nat) : zb s n q = true ↔ ∀ p, n ≤ p → p < q → bt s p = 0 := by
  unfold zb
  rw [List.all_eq_true]
  constructor
  · intro h p h1 h2
    have := h (p - n) (List.mem_range.2 (by omega))
    rw [show n + (p - n) = p by omega] at this
    simpa using this
  · intro h i hi
    have := List.mem_range.1 hi
    simpa using h (n + i) (by omega) (by omega)
set_option maxRecDepth 100000 in
set_option maxHeartbeats 16000000 in
theorem walkNeedleJoins (s : ByteArray) (n : Int) (w : World) (hK : KAt w) (w0 : s.data.toList.length ≤ reachBytes) (w1 : (Lit.int .i64 n).wf = true) : Calls Tryd.prog 7 #[.string s, .int .i64 n] w fun e w' => e = .returned (.bool true) ∧ Below w.heap.size w w' := by
  clear w0 w1
  have KA := hide hK
  clear hK
  by_cases hbig : 384 < s.size
  · have H1 := hide (nshards_big s w hbig)
    have HA : Hid (Below w.heap.size w w) := Below.refl _ _
    go_enter Tryd.func7, Tryd.ntmps7
    go_wp2_with fail
    refine H1.out.mono ?_
    rintro e w1 ⟨rfl, rfl⟩
    go_wp2_with fail
    refine (nlive_any _ KA.out).mono ?_
    rintro e wLL ⟨rfl, hb⟩
    have BLL := hide hb
    clear hb
    go_wp2_with fail
    try go_ret
    exact ⟨rfl, BLL.out⟩
  have hs : s.size ≤ 384 := by omega
  have H1 := hide (nshards_ok s w hs)
  have hj0 := j_ok (l := shl s 6) (k := s.size) (shl_ok hs) hs (by rw [shl_join hs, pad_z hs]; intro p h1 h2; omega)
  rw [shl_join hs, pad_head] at hj0
  have H2 := hide (fun a c w hS hc => njoin_any a c (shl s 6) (s.size : Int) w hS hc (by rw [shl_len]; omega))
  rw [hj0.1, hj0.2, shl_len] at H2
  have H3 := hide (fun a c w hS hc => njoin_any a c (shl s 6) n w hS hc (by rw [shl_len]; omega))
  rw [shl_len] at H3
  clear hj0
  have qs : (s.toList == s.toList) = true := by simp
  by_cases hn : 0 ≤ n ∧ n ≤ 384
  case neg =>
    clear H3
    by_cases hn0 : n < 0
    · have q0 : decide (n < 0) = true := by simp; omega
      go_enter Tryd.func7, Tryd.ntmps7
      go_wp2_with fail
      refine H1.out.mono ?_
      rintro e w1 ⟨a, c, rfl, hc, hst, hb⟩
      have B1 := hide hb
      have K1 := hide (KA.out.below hb)
      have HST := hide hst
      clear hb hst
      go_wp2_with fail
      refine (H2.out a c _ HST.out hc).mono ?_
      rintro e w2 ⟨rfl, hb⟩
      have B2 := hide (B1.out.trans (hb.mono B1.out.size))
      have K2 := hide (K1.out.below hb)
      clear hb
      go_wp2_with fail
      refine (nlive_any _ K2.out).mono ?_
      rintro e wLL ⟨rfl, hb⟩
      have BLL := hide (B2.out.trans (hb.mono B2.out.size))
      clear hb
      go_wp2_with fail
      try go_ret
      exact ⟨rfl, BLL.out⟩
    · have q0 : decide (n < 0) = false := by simp; omega
      have q4 : decide (384 < n) = true := by simp; omega
      go_enter Tryd.func7, Tryd.ntmps7
      go_wp2_with fail
      refine H1.out.mono ?_
      rintro e w1 ⟨a, c, rfl, hc, hst, hb⟩
      have B1 := hide hb
      have K1 := hide (KA.out.below hb)
      have HST := hide hst
      clear hb hst
      go_wp2_with fail
      refine (H2.out a c _ HST.out hc).mono ?_
      rintro e w2 ⟨rfl, hb⟩
      have B2 := hide (B1.out.trans (hb.mono B1.out.size))
      have K2 := hide (K1.out.below hb)
      clear hb
      go_wp2_with fail
      refine (nlive_any _ K2.out).mono ?_
      rintro e wLL ⟨rfl, hb⟩
      have BLL := hide (B2.out.trans (hb.mono B2.out.size))
      clear hb
      go_wp2_with fail
      try go_ret
      exact ⟨rfl, BLL.out⟩
  obtain ⟨hn0, hn4⟩ := hn
  obtain ⟨m, rfl⟩ := Int.eq_ofNat_of_zero_le hn0
  have q0 : decide ((m : Int) < 0) = false := by simp
  have q4 : decide ((384 : Int) < (m : Int)) = false := by simp; omega
  have hm : m ≤ 384 := by omega
  have hres : (zb s m (max m s.size) = true ∧ jE (shl s 6) m = 0 ∧ (jT (shl s 6) m).size = m) ∨ (zb s m (max m s.size) = false ∧ jE (shl s 6) m = 4) := by
    by_cases hz : zFrom (catB (shl s 6)) m
    · left
      have h := j_ok (l := shl s 6) (k := m) (shl_ok hs) hm hz
      rw [shl_join hs] at hz h
      refine ⟨(zb_iff _ _ _).2 fun p h1 h2 => ?_, h.1, by rw [h.2, ByteArray.size_extract, padS_size hs]; omega⟩
      by_cases hp : p < s.size
      · exact (pad_z hs m).1 hz p h1 hp
      · exact bt_out (by omega)
    · right
      have h := j_form (l := shl s 6) (k := m) (shl_ok hs) hm hz
      refine ⟨?_, h.1⟩
      rw [shl_join hs, pad_z hs] at hz
      cases hb : zb s m (max m s.size) with
      | false => rfl
      | true => exact absurd (fun p h1 h2 => (zb_iff _ _ _).1 hb p h1 (by omega)) hz
  have HRES := hide hres
  clear hres hn0 hn4
  generalize jE (shl s 6) m = JE at *
  generalize jT (shl s 6) m = JT at *
  go_enter Tryd.func7, Tryd.ntmps7
  go_wp2_with fail
  refine H1.out.mono ?_
  rintro e w1 ⟨a, c, rfl, hc, hst, hb⟩
  have B1 := hide hb
  have K1 := hide (KA.out.below hb)
  have HST := hide hst
  clear hb hst
  go_wp2_with fail
  refine (H2.out a c _ HST.out hc).mono ?_
  rintro e w2 ⟨rfl, hb⟩
  have B2 := hide (B1.out.trans (hb.mono B1.out.size))
  have K2 := hide (K1.out.below hb)
  have HST2 := hide (HST.out.below hb)
  clear hb
  go_wp2_with fail
  refine (H3.out a c _ HST2.out hc).mono ?_
  rintro e w3 ⟨rfl, hb⟩
  have B3 := hide (B2.out.trans (hb.mono B2.out.size))
  have K3 := hide (K2.out.below hb)
  clear hb B1 B2 K1 K2 HST HST2 H1 H2 H3
  go_wp2_with fail
  go_loop [11, 12] (fun x y => ∃ q : Nat, m ≤ q ∧ q ≤ max m s.size ∧ y = .int .i64 q ∧ x = .bool (zb s m q)) (fun _ y => s.size - (intOf y).toNat)
  case atStart => exact ⟨m, Nat.le_refl _, by omega, rfl, by rw [zb_start]⟩
  case round =>
    obtain ⟨q, hq1, hq2, rfl, rfl⟩ := hrel
    by_cases hlt : q < s.size
    · have hd : decide ((q : Int) < (s.size : Int)) = true := by simp; omega
      have hqi : (q : Int) < (s.size : Int) := by omega
      have HBt := hide (bt_eq hlt)
      have HN := hide (zb_next s hq1)
      generalize hcc : (s[q]'hlt).toNat = cc at *
      have hmx : q + 1 ≤ max m s.size := by omega
      cases hz : zb s m q with
      | false =>
        rw [hz, Bool.false_and] at HN
        go_wp2_with fail
        exact ⟨⟨q + 1, by omega, hmx, by go_num, by rw [HN.out]⟩, by simp [intOf]; omega⟩
      | true =>
        rw [hz, Bool.true_and, ← HBt.out] at HN
        by_cases h0 : cc = 0
        · have e1 : ((cc : Int) == 0) = true := by simp; omega
          have HN' : Hid (zb s m (q + 1) = true) := by show _ = _; rw [HN.out]; simp [h0]
          clear h0
          go_wp2_with fail
          exact ⟨⟨q + 1, by omega, hmx, by go_num, by rw [HN'.out]⟩, by simp [intOf]; omega⟩
        · have e1 : ((cc : Int) == 0) = false := by simp; omega
          have HN' : Hid (zb s m (q + 1) = false) := by show _ = _; rw [HN.out]; simp [h0]
          clear h0
          go_wp2_with fail
          exact ⟨⟨q + 1, by omega, hmx, by go_num, by rw [HN'.out]⟩, by simp [intOf]; omega⟩
    · have hd : decide ((q : Int) < (s.size : Int)) = false := by simp; omega
      have hqe : q = max m s.size := by omega
      rw [← hqe] at HRES
      rcases HRES.out with ⟨h1, h2, h3⟩ | ⟨h1, h2⟩
      · subst h2
        rw [h1]
        have h3i : ((JT.size : Int) == (m : Int)) = true := by simp; omega
        clear HRES
        go_wp2_with fail
        refine (nlive_any _ K3.out).mono ?_
        rintro e wLL ⟨rfl, hb⟩
        have BLL := hide (B3.out.trans (hb.mono B3.out.size))
        clear hb
        go_wp2_with fail
        try go_ret
        exact ⟨rfl, BLL.out⟩
      · subst h2
        rw [h1]
        clear HRES
        go_wp2_with fail
        refine (nlive_any _ K3.out).mono ?_
        rintro e wLL ⟨rfl, hb⟩
        have BLL := hide (B3.out.trans (hb.mono B3.out.size))
        clear hb
        go_wp2_with fail
        try go_ret
        exact ⟨rfl, BLL.out⟩
end Go.Proofs.YtomcdajoeakhdaaDoor
