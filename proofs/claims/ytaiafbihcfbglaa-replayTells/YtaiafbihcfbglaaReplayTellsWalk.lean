/- ReplayTells answers true at every input. -/
import Derived.Test.YtaiafbihcfbglaaRpLive
import Derived.Test.YtaiafbihcfbglaaRpRefs
import Derived.Test.YtaiafbihcfbglaaCameRecs
namespace Go.Proofs.Ytaiafbihcfbglaa
open Go.RowKit
set_option linter.unusedVariables false
set_option maxRecDepth 100000 in
set_option maxHeartbeats 16000000 in
theorem tells_a (a0 : Option Addr) (l0 c0 : Nat) (a1 : Option Addr) (l1 c1 : Nat) (w : World) (L0 : List ByteArray) (hl0 : L0.length = l0) (z0 : l0 ≤ 9223372036854775807) (hS0 : StrsAt w a0 L0) (h : smallB L0 70 300 = false) : Calls Try.prog 3 #[.slice a0 l0 c0, .slice a1 l1 c1] w fun e w' => e = .returned (.bool true) ∧ Below w.heap.size w w' := by
  have HL0 := hide hl0
  have HS0 := hide hS0
  clear hl0 hS0
  go_enter Try.func3, Try.ntmps3
  go_wp2_with fail
  refine (small_wide a0 l0 c0 70 300 L0 w HL0.out z0 HS0.out).mono ?_
  rintro e _ ⟨he, rfl⟩
  rw [h] at he; subst he
  go_wp2_with fail
  refine (live12_any w).mono ?_
  rintro e wl ⟨rfl, hbl⟩
  go_wp2_with fail
  try go_ret
  exact ⟨rfl, hbl⟩
set_option maxRecDepth 100000 in
set_option maxHeartbeats 16000000 in
theorem tells_b (a0 : Option Addr) (l0 c0 : Nat) (a1 : Option Addr) (l1 c1 : Nat) (w : World) (L0 : List ByteArray) (hl0 : L0.length = l0) (z0 : l0 ≤ 9223372036854775807) (hS0 : StrsAt w a0 L0) (s0 : smallB L0 70 300 = true) (hz : l1 ≤ 9223372036854775807) (h : 70 < l1) : Calls Try.prog 3 #[.slice a0 l0 c0, .slice a1 l1 c1] w fun e w' => e = .returned (.bool true) ∧ Below w.heap.size w w' := by
  have HL0 := hide hl0
  have HS0 := hide hS0
  clear hl0 hS0
  have d1 : decide ((l1 : Int) > 70) = true := by simp; omega
  go_enter Try.func3, Try.ntmps3
  go_wp2_with fail
  refine (small_wide a0 l0 c0 70 300 L0 w HL0.out z0 HS0.out).mono ?_
  rintro e _ ⟨he, rfl⟩
  rw [s0] at he; subst he
  go_wp2_with fail
  refine (live12_any w).mono ?_
  rintro e wl ⟨rfl, hbl⟩
  go_wp2_with fail
  try go_ret
  exact ⟨rfl, hbl⟩
set_option maxRecDepth 100000 in
set_option maxHeartbeats 16000000 in
theorem tells_main (a0 : Option Addr) (l0 c0 : Nat) (a1 : Option Addr) (l1 c1 : Nat) (w : World) (L0 : List ByteArray) (hl0 : L0.length = l0) (z0 : l0 ≤ 9223372036854775807) (hS0 : StrsAt w a0 L0) (s0 : smallB L0 70 300 = true) (hc1 : l1 ≤ c1) (h70 : l1 ≤ 70) (ls : List RT) (hls : ls.length = l1) (hR : RecsAt w a1 ls) (hcm : ∀ x ∈ ls, x.1.cm) (P Lq : List Rc) (hP : prefR L0 = P) (hq : ls.map Prod.fst = Lq) (b1 b2 : Bool) (hb1 : begR Lq P = b1) (hb2 : begR P Lq = b2) : Calls Try.prog 3 #[.slice a0 l0 c0, .slice a1 l1 c1] w fun e w' => e = .returned (.bool true) ∧ Below w.heap.size w w' := by
  have d1 : decide ((l1 : Int) > 70) = false := by simp; omega
  have h0 : l0 ≤ 70 := small_len (m := 70) s0 hl0
  have XA : Hid (∀ w, StrsAt w a0 L0 → Calls Try.prog 12 #[.slice a0 l0 c0] w (PxP P w)) := fun w q => by rw [← hP]; exact px_any a0 l0 c0 L0 w hl0 z0 q (small_of s0)
  have XQ : Hid (∀ w, StrsAt w a0 L0 → Calls Try.prog 13 #[.slice a0 l0 c0] w (PxP P w)) := fun w q => by rw [← hP]; exact qx_any a0 l0 c0 L0 w hl0 (by omega) q (fun s hs => by have := (small_iff.1 s0).1 s hs; omega)
  have HLQ : Hid (Lq.length ≤ 70) := by show _ ≤ _; rw [← hq, List.length_map]; omega
  have HQ := hide hq
  have HLS := hide hls
  have HR := hide hR
  have HCM := hide hcm
  clear hP hq hls hR hcm
  have HL0 := hide hl0
  have HS0 := hide hS0
  clear hl0 hS0
  go_enter Try.func3, Try.ntmps3
  go_wp2_with fail
  refine (small_wide a0 l0 c0 70 300 L0 w HL0.out z0 HS0.out).mono ?_
  rintro e _ ⟨he, rfl⟩
  rw [s0] at he; subst he
  go_wp2_with fail
  clear d1 s0
  go_loopw [5] (fun y wr => ∃ k : Nat, k ≤ l1 ∧ y = .int .i64 k ∧ Below w.heap.size w wr ∧ ∀ (i : Nat) (x : RT), i < k → ls[i]? = some x → smlB x.1 = true) (fun y _ => l1 - (intOf y).toNat)
  case atStart => exact ⟨0, by omega, rfl, Below.refl _ _, fun i x hi => by omega⟩
  case round =>
    obtain ⟨k, hk, rfl, hbl, hal⟩ := hrel
    have BB := hide hbl
    have HA := hide hal
    clear hbl hal
    by_cases hlt : k < l1
    · have hd : decide ((k : Int) < (l1 : Int)) = true := by simp; omega
      have hdi : (k : Int) < (l1 : Int) := by omega
      have hd0 : (0 : Int) ≤ (k : Int) := by omega
      obtain ⟨⟨r, xa, xc⟩, hx⟩ : ∃ x, ls[k]? = some x := ⟨_, List.getElem?_eq_getElem (by have := HLS.out; omega)⟩
      obtain ⟨b, o, rfl, hb, hrg, hlo⟩ := (HR.out.below BB.out).nth hx
      have P1 := hide hrg
      have XS := hide (small_any r xa xc wr (HCM.out _ (List.mem_of_getElem? hx)))
      have HNX : Hid (smlB r = true → ∀ (i : Nat) (x : RT), i < k + 1 → ls[i]? = some x → smlB x.1 = true) := fun q i h hi hh => by
        by_cases e : i = k
        · subst e; rw [hx] at hh; cases hh; exact q
        · exact HA.out i h (by omega) hh
      clear hx hrg hlo
      cases hsm : smlB r
      · rw [hsm] at XS
        clear hsm HNX
        go_wp2_with (first | (refine wpList_load_mid rfl 33 (.tmp 25) rfl b (o + k * 14) rfl (rtC (r, xa, xc)).toList _ P1.out Try.underlying33 rfl ref_info ?_; rw [show (rtC (r, xa, xc)).toList.toArray = rcs r xa xc from rfl]))
        refine XS.out.mono ?_
        rintro e w2 ⟨rfl, hb2⟩
        have B2 := hide (BB.out.trans (hb2.mono BB.out.size))
        clear hb2
        go_wp2_with fail
        refine (live12_any w2).mono ?_
        rintro e wl ⟨rfl, hbl⟩
        go_wp2_with fail
        try go_ret
        exact ⟨rfl, B2.out.trans (hbl.mono B2.out.size)⟩
      · have HN := hide (HNX.out hsm)
        rw [hsm] at XS
        clear hsm HNX
        go_wp2_with (first | (refine wpList_load_mid rfl 33 (.tmp 25) rfl b (o + k * 14) rfl (rtC (r, xa, xc)).toList _ P1.out Try.underlying33 rfl ref_info ?_; rw [show (rtC (r, xa, xc)).toList.toArray = rcs r xa xc from rfl]))
        refine XS.out.mono ?_
        rintro e w2 ⟨rfl, hb2⟩
        have B2 := hide (BB.out.trans (hb2.mono BB.out.size))
        clear hb2
        go_wp2_with fail
        go_roundw
        case rel => exact ⟨k + 1, by omega, by go_num, B2.out, HN.out⟩
        case measure => simp [intOf]; omega
    · have hd : decide ((k : Int) < (l1 : Int)) = false := by simp; omega
      have hdi : ¬ (k : Int) < (l1 : Int) := by omega
      have hfit : ∀ x ∈ ls, x.1.fit := fun x hx => by
        obtain ⟨i, hi⟩ := List.getElem?_of_mem hx
        exact small_fit (HCM.out x hx) (HA.out i x (by have := (List.getElem?_eq_some_iff.1 hi).1; have := HLS.out; omega) hi)
      have RL : Hid (RowP Lq wr a1 l1 c1) := ⟨ls, HLS.out, hc1, h70, HQ.out, hfit, HR.out.below BB.out⟩
      have SS := hide (HS0.out.below BB.out)
      clear hfit HA HR HCM HQ HS0 HLS
      go_wp2_with fail
      refine (XA.out wr SS.out).mono ?_
      rintro e w1 ⟨p1, n1, c1p, rfl, hr, hb⟩
      have B1 := hide (BB.out.trans (hb.mono BB.out.size))
      have RL1 := hide (RL.out.below hb)
      have S1 := hide (SS.out.below hb)
      have RP1 := hide hr
      clear hb hr BB RL SS
      go_wp2_with fail
      refine (XQ.out w1 S1.out).mono ?_
      rintro e w2 ⟨p2, n2, c2p, rfl, hr, hb⟩
      have B2 := hide (B1.out.trans (hb.mono B1.out.size))
      have RL2 := hide (RL1.out.below hb)
      have RP2 := hide (RP1.out.below hb)
      have S2 := hide (S1.out.below hb)
      have RQ2 := hide hr
      clear hb hr B1 RL1 RP1 S1
      go_wp2_with fail
      refine (tx_any RP2.out).mono ?_
      rintro e w3 ⟨p3, c3, rfl, hr, hb⟩
      have B3 := hide (B2.out.trans (hb.mono B2.out.size))
      have RL3 := hide (RL2.out.below hb)
      have RP3 := hide (RP2.out.below hb)
      have RQ3 := hide (RQ2.out.below hb)
      have S3 := hide (S2.out.below hb)
      have RT3 := hide hr
      clear hb hr B2 RL2 RP2 RQ2 S2
      go_wp2_with fail
      refine (lx_any RT3.out RQ3.out).mono ?_
      rintro e w4 ⟨rfl, hb⟩
      have B4 := hide (B3.out.trans (hb.mono B3.out.size))
      have RL4 := hide (RL3.out.below hb)
      have RP4 := hide (RP3.out.below hb)
      have RQ4 := hide (RQ3.out.below hb)
      have S4 := hide (S3.out.below hb)
      clear hb B3 RL3 RP3 RQ3 RT3 S3
      go_wp2_with fail
      refine (ox_any RL4.out).mono ?_
      rintro e w5 ⟨p5, c5, rfl, hr, hb⟩
      have B5 := hide (B4.out.trans (hb.mono B4.out.size))
      have RL5 := hide (RL4.out.below hb)
      have RP5 := hide (RP4.out.below hb)
      have RQ5 := hide (RQ4.out.below hb)
      have S5 := hide (S4.out.below hb)
      have RO5 := hide hr
      clear hb hr B4 RL4 RP4 RQ4 S4
      go_wp2_with fail
      refine (pb_any RO5.out RP5.out).mono ?_
      rintro e w6 ⟨he, hb⟩
      rw [hb1] at he; subst he
      have B6 := hide (B5.out.trans (hb.mono B5.out.size))
      have RL6 := hide (RL5.out.below hb)
      have RP6 := hide (RP5.out.below hb)
      have RQ6 := hide (RQ5.out.below hb)
      have S6 := hide (S5.out.below hb)
      clear hb B5 RL5 RP5 RQ5 RO5 S5
      go_wp2_with fail
      refine (qb_any RL6.out RQ6.out).mono ?_
      rintro e w7 ⟨he, hb⟩
      rw [hb1] at he; subst he
      have B7 := hide (B6.out.trans (hb.mono B6.out.size))
      have RL7 := hide (RL6.out.below hb)
      have RP7 := hide (RP6.out.below hb)
      have RQ7 := hide (RQ6.out.below hb)
      have S7 := hide (S6.out.below hb)
      clear hb B6 RL6 RP6 RQ6 S6
      go_wp2_with fail
      refine (ox_any RL7.out).mono ?_
      rintro e w8 ⟨p8, c8, rfl, hr, hb⟩
      have B8 := hide (B7.out.trans (hb.mono B7.out.size))
      have RL8 := hide (RL7.out.below hb)
      have RP8 := hide (RP7.out.below hb)
      have RQ8 := hide (RQ7.out.below hb)
      have S8 := hide (S7.out.below hb)
      have RO8 := hide hr
      clear hb hr B7 RL7 RP7 RQ7 S7
      go_wp2_with fail
      refine (pb_any RP8.out RO8.out).mono ?_
      rintro e w9 ⟨he, hb⟩
      rw [hb2] at he; subst he
      have B9 := hide (B8.out.trans (hb.mono B8.out.size))
      have RL9 := hide (RL8.out.below hb)
      have RP9 := hide (RP8.out.below hb)
      have RQ9 := hide (RQ8.out.below hb)
      have S9 := hide (S8.out.below hb)
      clear hb B8 RL8 RP8 RQ8 RO8 S8
      go_wp2_with fail
      refine (qb_any RQ9.out RL9.out).mono ?_
      rintro e w10 ⟨he, hb⟩
      rw [hb2] at he; subst he
      have B10 := hide (B9.out.trans (hb.mono B9.out.size))
      have RL10 := hide (RL9.out.below hb)
      have S10 := hide (S9.out.below hb)
      clear hb B9 RL9 RP9 RQ9 S9
      go_wp2_with fail
      refine (ox_any RL10.out).mono ?_
      rintro e w11 ⟨p11, c11, rfl, hr, hb⟩
      have B11 := hide (B10.out.trans (hb.mono B10.out.size))
      have RL11 := hide (RL10.out.below hb)
      have S11 := hide (S10.out.below hb)
      have RO11 := hide hr
      clear hb hr B10 RL10 S10
      go_wp2_with fail
      refine (pm_any HL0.out (by omega) S11.out RO11.out).mono ?_
      rintro e w12 ⟨p12, c12, rfl, _, hr, hb, _⟩
      have B12 := hide (B11.out.trans (hb.mono B11.out.size))
      have RL12 := hide (RL11.out.below hb)
      have S12 := hide (S11.out.below hb)
      have RI12 := hide hr
      clear hb hr B11 RL11 RO11 S11
      go_wp2_with fail
      refine (qm_any HL0.out (by omega) S12.out RL12.out).mono ?_
      rintro e w13 ⟨p13, c13, rfl, _, hr, hb, _⟩
      have B13 := hide (B12.out.trans (hb.mono B12.out.size))
      have RI13 := hide (RI12.out.below hb)
      have S13 := hide (S12.out.below hb)
      have RJ13 := hide hr
      clear hb hr B12 RL12 RI12 S12
      go_wp2_with fail
      refine (ints_same p12 p13 c12 c13 _ _ _ rfl (by have := misQ_len L0 Lq; have := HLQ.out; omega) RI13.out RJ13.out).mono ?_
      rintro e w14 ⟨rfl, hb⟩
      have B14 := hide (B13.out.trans (hb.mono B13.out.size))
      have S14 := hide (S13.out.below hb)
      clear hb B13 RI13 RJ13 S13
      go_wp2_with fail
      refine (live12_any w14).mono ?_
      rintro e wl ⟨rfl, hbl⟩
      go_wp2_with fail
      try go_ret
      exact ⟨rfl, B14.out.trans (hbl.mono B14.out.size)⟩
theorem walkReplayTells (a0 : Option Addr) (l0 c0 : Nat) (a1 : Option Addr) (l1 c1 : Nat) (w : World) (h0 : Came 22 w a0 l0 c0) (h1 : Came 23 w a1 l1 c1) : Calls Try.prog 3 #[.slice a0 l0 c0, .slice a1 l1 c1] w fun e w' => e = .returned (.bool true) ∧ Below w.heap.size w w' := by
  obtain ⟨L0, hl0, _, z0, hS0⟩ := came_strs h0
  obtain ⟨ls, hls, hc1, z1, hR, hcm⟩ := came_recs h1
  cases s0 : smallB L0 70 300
  · exact tells_a a0 l0 c0 a1 l1 c1 w L0 hl0 z0 hS0 s0
  by_cases h70 : 70 < l1
  · exact tells_b a0 l0 c0 a1 l1 c1 w L0 hl0 z0 hS0 s0 z1 h70
  exact tells_main a0 l0 c0 a1 l1 c1 w L0 hl0 z0 hS0 s0 hc1 (by omega) ls hls hR hcm _ _ rfl rfl _ _ rfl rfl
end Go.Proofs.Ytaiafbihcfbglaa
