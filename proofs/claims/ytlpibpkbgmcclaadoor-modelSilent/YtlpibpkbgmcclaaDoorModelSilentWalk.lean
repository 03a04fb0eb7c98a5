/- ModelSilent: which errors are silent; no answer of a model is; the nil model answers 1, tells nothing, copies to nil. (Written by gen16.py.) -/
import Derived.Test.YtlpibpkbgmcclaaDoorMdLive
import Derived.Test.YtlpibpkbgmcclaaDoorMdLawX
import Derived.Test.YtlpibpkbgmcclaaDoorCameX
namespace Go.Proofs.YtlpibpkbgmcclaaDoor
open Go.RowKit
set_option linter.unusedVariables false
set_option maxRecDepth 100000 in
set_option maxHeartbeats 32000000 in
theorem walkModelSilent (e : Int) (a : Option Addr) (n c : Nat) (w : World) (hK : KM w) (hwf : (Lit.int .i64 e).wf = true) (h0 : Came 22 w a n c) : Calls Tryd.prog 5 #[.int .i64 e, .slice a n c] w fun e w' => e = .returned (.bool true) ∧ Below w.heap.size w w' := by
  obtain ⟨L, hl, hlc, h63, hA⟩ := came_rqs h0
  have HKD := hide hK
  have HB0 : Hid (Below w.heap.size w w) := Below.refl _ _
  have HL := hide hl
  have HA := hide hA
  clear hK hwf h0 hl hA
  by_cases hbig : 30 < n
  · have g0 : decide ((30 : Int) < (n : Int)) = true := by simp; omega
    go_enter Tryd.func5, Tryd.ntmps5
    go_wp2_with fail
    refine (live_any _ (HKD.out.below HB0.out)).mono ?_
    rintro e9 W9 ⟨rfl, hb9⟩
    have HL9 := hide (HB0.out.trans (hb9.mono HB0.out.size))
    clear hb9
    go_wp2_with fail
    first | go_ret | go_returns
    exact ⟨rfl, HL9.out⟩
  have hn : n ≤ 30 := by omega
  have g0 : decide ((30 : Int) < (n : Int)) = false := by simp; omega
  clear hbig
  have S1 := hide (fun W => md_silent e W)
  have S2 := hide (fun W => rf_silent e W)
  have S3 : Hid (∀ (x : Int) (W : World), silB x = false → Calls Tryd.prog 14 #[.int .i64 x] W fun r w' => r = .returned (.bool false) ∧ w' = W) := fun x W hx => by rw [← hx]; exact md_silent x W
  generalize silB e = sb at S1 S2
  have hsb : (sb != sb) = false := by simp
  go_enter Tryd.func5, Tryd.ntmps5
  go_wp2_with fail
  refine (S1.out _).mono ?_
  rintro e1 W1 ⟨rfl, hW⟩
  obtain rfl := hW.symm
  clear hW
  go_wp2_with fail
  refine (S2.out _).mono ?_
  rintro e1 W1 ⟨rfl, hW⟩
  obtain rfl := hW.symm
  clear hW
  go_wp2_with fail
  refine (md_new _).mono ?_
  rintro e1 w1 ⟨rfl, hm, hb⟩
  have HM1 := hide hm
  have HB1 := hide hb
  clear hm hb
  go_wp2_with fail
  have HMB : Hid (w.heap.size ≤ w.heap.size) := Nat.le_refl _
  go_loopw [6] (fun y wr => ∃ k : Nat, k ≤ n ∧ y = .int .i64 k ∧ MdAt wr (w.heap.size + 1) w.heap.size k (runM T0 (L.take k)) ∧ Below w.heap.size w wr) (fun y _ => n - (intOf y).toNat)
  case atStart => exact ⟨0, by omega, rfl, by simpa [runM] using HM1.out, HB1.out⟩
  case round =>
    obtain ⟨k, hk, rfl, hmr, hbr⟩ := hrel
    have HMR := hide hmr
    have HBR := hide hbr
    clear hmr hbr
    by_cases hlt : k < n
    · have hd : decide ((k : Int) < (n : Int)) = true := by simp; omega
      have hdi : (k : Int) < (n : Int) := by omega
      have hd0 : (0 : Int) ≤ (k : Int) := by omega
      obtain ⟨⟨rd, rk, rv⟩, hx⟩ : ∃ r, L[k]? = some r := ⟨_, List.getElem?_eq_getElem (by have := HL.out; omega)⟩
      obtain ⟨b1, o1, rfl, hc⟩ := HA.out.nth hx
      simp only at hc
      have HC := hide hc
      have HX := hide hx
      clear hc hx
      obtain ⟨f0, f1, f2⟩ := HC.out _ HBR.out
      have SM := hide (fun W => rf_small ⟨rd, rk, rv⟩ W)
      simp only [rqs] at SM
      cases hsm : smB ⟨rd, rk, rv⟩ with
      | false =>
        rw [hsm] at SM
        clear hsm
        go_wp2_with fail
        refine (SM.out _).mono ?_
        rintro e3 w3 ⟨rfl, hb3⟩
        have HB3 := hide (HBR.out.trans (hb3.mono HBR.out.size))
        clear hb3
        go_wp2_with fail
        refine (live_any _ (HKD.out.below HB3.out)).mono ?_
        rintro e9 W9 ⟨rfl, hb9⟩
        have HL9 := hide (HB3.out.trans (hb9.mono HB3.out.size))
        clear hb9
        go_wp2_with fail
        first | go_ret | go_returns
        exact ⟨rfl, HL9.out⟩
      | true =>
        rw [hsm] at SM
        obtain ⟨sz1, sz2⟩ := sm_size hsm
        have DO := hide (fun (W : World) (nn : Nat) (TT : MT) (hM : MdAt W (w.heap.size + 1) w.heap.size nn TT) (hn : nn ≤ 1000000) (hK : KM W) => md_do hM hn hK ⟨rd, rk, rv⟩ sz1 sz2)
        simp only [rqs] at DO
        clear hsm sz1 sz2
        go_wp2_with fail
        refine (SM.out _).mono ?_
        rintro e3 w3 ⟨rfl, hb3⟩
        have HM3 := hide (HMR.out.below (hb3.mono (Nat.le_refl _)))
        have HB3 := hide (HBR.out.trans (hb3.mono HBR.out.size))
        clear hb3
        clear f0 f1 f2
        obtain ⟨f0, f1, f2⟩ := HC.out _ HB3.out
        go_wp2_with fail
        refine (DO.out _ _ _ HM3.out (by omega) (HKD.out.below HB3.out)).mono ?_
        rintro e4 w4 hP
        obtain ⟨a4, c4, L4, he4, hrest4⟩ := hP.ex
        simp only [rsC] at he4
        subst he4
        have HM4 := hide hP.m
        have HB4 := hide (hP.b.below HB3.out HMB.out HB3.out.size)
        rw [← runM_take T0 L HX.out] at HM4
        clear hP
        have hq := code_loud (runM T0 (L.take k)) ⟨rd, rk, rv⟩
        have HQ := hide hq
        clear hrest4 hq
        have hfd := rs_fd
        go_wp2_with fail
        refine (S3.out _ _ HQ.out).mono ?_
        rintro e5 w5 ⟨rfl, rfl⟩
        go_wp2_with fail
        go_roundw
        case rel => exact ⟨k + 1, by omega, by go_num, HM4.out, HB4.out⟩
        case measure => simp [intOf]; omega
    · have hd : decide ((k : Int) < (n : Int)) = false := by simp; omega
      have hkn : k = n := by omega
      subst hkn
      have htk : L.take k = L := List.take_of_length_le (by have := HL.out; omega)
      rw [htk] at HMR
      clear htk hlt hk
      have ND := hide (fun W => md_do_nil ⟨4, ⟨#[]⟩, ⟨#[]⟩⟩ W)
      simp only [rqs] at ND
      go_wp2_with fail
      refine (ND.out _).mono ?_
      rintro e5 w5 ⟨rfl, hb5⟩
      have HB5 := hide (HBR.out.trans (hb5.mono HBR.out.size))
      clear hb5
      simp only [rsC]
      have hfd := rs_fd
      go_wp2_with fail
      refine (md_state_nil _).mono ?_
      rintro e6 w6 ⟨rfl, hb6⟩
      have HB6 := hide (HB5.out.trans (hb6.mono HB5.out.size))
      clear hb6
      go_wp2_with fail
      refine (md_copy_nil _).mono ?_
      rintro e7 w7 ⟨rfl, hb7⟩
      have HB7 := hide (HB6.out.trans (hb7.mono HB6.out.size))
      clear hb7
      go_wp2_with fail
      refine (live_any _ (HKD.out.below HB7.out)).mono ?_
      rintro e9 W9 ⟨rfl, hb9⟩
      have HL9 := hide (HB7.out.trans (hb9.mono HB7.out.size))
      clear hb9
      go_wp2_with fail
      first | go_ret | go_returns
      exact ⟨rfl, HL9.out⟩
end Go.Proofs.YtlpibpkbgmcclaaDoor
