/- ModelKeeps: a copy is apart; a copy answers as the model does; what is told changes just when a put or a del is answered 0. (Written by gen16.py.) -/
import Derived.Test.YtlpibpkbgmcclaaDoorMdLive
import Derived.Test.YtlpibpkbgmcclaaDoorMdLawX
import Derived.Test.YtlpibpkbgmcclaaDoorCameX
namespace Go.Proofs.YtlpibpkbgmcclaaDoor
open Go.RowKit
set_option linter.unusedVariables false
set_option maxRecDepth 100000 in
set_option maxHeartbeats 32000000 in
theorem walkModelKeeps (a : Option Addr) (n c : Nat) (u : Value) (w : World) (hK : KM w) (h0 : Came 22 w a n c) (h1 : CameV 24 3 w u) : Calls Tryd.prog 3 #[.slice a n c, u] w fun e w' => e = .returned (.bool true) ∧ Below w.heap.size w w' := by
  obtain ⟨⟨d, k0, v0⟩, rfl, _, _⟩ := rq_open h1
  obtain ⟨L, hl, hlc, h63, hA⟩ := came_rqs h0
  simp only [rqs]
  have hb0 : Below w.heap.size w (w.alloc (.cells #[.int .i64 d, .string k0, .string v0] 24)) := (Below.refl _ _).alloc (Nat.le_refl _) _
  have HKD := hide (hK.below hb0)
  have HW := hide hb0
  have HL := hide hl
  have HA := hide (hA.below hb0)
  have HRQ : Hid ((w.alloc (.cells #[.int .i64 d, .string k0, .string v0] 24)).heap[w.heap.size]? = some (.cells #[.int .i64 d, .string k0, .string v0] 24 (0, 0))) := heap_alloc_new _ _
  clear hK h0 h1 hl hA hb0
  have SM0 := hide (fun W => rf_small ⟨d, k0, v0⟩ W)
  simp only [rqs] at SM0
  by_cases hbig : 30 < n
  · have g0 : decide ((30 : Int) < (n : Int)) = true := by simp; omega
    go_enter Tryd.func3, Tryd.ntmps3
    go_upto_region 1 with fail
    generalize w.alloc (.cells #[.int .i64 d, .string k0, .string v0] 24) = w0 at *
    have HB0 : Hid (Below w0.heap.size w0 w0) := Below.refl _ _
    go_wp2_with fail
    refine (live_any _ (HKD.out.below HB0.out)).mono ?_
    rintro e9 W9 ⟨rfl, hb9⟩
    have HL9 := hide (HW.out.trans ((HB0.out.trans (hb9.mono HB0.out.size)).mono HW.out.size))
    clear hb9
    go_wp2_with fail
    first | go_ret | go_returns
    exact ⟨rfl, HL9.out⟩
  have hn : n ≤ 30 := by omega
  have g0 : decide ((30 : Int) < (n : Int)) = false := by simp; omega
  clear hbig
  go_enter Tryd.func3, Tryd.ntmps3
  go_upto_region 1 with fail
  generalize w.alloc (.cells #[.int .i64 d, .string k0, .string v0] 24) = w0 at *
  have HB0 : Hid (Below w0.heap.size w0 w0) := Below.refl _ _
  have RC : Hid (∀ W, Below w0.heap.size w0 W → W.cell? ⟨w.heap.size, 0, none⟩ = some (.int .i64 d) ∧ W.cell? ⟨w.heap.size, 1, none⟩ = some (.string k0) ∧ W.cell? ⟨w.heap.size, 2, none⟩ = some (.string v0)) := fun W hb => by have q := (hb.block _ (lt_of_block HRQ.out)).trans HRQ.out; exact ⟨cell_of_block q, cell_of_block q, cell_of_block q⟩
  obtain ⟨q0, q1, q2⟩ := RC.out _ HB0.out
  cases hs0 : smB ⟨d, k0, v0⟩ with
  | false =>
    rw [hs0] at SM0
    clear hs0
    go_wp2_with fail
    refine (SM0.out _).mono ?_
    rintro e1 w1 ⟨rfl, hb1⟩
    have HB1 := hide hb1
    clear hb1
    go_wp2_with fail
    refine (live_any _ (HKD.out.below HB1.out)).mono ?_
    rintro e9 W9 ⟨rfl, hb9⟩
    have HL9 := hide (HW.out.trans ((HB1.out.trans (hb9.mono HB1.out.size)).mono HW.out.size))
    clear hb9
    go_wp2_with fail
    first | go_ret | go_returns
    exact ⟨rfl, HL9.out⟩
  | true =>
  rw [hs0] at SM0
  obtain ⟨sz01, sz02⟩ := sm_size hs0
  have D0 := hide (fun (W : World) (x b nn : Nat) (TT : MT) (hM : MdAt W x b nn TT) (hn : nn ≤ 1000000) (hK : KM W) => md_do hM hn hK ⟨d, k0, v0⟩ sz01 sz02)
  simp only [rqs] at D0
  clear hs0 sz01 sz02
  go_wp2_with fail
  refine (SM0.out _).mono ?_
  rintro e1 w1 ⟨rfl, hb1⟩
  have HB1 := hide hb1
  clear hb1
  clear q0 q1 q2
  go_wp2_with fail
  refine (md_new _).mono ?_
  rintro e2 w2 ⟨rfl, hm2, hb2⟩
  have HM2 := hide hm2
  have HB2 := hide (HB1.out.trans (hb2.mono HB1.out.size))
  have HMB : Hid (w0.heap.size ≤ w1.heap.size) := HB1.out.size
  clear hm2 hb2
  go_wp2_with fail
  go_loopw [6] (fun y wr => ∃ k : Nat, k ≤ n ∧ y = .int .i64 k ∧ MdAt wr (w1.heap.size + 1) w1.heap.size k (runM T0 (L.take k)) ∧ Below w0.heap.size w0 wr) (fun y _ => n - (intOf y).toNat)
  case atStart => exact ⟨0, by omega, rfl, by simpa [runM] using HM2.out, HB2.out⟩
  case round =>
    obtain ⟨k, hk, rfl, hmr, hbr⟩ := hrel
    have HMR := hide hmr
    have HBR := hide hbr
    clear hmr hbr
    by_cases hlt : k < n
    · have hd : decide ((k : Int) < (n : Int)) = true := by simp; omega
      have hdi : (k : Int) < (n : Int) := by omega
      have hd0 : (0 : Int) ≤ (k : Int) := by omega
      obtain ⟨⟨rd, rk, rv⟩, hx⟩ : ∃ r, L[k]? = some r := ⟨_, List.getElem?_eq_getElem (by have := HL.out; omega)⟩
      obtain ⟨b1, o1, rfl, hc⟩ := HA.out.nth hx
      simp only at hc
      have HC := hide hc
      have HX := hide hx
      clear hc hx
      obtain ⟨f0, f1, f2⟩ := HC.out _ HBR.out
      have SM := hide (fun W => rf_small ⟨rd, rk, rv⟩ W)
      simp only [rqs] at SM
      cases hsm : smB ⟨rd, rk, rv⟩ with
      | false =>
        rw [hsm] at SM
        clear hsm
        go_wp2_with fail
        refine (SM.out _).mono ?_
        rintro e3 w3 ⟨rfl, hb3⟩
        have HB3 := hide (HBR.out.trans (hb3.mono HBR.out.size))
        clear hb3
        go_wp2_with fail
        refine (live_any _ (HKD.out.below HB3.out)).mono ?_
        rintro e9 W9 ⟨rfl, hb9⟩
        have HL9 := hide (HW.out.trans ((HB3.out.trans (hb9.mono HB3.out.size)).mono HW.out.size))
        clear hb9
        go_wp2_with fail
        first | go_ret | go_returns
        exact ⟨rfl, HL9.out⟩
      | true =>
        rw [hsm] at SM
        obtain ⟨sz1, sz2⟩ := sm_size hsm
        have DO := hide (fun (W : World) (nn : Nat) (TT : MT) (hM : MdAt W (w1.heap.size + 1) w1.heap.size nn TT) (hn : nn ≤ 1000000) (hK : KM W) => md_do hM hn hK ⟨rd, rk, rv⟩ sz1 sz2)
        simp only [rqs] at DO
        clear hsm sz1 sz2
        go_wp2_with fail
        refine (SM.out _).mono ?_
        rintro e3 w3 ⟨rfl, hb3⟩
        have HM3 := hide (HMR.out.below (hb3.mono (Nat.le_refl _)))
        have HB3 := hide (HBR.out.trans (hb3.mono HBR.out.size))
        clear hb3
        clear f0 f1 f2
        obtain ⟨f0, f1, f2⟩ := HC.out _ HB3.out
        go_wp2_with fail
        refine (DO.out _ _ _ HM3.out (by omega) (HKD.out.below HB3.out)).mono ?_
        rintro e4 w4 hP
        obtain ⟨a4, c4, L4, he4, hrest4⟩ := hP.ex
        simp only [rsC] at he4
        subst he4
        have HM4 := hide hP.m
        have HB4 := hide (hP.b.below HB3.out HMB.out HB3.out.size)
        rw [← runM_take T0 L HX.out] at HM4
        clear hP
        clear hrest4
        clear f0 f1 f2
        go_wp2_with fail
        go_roundw
        case rel => exact ⟨k + 1, by omega, by go_num, HM4.out, HB4.out⟩
        case measure => simp [intOf]; omega
    · have hd : decide ((k : Int) < (n : Int)) = false := by simp; omega
      have hkn : k = n := by omega
      subst hkn
      have htk : L.take k = L := List.take_of_length_le (by have := HL.out; omega)
      rw [htk] at HMR
      clear htk hlt hk
      obtain ⟨T, hT⟩ : ∃ T, runM T0 L = T := ⟨_, rfl⟩
      rw [hT] at HMR
      clear hT
      go_wp2_with fail
      refine (md_state HMR.out (by omega)).mono ?_
      rintro e5 w5 ⟨s0, rfl, hs5, hb5⟩
      have HST0 := hide hs5
      have HM5 := hide (HMR.out.below hb5)
      have HB5 := hide (HBR.out.trans (hb5.mono HBR.out.size))
      clear hs5 hb5
      go_wp2_with fail
      refine (md_copy HM5.out).mono ?_
      rintro e6 w6 ⟨y, rfl, hm6, hy6, hb6⟩
      have HC6 := hide hm6
      have HM6 := hide (HM5.out.below hb6)
      have HB6 := hide (HB5.out.trans (hb6.mono HB5.out.size))
      have HY := hide hy6
      have HNE : Hid (w1.heap.size + 1 < w5.heap.size ∧ w1.heap.size < w5.heap.size ∧ w5.heap.size < w6.heap.size ∧ w0.heap.size ≤ w5.heap.size) := ⟨HM5.out.xlt, HM5.out.blt, HC6.out.blt, HB5.out.size⟩
      clear hm6 hy6 hb6
      obtain ⟨q0, q1, q2⟩ := RC.out _ HB6.out
      go_wp2_with fail
      refine (D0.out _ _ _ _ _ HC6.out (by omega) (HKD.out.below HB6.out)).mono ?_
      rintro e7 w7 hP7
      obtain ⟨a7, c7, L7, he7, hl7, hm7, hs7, hk7, hz7, hf7⟩ := hP7.ex
      simp only [rsC] at he7
      subst he7
      have HC7 := hide hP7.m
      have HM7 := hide (HM6.out.bm hP7.b (by have := HNE.out; omega) (by have := HNE.out; omega))
      have HB7 := hide (hP7.b.below HB6.out HNE.out.2.2.2 HB6.out.size)
      have HS7 := hide hs7
      have HK7 := hide hk7
      have HF7 := hide hf7
      have HG7 := hide (And.intro hl7 hm7)
      have HV7 := hide hP7.b.size
      clear hP7 hl7 hm7 hs7 hk7 hz7 hf7
      obtain ⟨hz8, hr8, hs8⟩ := rs_laid w7 (T.code ⟨d, k0, v0⟩) (T.ans ⟨d, k0, v0⟩) a7 L7.length c7
      have HZ8 := hide hz8
      have HR8 := hide hr8
      have HQ8 := hide hs8
      clear hz8 hr8 hs8
      have HC8 := hide (HC7.out.below HQ8.out)
      have HM8 := hide (HM7.out.below HQ8.out)
      have HB8 := hide (HB7.out.trans (HQ8.out.mono HB7.out.size))
      have HS8 := hide (HS7.out.below HQ8.out)
      clear q0 q1 q2
      go_upto_region 15 with (first | (refine wpList_store_row rfl 32 (.tmp 9) (.tmp 49) rfl w7.heap.size #[.int .i64 (T.code ⟨d, k0, v0⟩), .string (T.ans ⟨d, k0, v0⟩), .slice a7 L7.length c7] rfl rfl 32 _ HZ8.out rs_info rfl (rs_one _ _ _ _ _) ?_))
      generalize hW8 : ((w7.alloc (.cells #[.int .i64 0, .string ⟨#[]⟩, .slice none 0 0] 32)).setRow w7.heap.size #[.int .i64 (T.code ⟨d, k0, v0⟩), .string (T.ans ⟨d, k0, v0⟩), .slice a7 L7.length c7]) = w8 at *
      clear hW8 HZ8
      clear HC7 HM7 HB7 HS7 HQ8
      go_wp2_with fail
      refine (md_state HM8.out (by omega)).mono ?_
      rintro e9 w9 ⟨s9, rfl, hs9, hb9⟩
      obtain rfl := hs9.eq HST0.out
      have HC9 := hide (HC8.out.below hb9)
      have HM9 := hide (HM8.out.below hb9)
      have HB9 := hide (HB8.out.trans (hb9.mono HB8.out.size))
      have HS9 := hide (HS8.out.below hb9)
      have HR9 := hide ((hb9.block _ (lt_of_block HR8.out)).trans HR8.out)
      clear hs9 hb9 HC8 HM8 HB8 HS8
      obtain ⟨q0, q1, q2⟩ := RC.out _ HB9.out
      go_wp2_with fail
      refine (D0.out _ _ _ _ _ HM9.out (by omega) (HKD.out.below HB9.out)).mono ?_
      rintro e10 w10 hP
      obtain ⟨a10, c10, L10, he10, hl10, hm10, hs10, hk10, hz10, hf10⟩ := hP.ex
      simp only [rsC] at he10
      obtain rfl := hk10.eq HK7.out
      subst he10
      have HM10 := hide hP.m
      have HC10 := hide (HC9.out.bm hP.b (by have := HNE.out; have := HY.out; omega) (by have := HNE.out; omega))
      have HB10 := hide (hP.b.below HB9.out HMB.out HB9.out.size)
      have HR10 : Hid (RsB w7.heap.size (T.code ⟨d, k0, v0⟩) (T.ans ⟨d, k0, v0⟩) a7 L10.length c7 w10) := hP.b.keep HR9.out (by have := HNE.out; have := HV7.out; omega)
      have HS10 := hide (strs_bm HS9.out hP.b (fun p hp => by have := HF7.out p hp; have := HNE.out; omega))
      have HT10 := hide hs10
      have HG10 := hide (And.intro hl10 hm10)
      clear hP hl10 hm10 hs10 hk10 hz10 hf10 HM9 HC9 HB9 HR9 HS9 HR8
      obtain ⟨hz11, hr11, hs11⟩ := rs_laid w10 (T.code ⟨d, k0, v0⟩) (T.ans ⟨d, k0, v0⟩) a10 L10.length c10
      have HZ11 := hide hz11
      have HR11 := hide hr11
      have HQ11 := hide hs11
      clear hz11 hr11 hs11
      have HC11 := hide (HC10.out.below HQ11.out)
      have HM11 := hide (HM10.out.below HQ11.out)
      have HB11 := hide (HB10.out.trans (HQ11.out.mono HB10.out.size))
      have HS11 := hide (HS10.out.below HQ11.out)
      have HT11 := hide (HT10.out.below HQ11.out)
      have HP11 := hide ((HQ11.out.block _ (lt_of_block HR10.out)).trans HR10.out)
      clear q0 q1 q2
      go_upto_region 18 with (first | (refine wpList_store_row rfl 32 (.tmp 10) (.tmp 56) rfl w10.heap.size #[.int .i64 (T.code ⟨d, k0, v0⟩), .string (T.ans ⟨d, k0, v0⟩), .slice a10 L10.length c10] rfl rfl 32 _ HZ11.out rs_info rfl (rs_one _ _ _ _ _) ?_))
      generalize hW11 : ((w10.alloc (.cells #[.int .i64 0, .string ⟨#[]⟩, .slice none 0 0] 32)).setRow w10.heap.size #[.int .i64 (T.code ⟨d, k0, v0⟩), .string (T.ans ⟨d, k0, v0⟩), .slice a10 L10.length c10]) = w11 at *
      clear hW11 HZ11
      clear HC10 HM10 HB10 HS10 HT10 HR10 HQ11
      obtain ⟨q0, q1, q2⟩ := RC.out _ HB11.out
      generalize w7.heap.size = p8 at *
      generalize w10.heap.size = p11 at *
      have x0 : w11.cell? ⟨p8, 0, none⟩ = some (.int .i64 (T.code ⟨d, k0, v0⟩)) := cell_of_block HP11.out
      have x1 : w11.cell? ⟨p8, 1, none⟩ = some (.string (T.ans ⟨d, k0, v0⟩)) := cell_of_block HP11.out
      have x2 : w11.cell? ⟨p8, 2, none⟩ = some (.slice a7 L10.length c7) := cell_of_block HP11.out
      have y0 : w11.cell? ⟨p11, 0, none⟩ = some (.int .i64 (T.code ⟨d, k0, v0⟩)) := cell_of_block HR11.out
      have y1 : w11.cell? ⟨p11, 1, none⟩ = some (.string (T.ans ⟨d, k0, v0⟩)) := cell_of_block HR11.out
      have y2 : w11.cell? ⟨p11, 2, none⟩ = some (.slice a10 L10.length c10) := cell_of_block HR11.out
      have HSM := hide (rs_same (T.code ⟨d, k0, v0⟩) (T.ans ⟨d, k0, v0⟩) a7 a10 c7 c10 L10.length L10 w11 rfl (by have := HG10.out.2; omega) HS11.out HT11.out)
      simp only [rsC] at HSM
      have hok := HM5.out.ok
      generalize hcd : T.code ⟨d, k0, v0⟩ = cd at *
      by_cases hc0 : cd = 0
      · by_cases hd0 : d = 0
        · have HNQ : Hid (∀ s t, StIs T s → StIs (T.next ⟨d, k0, v0⟩) t → s ≠ t) := fun s t hs ht => next_diff hok ⟨by rw [hcd, hc0], .inl hd0⟩ hs ht
          clear hok hcd
          subst hc0
          subst hd0
          go_wp2_with fail
          refine HSM.out.mono ?_
          rintro e12 w12 ⟨rfl, hb12⟩
          have HC12 := hide (HC11.out.below hb12)
          have HM12 := hide (HM11.out.below hb12)
          have HB12 := hide (HB11.out.trans (hb12.mono HB11.out.size))
          clear hb12
          go_wp2_with fail
          refine (md_state HM12.out (by omega)).mono ?_
          rintro e13 w13 ⟨s1, rfl, hs13, hb13⟩
          have HST1 := hide hs13
          have HC13 := hide (HC12.out.below hb13)
          have HM13 := hide (HM12.out.below hb13)
          have HB13 := hide (HB12.out.trans (hb13.mono HB12.out.size))
          clear hs13 hb13
          go_wp2_with fail
          refine (md_state HC13.out (by omega)).mono ?_
          rintro e14 w14 ⟨s14, rfl, hs14, hb14⟩
          obtain rfl := hs14.eq HST1.out
          have HM14 := hide (HM13.out.below hb14)
          have HB14 := hide (HB13.out.trans (hb14.mono HB13.out.size))
          clear hs14 hb14
          go_wp2_with fail
          refine (md_state HM14.out (by omega)).mono ?_
          rintro e15 w15 ⟨s15, rfl, hs15, hb15⟩
          obtain rfl := hs15.eq HST1.out
          have HB15 := hide (HB14.out.trans (hb15.mono HB14.out.size))
          have hne := str_ne (fun e => HNQ.out _ _ HST0.out hs15 e.symm)
          clear hs15 hb15
          go_wp2_with fail
          refine (live_any _ (HKD.out.below HB15.out)).mono ?_
          rintro e9 W9 ⟨rfl, hb9⟩
          have HL9 := hide (HW.out.trans ((HB15.out.trans (hb9.mono HB15.out.size)).mono HW.out.size))
          clear hb9
          go_wp2_with fail
          first | go_ret | go_returns
          exact ⟨rfl, HL9.out⟩
        · by_cases hd2 : d = 2
          · have HNQ : Hid (∀ s t, StIs T s → StIs (T.next ⟨d, k0, v0⟩) t → s ≠ t) := fun s t hs ht => next_diff hok ⟨by rw [hcd, hc0], .inr hd2⟩ hs ht
            clear hok hcd
            subst hc0
            subst hd2
            clear hd0
            go_wp2_with fail
            refine HSM.out.mono ?_
            rintro e12 w12 ⟨rfl, hb12⟩
            have HC12 := hide (HC11.out.below hb12)
            have HM12 := hide (HM11.out.below hb12)
            have HB12 := hide (HB11.out.trans (hb12.mono HB11.out.size))
            clear hb12
            go_wp2_with fail
            refine (md_state HM12.out (by omega)).mono ?_
            rintro e13 w13 ⟨s1, rfl, hs13, hb13⟩
            have HST1 := hide hs13
            have HC13 := hide (HC12.out.below hb13)
            have HM13 := hide (HM12.out.below hb13)
            have HB13 := hide (HB12.out.trans (hb13.mono HB12.out.size))
            clear hs13 hb13
            go_wp2_with fail
            refine (md_state HC13.out (by omega)).mono ?_
            rintro e14 w14 ⟨s14, rfl, hs14, hb14⟩
            obtain rfl := hs14.eq HST1.out
            have HM14 := hide (HM13.out.below hb14)
            have HB14 := hide (HB13.out.trans (hb14.mono HB13.out.size))
            clear hs14 hb14
            go_wp2_with fail
            refine (md_state HM14.out (by omega)).mono ?_
            rintro e15 w15 ⟨s15, rfl, hs15, hb15⟩
            obtain rfl := hs15.eq HST1.out
            have HB15 := hide (HB14.out.trans (hb15.mono HB14.out.size))
            have hne := str_ne (fun e => HNQ.out _ _ HST0.out hs15 e.symm)
            clear hs15 hb15
            go_wp2_with fail
            refine (live_any _ (HKD.out.below HB15.out)).mono ?_
            rintro e9 W9 ⟨rfl, hb9⟩
            have HL9 := hide (HW.out.trans ((HB15.out.trans (hb9.mono HB15.out.size)).mono HW.out.size))
            clear hb9
            go_wp2_with fail
            first | go_ret | go_returns
            exact ⟨rfl, HL9.out⟩
          · have HNX : Hid (T.next ⟨d, k0, v0⟩ = T) := next_same (fun c => by rcases c.2 with q | q; exact hd0 q; exact hd2 q)
            clear hok hcd
            have z0 : (d == 0) = false := by simpa using hd0
            have z2 : (d == 2) = false := by simpa using hd2
            subst hc0
            clear hd0 hd2
            go_wp2_with fail
            refine HSM.out.mono ?_
            rintro e12 w12 ⟨rfl, hb12⟩
            have HC12 := hide (HC11.out.below hb12)
            have HM12 := hide (HM11.out.below hb12)
            have HB12 := hide (HB11.out.trans (hb12.mono HB11.out.size))
            clear hb12
            go_wp2_with fail
            refine (md_state HM12.out (by omega)).mono ?_
            rintro e13 w13 ⟨s1, rfl, hs13, hb13⟩
            have HST1 := hide hs13
            have HC13 := hide (HC12.out.below hb13)
            have HM13 := hide (HM12.out.below hb13)
            have HB13 := hide (HB12.out.trans (hb13.mono HB12.out.size))
            clear hs13 hb13
            go_wp2_with fail
            refine (md_state HC13.out (by omega)).mono ?_
            rintro e14 w14 ⟨s14, rfl, hs14, hb14⟩
            obtain rfl := hs14.eq HST1.out
            have HM14 := hide (HM13.out.below hb14)
            have HB14 := hide (HB13.out.trans (hb14.mono HB13.out.size))
            clear hs14 hb14
            go_wp2_with fail
            refine (md_state HM14.out (by omega)).mono ?_
            rintro e15 w15 ⟨s15, rfl, hs15, hb15⟩
            obtain rfl := hs15.eq HST1.out
            have HB15 := hide (HB14.out.trans (hb15.mono HB14.out.size))
            have hne := hs15
            rw [HNX.out] at hne
            obtain rfl := hne.eq HST0.out
            clear hne
            clear hs15 hb15
            go_wp2_with fail
            refine (live_any _ (HKD.out.below HB15.out)).mono ?_
            rintro e9 W9 ⟨rfl, hb9⟩
            have HL9 := hide (HW.out.trans ((HB15.out.trans (hb9.mono HB15.out.size)).mono HW.out.size))
            clear hb9
            go_wp2_with fail
            first | go_ret | go_returns
            exact ⟨rfl, HL9.out⟩
      · have HNX : Hid (T.next ⟨d, k0, v0⟩ = T) := next_same (fun c => hc0 (hcd.symm.trans c.1))
        clear hok hcd
        have z0 : (cd == 0) = false := by simpa using hc0
        clear hc0
        go_wp2_with fail
        refine HSM.out.mono ?_
        rintro e12 w12 ⟨rfl, hb12⟩
        have HC12 := hide (HC11.out.below hb12)
        have HM12 := hide (HM11.out.below hb12)
        have HB12 := hide (HB11.out.trans (hb12.mono HB11.out.size))
        clear hb12
        go_wp2_with fail
        refine (md_state HM12.out (by omega)).mono ?_
        rintro e13 w13 ⟨s1, rfl, hs13, hb13⟩
        have HST1 := hide hs13
        have HC13 := hide (HC12.out.below hb13)
        have HM13 := hide (HM12.out.below hb13)
        have HB13 := hide (HB12.out.trans (hb13.mono HB12.out.size))
        clear hs13 hb13
        go_wp2_with fail
        refine (md_state HC13.out (by omega)).mono ?_
        rintro e14 w14 ⟨s14, rfl, hs14, hb14⟩
        obtain rfl := hs14.eq HST1.out
        have HM14 := hide (HM13.out.below hb14)
        have HB14 := hide (HB13.out.trans (hb14.mono HB13.out.size))
        clear hs14 hb14
        go_wp2_with fail
        refine (md_state HM14.out (by omega)).mono ?_
        rintro e15 w15 ⟨s15, rfl, hs15, hb15⟩
        obtain rfl := hs15.eq HST1.out
        have HB15 := hide (HB14.out.trans (hb15.mono HB14.out.size))
        have hne := hs15
        rw [HNX.out] at hne
        obtain rfl := hne.eq HST0.out
        clear hne
        clear hs15 hb15
        go_wp2_with fail
        refine (live_any _ (HKD.out.below HB15.out)).mono ?_
        rintro e9 W9 ⟨rfl, hb9⟩
        have HL9 := hide (HW.out.trans ((HB15.out.trans (hb9.mono HB15.out.size)).mono HW.out.size))
        clear hb9
        go_wp2_with fail
        first | go_ret | go_returns
        exact ⟨rfl, HL9.out⟩
end Go.Proofs.YtlpibpkbgmcclaaDoor
