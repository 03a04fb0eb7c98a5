/- ModelOrder: two requests that name two keys are answered alike in either order, and leave the same. (Written by gen16.py.) -/
import Derived.Test.YtlpibpkbgmcclaaDoorMdLive
import Derived.Test.YtlpibpkbgmcclaaDoorMdLawX
import Derived.Test.YtlpibpkbgmcclaaDoorCameX
namespace Go.Proofs.YtlpibpkbgmcclaaDoor
open Go.RowKit
set_option linter.unusedVariables false
theorem md_copy2 {w : World} {x b n : Nat} {T : MT} (h : MdAt w x b n T) : Calls Tryd.prog 12 #[.pointer (some ⟨x, 0, none⟩)] w fun e w' => ∃ y b', e = .returned (.pointer (some ⟨y, 0, none⟩)) ∧ MdAt w' y b' n T ∧ MdAt w' x b n T ∧ Below w.heap.size w w' ∧ (x ≠ b' ∧ b ≠ b' ∧ y ≠ b) ∧ w.heap.size ≤ b' := by
  have h1 := h.xlt
  have h2 := h.blt
  refine (md_copy h).mono ?_
  rintro e w' ⟨y, rfl, hm, hy, hb⟩
  exact ⟨y, _, rfl, hm, h.below hb, hb, ⟨by omega, by omega, by omega⟩, Nat.le_refl _⟩
set_option maxRecDepth 100000 in
set_option maxHeartbeats 32000000 in
theorem walkModelOrder (a : Option Addr) (n c : Nat) (u1 u2 : Value) (w : World) (hK : KM w) (h0 : Came 22 w a n c) (hu1 : CameV 24 3 w u1) (hu2 : CameV 24 3 w u2) : Calls Tryd.prog 6 #[.slice a n c, u1, u2] w fun e w' => e = .returned (.bool true) ∧ Below w.heap.size w w' := by
  obtain ⟨⟨d1, k1, v1⟩, rfl, _, _⟩ := rq_open hu1
  obtain ⟨⟨d2, k2, v2⟩, rfl, _, _⟩ := rq_open hu2
  obtain ⟨L, hl, hlc, h63, hA⟩ := came_rqs h0
  simp only [rqs]
  have hb0 : Below w.heap.size w ((w.alloc (.cells #[.int .i64 d1, .string k1, .string v1] 24)).alloc (.cells #[.int .i64 d2, .string k2, .string v2] 24)) := ((Below.refl _ _).alloc (Nat.le_refl _) _).alloc (by rw [World.size_alloc]; omega) _
  have HKD := hide (hK.below hb0)
  have HW := hide hb0
  have HL := hide hl
  have HA := hide (hA.below hb0)
  have HRQ2 : Hid (((w.alloc (.cells #[.int .i64 d1, .string k1, .string v1] 24)).alloc (.cells #[.int .i64 d2, .string k2, .string v2] 24)).heap[w.heap.size + 1]? = some (.cells #[.int .i64 d2, .string k2, .string v2] 24 (0, 0))) := by
    have := heap_alloc_new (w.alloc (.cells #[.int .i64 d1, .string k1, .string v1] 24)) (.cells #[.int .i64 d2, .string k2, .string v2] 24)
    rw [World.size_alloc] at this
    exact this
  have HRQ1 : Hid (((w.alloc (.cells #[.int .i64 d1, .string k1, .string v1] 24)).alloc (.cells #[.int .i64 d2, .string k2, .string v2] 24)).heap[w.heap.size]? = some (.cells #[.int .i64 d1, .string k1, .string v1] 24 (0, 0))) := (Below.heap_alloc _ _ _ (by rw [World.size_alloc]; omega)).trans (heap_alloc_new _ _)
  clear hK h0 hu1 hu2 hl hA hb0
  have SM1 := hide (fun W => rf_small ⟨d1, k1, v1⟩ W)
  have SM2 := hide (fun W => rf_small ⟨d2, k2, v2⟩ W)
  simp only [rqs] at SM1 SM2
  by_cases hbig : 20 < n
  · have g0 : decide ((20 : Int) < (n : Int)) = true := by simp; omega
    go_enter Tryd.func6, Tryd.ntmps6
    go_upto_region 1 with fail
    generalize ((w.alloc (.cells #[.int .i64 d1, .string k1, .string v1] 24)).alloc (.cells #[.int .i64 d2, .string k2, .string v2] 24)) = w0 at *
    have HB0 : Hid (Below w0.heap.size w0 w0) := Below.refl _ _
    go_wp2_with fail
    refine (live_any _ (HKD.out.below HB0.out)).mono ?_
    rintro e9 W9 ⟨rfl, hb9⟩
    have HL9 := hide (HW.out.trans ((HB0.out.trans (hb9.mono HB0.out.size)).mono HW.out.size))
    clear hb9
    go_wp2_with fail
    first | go_ret | go_returns
    exact ⟨rfl, HL9.out⟩
  have hn : n ≤ 20 := by omega
  have g0 : decide ((20 : Int) < (n : Int)) = false := by simp; omega
  clear hbig
  go_enter Tryd.func6, Tryd.ntmps6
  go_upto_region 1 with fail
  generalize ((w.alloc (.cells #[.int .i64 d1, .string k1, .string v1] 24)).alloc (.cells #[.int .i64 d2, .string k2, .string v2] 24)) = w0 at *
  have HB0 : Hid (Below w0.heap.size w0 w0) := Below.refl _ _
  have RC1 : Hid (∀ W, Below w0.heap.size w0 W → W.cell? ⟨w.heap.size, 0, none⟩ = some (.int .i64 d1) ∧ W.cell? ⟨w.heap.size, 1, none⟩ = some (.string k1) ∧ W.cell? ⟨w.heap.size, 2, none⟩ = some (.string v1)) := fun W hb => by have q := (hb.block _ (lt_of_block HRQ1.out)).trans HRQ1.out; exact ⟨cell_of_block q, cell_of_block q, cell_of_block q⟩
  have RC2 : Hid (∀ W, Below w0.heap.size w0 W → W.cell? ⟨w.heap.size + 1, 0, none⟩ = some (.int .i64 d2) ∧ W.cell? ⟨w.heap.size + 1, 1, none⟩ = some (.string k2) ∧ W.cell? ⟨w.heap.size + 1, 2, none⟩ = some (.string v2)) := fun W hb => by have q := (hb.block _ (lt_of_block HRQ2.out)).trans HRQ2.out; exact ⟨cell_of_block q, cell_of_block q, cell_of_block q⟩
  obtain ⟨q0, q1, q2⟩ := RC1.out _ HB0.out
  cases hs1 : smB ⟨d1, k1, v1⟩ with
  | false =>
    rw [hs1] at SM1
    clear hs1
    go_wp2_with fail
    refine (SM1.out _).mono ?_
    rintro e1 w1 ⟨rfl, hb1⟩
    have HB1 := hide hb1
    clear hb1
    go_wp2_with fail
    refine (live_any _ (HKD.out.below HB1.out)).mono ?_
    rintro e9 W9 ⟨rfl, hb9⟩
    have HL9 := hide (HW.out.trans ((HB1.out.trans (hb9.mono HB1.out.size)).mono HW.out.size))
    clear hb9
    go_wp2_with fail
    first | go_ret | go_returns
    exact ⟨rfl, HL9.out⟩
  | true =>
  rw [hs1] at SM1
  obtain ⟨sz11, sz12⟩ := sm_size hs1
  have DA := hide (fun (W : World) (x b nn : Nat) (TT : MT) (hM : MdAt W x b nn TT) (hn : nn ≤ 1000000) (hK : KM W) => md_do hM hn hK ⟨d1, k1, v1⟩ sz11 sz12)
  simp only [rqs] at DA
  clear hs1 sz11 sz12
  go_wp2_with fail
  refine (SM1.out _).mono ?_
  rintro e1 w1 ⟨rfl, hb1⟩
  have HB1 := hide hb1
  clear hb1
  clear q0 q1 q2
  obtain ⟨q0, q1, q2⟩ := RC2.out _ HB1.out
  cases hs2 : smB ⟨d2, k2, v2⟩ with
  | false =>
    rw [hs2] at SM2
    clear hs2
    go_wp2_with fail
    refine (SM2.out _).mono ?_
    rintro e2 w2 ⟨rfl, hb2⟩
    have HB2 := hide (HB1.out.trans (hb2.mono HB1.out.size))
    clear hb2
    go_wp2_with fail
    refine (live_any _ (HKD.out.below HB2.out)).mono ?_
    rintro e9 W9 ⟨rfl, hb9⟩
    have HL9 := hide (HW.out.trans ((HB2.out.trans (hb9.mono HB2.out.size)).mono HW.out.size))
    clear hb9
    go_wp2_with fail
    first | go_ret | go_returns
    exact ⟨rfl, HL9.out⟩
  | true =>
  rw [hs2] at SM2
  obtain ⟨sz21, sz22⟩ := sm_size hs2
  have DB := hide (fun (W : World) (x b nn : Nat) (TT : MT) (hM : MdAt W x b nn TT) (hn : nn ≤ 1000000) (hK : KM W) => md_do hM hn hK ⟨d2, k2, v2⟩ sz21 sz22)
  simp only [rqs] at DB
  clear hs2 sz21 sz22
  go_wp2_with fail
  refine (SM2.out _).mono ?_
  rintro e2 w2 ⟨rfl, hb2⟩
  have HB2 := hide (HB1.out.trans (hb2.mono HB1.out.size))
  clear hb2
  clear q0 q1 q2
  obtain ⟨q0, q1, q2⟩ := RC1.out _ HB2.out
  obtain ⟨r0, r1, r2⟩ := RC2.out _ HB2.out
  by_cases hkk : k1 = k2
  · subst hkk
    go_wp2_with fail
    refine (live_any _ (HKD.out.below HB2.out)).mono ?_
    rintro e9 W9 ⟨rfl, hb9⟩
    have HL9 := hide (HW.out.trans ((HB2.out.trans (hb9.mono HB2.out.size)).mono HW.out.size))
    clear hb9
    go_wp2_with fail
    first | go_ret | go_returns
    exact ⟨rfl, HL9.out⟩
  have hke := str_ne hkk
  have HKK := hide hkk
  clear hkk
  by_cases hd1 : d1 = 4
  · subst hd1
    go_wp2_with fail
    refine (live_any _ (HKD.out.below HB2.out)).mono ?_
    rintro e9 W9 ⟨rfl, hb9⟩
    have HL9 := hide (HW.out.trans ((HB2.out.trans (hb9.mono HB2.out.size)).mono HW.out.size))
    clear hb9
    go_wp2_with fail
    first | go_ret | go_returns
    exact ⟨rfl, HL9.out⟩
  have HD1 := hide hd1
  have z1 : (d1 == 4) = false := by simpa using hd1
  clear hd1
  by_cases hd2 : d2 = 4
  · subst hd2
    go_wp2_with fail
    refine (live_any _ (HKD.out.below HB2.out)).mono ?_
    rintro e9 W9 ⟨rfl, hb9⟩
    have HL9 := hide (HW.out.trans ((HB2.out.trans (hb9.mono HB2.out.size)).mono HW.out.size))
    clear hb9
    go_wp2_with fail
    first | go_ret | go_returns
    exact ⟨rfl, HL9.out⟩
  have HD2 := hide hd2
  have z2 : (d2 == 4) = false := by simpa using hd2
  clear hd2
  go_wp2_with fail
  refine (md_new _).mono ?_
  rintro e8 w8 ⟨rfl, hm8, hb8⟩
  have HM8 := hide hm8
  have HB8 := hide (HB2.out.trans (hb8.mono HB2.out.size))
  have HMB : Hid (w0.heap.size ≤ w2.heap.size) := HB2.out.size
  clear hm8 hb8 q0 q1 q2 r0 r1 r2
  go_wp2_with fail
  go_loopw [8] (fun y wr => ∃ k : Nat, k ≤ n ∧ y = .int .i64 k ∧ MdAt wr (w2.heap.size + 1) w2.heap.size k (runM T0 (L.take k)) ∧ Below w0.heap.size w0 wr) (fun y _ => n - (intOf y).toNat)
  case atStart => exact ⟨0, by omega, rfl, by simpa [runM] using HM8.out, HB8.out⟩
  case round =>
    obtain ⟨k, hk, rfl, hmr, hbr⟩ := hrel
    have HMR := hide hmr
    have HBR := hide hbr
    clear hmr hbr
    by_cases hlt : k < n
    · have hd : decide ((k : Int) < (n : Int)) = true := by simp; omega
      have hdi : (k : Int) < (n : Int) := by omega
      have hd0 : (0 : Int) ≤ (k : Int) := by omega
      obtain ⟨⟨rd, rk, rv⟩, hx⟩ : ∃ r, L[k]? = some r := ⟨_, List.getElem?_eq_getElem (by have := HL.out; omega)⟩
      obtain ⟨b1, o1, rfl, hc⟩ := HA.out.nth hx
      simp only at hc
      have HC := hide hc
      have HX := hide hx
      clear hc hx
      obtain ⟨f0, f1, f2⟩ := HC.out _ HBR.out
      have SM := hide (fun W => rf_small ⟨rd, rk, rv⟩ W)
      simp only [rqs] at SM
      cases hsm : smB ⟨rd, rk, rv⟩ with
      | false =>
        rw [hsm] at SM
        clear hsm
        go_wp2_with fail
        refine (SM.out _).mono ?_
        rintro e3 w3 ⟨rfl, hb3⟩
        have HB3 := hide (HBR.out.trans (hb3.mono HBR.out.size))
        clear hb3
        go_wp2_with fail
        refine (live_any _ (HKD.out.below HB3.out)).mono ?_
        rintro e9 W9 ⟨rfl, hb9⟩
        have HL9 := hide (HW.out.trans ((HB3.out.trans (hb9.mono HB3.out.size)).mono HW.out.size))
        clear hb9
        go_wp2_with fail
        first | go_ret | go_returns
        exact ⟨rfl, HL9.out⟩
      | true =>
        rw [hsm] at SM
        obtain ⟨sz1, sz2⟩ := sm_size hsm
        have DO := hide (fun (W : World) (nn : Nat) (TT : MT) (hM : MdAt W (w2.heap.size + 1) w2.heap.size nn TT) (hn : nn ≤ 1000000) (hK : KM W) => md_do hM hn hK ⟨rd, rk, rv⟩ sz1 sz2)
        simp only [rqs] at DO
        clear hsm sz1 sz2
        go_wp2_with fail
        refine (SM.out _).mono ?_
        rintro e3 w3 ⟨rfl, hb3⟩
        have HM3 := hide (HMR.out.below (hb3.mono (Nat.le_refl _)))
        have HB3 := hide (HBR.out.trans (hb3.mono HBR.out.size))
        clear hb3
        clear f0 f1 f2
        obtain ⟨f0, f1, f2⟩ := HC.out _ HB3.out
        go_wp2_with fail
        refine (DO.out _ _ _ HM3.out (by omega) (HKD.out.below HB3.out)).mono ?_
        rintro e4 w4 hP
        obtain ⟨a4, c4, L4, he4, hrest4⟩ := hP.ex
        simp only [rsC] at he4
        subst he4
        have HM4 := hide hP.m
        have HB4 := hide (hP.b.below HB3.out HMB.out HB3.out.size)
        rw [← runM_take T0 L HX.out] at HM4
        clear hP
        clear hrest4
        clear f0 f1 f2
        go_wp2_with fail
        go_roundw
        case rel => exact ⟨k + 1, by omega, by go_num, HM4.out, HB4.out⟩
        case measure => simp [intOf]; omega
    · have hd : decide ((k : Int) < (n : Int)) = false := by simp; omega
      have hkn : k = n := by omega
      subst hkn
      have htk : L.take k = L := List.take_of_length_le (by have := HL.out; omega)
      rw [htk] at HMR
      clear htk hlt hk
      obtain ⟨T, hT⟩ : ∃ T, runM T0 L = T := ⟨_, rfl⟩
      rw [hT] at HMR
      clear hT
      have HCA : Hid ((T.next ⟨d2, k2, v2⟩).code ⟨d1, k1, v1⟩ = T.code ⟨d1, k1, v1⟩ ∧ (T.next ⟨d2, k2, v2⟩).ans ⟨d1, k1, v1⟩ = T.ans ⟨d1, k1, v1⟩) := ⟨code_other (next_other HKK.out), ans_other (next_other HKK.out)⟩
      have HCB : Hid ((T.next ⟨d1, k1, v1⟩).code ⟨d2, k2, v2⟩ = T.code ⟨d2, k2, v2⟩ ∧ (T.next ⟨d1, k1, v1⟩).ans ⟨d2, k2, v2⟩ = T.ans ⟨d2, k2, v2⟩) := ⟨code_other (next_other (fun e => HKK.out e.symm)), ans_other (next_other (fun e => HKK.out e.symm))⟩
      have HCM : Hid ((T.next ⟨d1, k1, v1⟩).next ⟨d2, k2, v2⟩ = (T.next ⟨d2, k2, v2⟩).next ⟨d1, k1, v1⟩) := next_comm T HKK.out
      go_wp2_with fail
      refine (md_copy2 HMR.out).mono ?_
      rintro e5 w5 ⟨y, mb2, rfl, hc5, hm5, hb5, hne5, hsz5⟩
      have HC5 := hide hc5
      have HM5 := hide hm5
      have HB5 := hide (HBR.out.trans (hb5.mono HBR.out.size))
      have HNE := hide hne5
      have HSZ : Hid (w0.heap.size ≤ mb2) := by have := HBR.out.size; show _ ≤ _; omega
      have HLT : Hid (w2.heap.size < w5.heap.size ∧ mb2 < w5.heap.size) := ⟨hm5.blt, hc5.blt⟩
      clear hc5 hm5 hb5 hne5 hsz5
      obtain ⟨q0, q1, q2⟩ := RC1.out _ HB5.out
      go_wp2_with fail
      refine (DA.out _ _ _ _ _ HM5.out (by omega) (HKD.out.below HB5.out)).mono ?_
      rintro e10 w10 hP
      obtain ⟨a10, c10, L10, he10, hl10, hm10, hs10, hk10, hz10, hf10⟩ := hP.ex
      obtain rfl : L10 = [] := hk10.eq (ks_nil HD1.out)
      simp only [rsC, List.length_nil] at he10
      subst he10
      have HM10 := hide hP.m
      have HC10 := hide (HC5.out.bm hP.b (fun e => by have := HNE.out.2.2; omega) (fun e => HNE.out.2.1 e.symm))
      have HB10 := hide (hP.b.below HB5.out HMB.out HB5.out.size)
      have HV10 : Hid (w5.heap.size ≤ w10.heap.size) := Nat.le_trans (Nat.le_refl _) hP.b.size
      clear hP hl10 hm10 hs10 hk10 hz10 hf10
      obtain ⟨hz10, hr10, hs10⟩ := rs_laid w10 (T.code ⟨d1, k1, v1⟩) (T.ans ⟨d1, k1, v1⟩) a10 0 c10
      have HZ10 := hide hz10
      have HR10 := hide hr10
      have HP10 : Hid (w5.heap.size ≤ w10.heap.size) := HV10.out
      have HM11 := hide (HM10.out.below hs10)
      have HC11 := hide (HC10.out.below hs10)
      have HB11 := hide (HB10.out.trans (hs10.mono HB10.out.size))
      have HV11 := hide (Nat.le_trans HV10.out hs10.size)
      clear hz10 hr10 hs10 q0 q1 q2 HM10 HC10 HB10 HV10
      go_upto_region 14 with (first | (refine wpList_store_row rfl 32 (.tmp 10) (.tmp 71) rfl w10.heap.size #[.int .i64 (T.code ⟨d1, k1, v1⟩), .string (T.ans ⟨d1, k1, v1⟩), .slice a10 0 c10] rfl rfl 32 _ HZ10.out rs_info rfl (rs_one _ _ _ _ _) ?_))
      generalize hW10 : ((w10.alloc (.cells #[.int .i64 0, .string ⟨#[]⟩, .slice none 0 0] 32)).setRow w10.heap.size #[.int .i64 (T.code ⟨d1, k1, v1⟩), .string (T.ans ⟨d1, k1, v1⟩), .slice a10 0 c10]) = w11 at *
      clear hW10 HZ10
      generalize w10.heap.size = p10 at *
      obtain ⟨q0, q1, q2⟩ := RC2.out _ HB11.out
      go_wp2_with fail
      refine (DB.out _ _ _ _ _ HM11.out (by omega) (HKD.out.below HB11.out)).mono ?_
      rintro e12 w12 hP
      obtain ⟨a12, c12, L12, he12, hl12, hm12, hs12, hk12, hz12, hf12⟩ := hP.ex
      obtain rfl : L12 = [] := hk12.eq (ks_nil HD2.out)
      simp only [rsC, List.length_nil] at he12
      rw [HCB.out.1, HCB.out.2] at he12
      subst he12
      have HM12 := hide hP.m
      have HC12 := hide (HC11.out.bm hP.b (fun e => by have := HNE.out.2.2; omega) (fun e => HNE.out.2.1 e.symm))
      have HB12 := hide (hP.b.below HB11.out HMB.out HB11.out.size)
      have HV12 : Hid (w5.heap.size ≤ w12.heap.size) := Nat.le_trans HV11.out hP.b.size
      have HR10x := hide (hP.b.keep HR10.out (by have := HLT.out; have := HP10.out; omega))
      clear HR10
      have HR10 := HR10x
      clear HR10x
      clear hP hl12 hm12 hs12 hk12 hz12 hf12
      obtain ⟨hz12, hr12, hs12⟩ := rs_laid w12 (T.code ⟨d2, k2, v2⟩) (T.ans ⟨d2, k2, v2⟩) a12 0 c12
      have HZ12 := hide hz12
      have HR12 := hide hr12
      have HP12 : Hid (w5.heap.size ≤ w12.heap.size) := HV12.out
      have HM13 := hide (HM12.out.below hs12)
      have HC13 := hide (HC12.out.below hs12)
      have HB13 := hide (HB12.out.trans (hs12.mono HB12.out.size))
      have HV13 := hide (Nat.le_trans HV12.out hs12.size)
      have HR10x := hide ((hs12.block _ (lt_of_block HR10.out)).trans HR10.out)
      clear HR10
      have HR10 := HR10x
      clear HR10x
      clear hz12 hr12 hs12 q0 q1 q2 HM12 HC12 HB12 HV12
      go_upto_region 15 with (first | (refine wpList_store_row rfl 32 (.tmp 11) (.tmp 74) rfl w12.heap.size #[.int .i64 (T.code ⟨d2, k2, v2⟩), .string (T.ans ⟨d2, k2, v2⟩), .slice a12 0 c12] rfl rfl 32 _ HZ12.out rs_info rfl (rs_one _ _ _ _ _) ?_))
      generalize hW12 : ((w12.alloc (.cells #[.int .i64 0, .string ⟨#[]⟩, .slice none 0 0] 32)).setRow w12.heap.size #[.int .i64 (T.code ⟨d2, k2, v2⟩), .string (T.ans ⟨d2, k2, v2⟩), .slice a12 0 c12]) = w13 at *
      clear hW12 HZ12
      generalize w12.heap.size = p12 at *
      obtain ⟨q0, q1, q2⟩ := RC2.out _ HB13.out
      go_wp2_with fail
      refine (DB.out _ _ _ _ _ HC13.out (by omega) (HKD.out.below HB13.out)).mono ?_
      rintro e14 w14 hP
      obtain ⟨a14, c14, L14, he14, hl14, hm14, hs14, hk14, hz14, hf14⟩ := hP.ex
      obtain rfl : L14 = [] := hk14.eq (ks_nil HD2.out)
      simp only [rsC, List.length_nil] at he14
      subst he14
      have HC14 := hide hP.m
      have HM14 := hide (HM13.out.bm hP.b HNE.out.1 HNE.out.2.1)
      have HB14 := hide (hP.b.below HB13.out HSZ.out HB13.out.size)
      have HV14 : Hid (w5.heap.size ≤ w14.heap.size) := Nat.le_trans HV13.out hP.b.size
      have HR10x := hide (hP.b.keep HR10.out (by have := HLT.out; have := HP10.out; omega))
      clear HR10
      have HR10 := HR10x
      clear HR10x
      have HR12x := hide (hP.b.keep HR12.out (by have := HLT.out; have := HP12.out; omega))
      clear HR12
      have HR12 := HR12x
      clear HR12x
      clear hP hl14 hm14 hs14 hk14 hz14 hf14
      obtain ⟨hz14, hr14, hs14⟩ := rs_laid w14 (T.code ⟨d2, k2, v2⟩) (T.ans ⟨d2, k2, v2⟩) a14 0 c14
      have HZ14 := hide hz14
      have HR14 := hide hr14
      have HP14 : Hid (w5.heap.size ≤ w14.heap.size) := HV14.out
      have HM15 := hide (HM14.out.below hs14)
      have HC15 := hide (HC14.out.below hs14)
      have HB15 := hide (HB14.out.trans (hs14.mono HB14.out.size))
      have HV15 := hide (Nat.le_trans HV14.out hs14.size)
      have HR10x := hide ((hs14.block _ (lt_of_block HR10.out)).trans HR10.out)
      clear HR10
      have HR10 := HR10x
      clear HR10x
      have HR12x := hide ((hs14.block _ (lt_of_block HR12.out)).trans HR12.out)
      clear HR12
      have HR12 := HR12x
      clear HR12x
      clear hz14 hr14 hs14 q0 q1 q2 HM14 HC14 HB14 HV14
      go_upto_region 16 with (first | (refine wpList_store_row rfl 32 (.tmp 12) (.tmp 77) rfl w14.heap.size #[.int .i64 (T.code ⟨d2, k2, v2⟩), .string (T.ans ⟨d2, k2, v2⟩), .slice a14 0 c14] rfl rfl 32 _ HZ14.out rs_info rfl (rs_one _ _ _ _ _) ?_))
      generalize hW14 : ((w14.alloc (.cells #[.int .i64 0, .string ⟨#[]⟩, .slice none 0 0] 32)).setRow w14.heap.size #[.int .i64 (T.code ⟨d2, k2, v2⟩), .string (T.ans ⟨d2, k2, v2⟩), .slice a14 0 c14]) = w15 at *
      clear hW14 HZ14
      generalize w14.heap.size = p14 at *
      obtain ⟨q0, q1, q2⟩ := RC1.out _ HB15.out
      go_wp2_with fail
      refine (DA.out _ _ _ _ _ HC15.out (by omega) (HKD.out.below HB15.out)).mono ?_
      rintro e16 w16 hP
      obtain ⟨a16, c16, L16, he16, hl16, hm16, hs16, hk16, hz16, hf16⟩ := hP.ex
      obtain rfl : L16 = [] := hk16.eq (ks_nil HD1.out)
      simp only [rsC, List.length_nil] at he16
      rw [HCA.out.1, HCA.out.2] at he16
      subst he16
      have HC16 := hide hP.m
      have HM16 := hide (HM15.out.bm hP.b HNE.out.1 HNE.out.2.1)
      have HB16 := hide (hP.b.below HB15.out HSZ.out HB15.out.size)
      have HV16 : Hid (w5.heap.size ≤ w16.heap.size) := Nat.le_trans HV15.out hP.b.size
      have HR10x := hide (hP.b.keep HR10.out (by have := HLT.out; have := HP10.out; omega))
      clear HR10
      have HR10 := HR10x
      clear HR10x
      have HR12x := hide (hP.b.keep HR12.out (by have := HLT.out; have := HP12.out; omega))
      clear HR12
      have HR12 := HR12x
      clear HR12x
      have HR14x := hide (hP.b.keep HR14.out (by have := HLT.out; have := HP14.out; omega))
      clear HR14
      have HR14 := HR14x
      clear HR14x
      clear hP hl16 hm16 hs16 hk16 hz16 hf16
      obtain ⟨hz16, hr16, hs16⟩ := rs_laid w16 (T.code ⟨d1, k1, v1⟩) (T.ans ⟨d1, k1, v1⟩) a16 0 c16
      have HZ16 := hide hz16
      have HR16 := hide hr16
      have HP16 : Hid (w5.heap.size ≤ w16.heap.size) := HV16.out
      have HM17 := hide (HM16.out.below hs16)
      have HC17 := hide (HC16.out.below hs16)
      have HB17 := hide (HB16.out.trans (hs16.mono HB16.out.size))
      have HV17 := hide (Nat.le_trans HV16.out hs16.size)
      have HR10x := hide ((hs16.block _ (lt_of_block HR10.out)).trans HR10.out)
      clear HR10
      have HR10 := HR10x
      clear HR10x
      have HR12x := hide ((hs16.block _ (lt_of_block HR12.out)).trans HR12.out)
      clear HR12
      have HR12 := HR12x
      clear HR12x
      have HR14x := hide ((hs16.block _ (lt_of_block HR14.out)).trans HR14.out)
      clear HR14
      have HR14 := HR14x
      clear HR14x
      clear hz16 hr16 hs16 q0 q1 q2 HM16 HC16 HB16 HV16
      go_upto_region 17 with (first | (refine wpList_store_row rfl 32 (.tmp 13) (.tmp 80) rfl w16.heap.size #[.int .i64 (T.code ⟨d1, k1, v1⟩), .string (T.ans ⟨d1, k1, v1⟩), .slice a16 0 c16] rfl rfl 32 _ HZ16.out rs_info rfl (rs_one _ _ _ _ _) ?_))
      generalize hW16 : ((w16.alloc (.cells #[.int .i64 0, .string ⟨#[]⟩, .slice none 0 0] 32)).setRow w16.heap.size #[.int .i64 (T.code ⟨d1, k1, v1⟩), .string (T.ans ⟨d1, k1, v1⟩), .slice a16 0 c16]) = w17 at *
      clear hW16 HZ16
      generalize w16.heap.size = p16 at *
      have t100 : w17.cell? ⟨p10, 0, none⟩ = some (.int .i64 (T.code ⟨d1, k1, v1⟩)) := cell_of_block HR10.out
      have t101 : w17.cell? ⟨p10, 1, none⟩ = some (.string (T.ans ⟨d1, k1, v1⟩)) := cell_of_block HR10.out
      have t102 : w17.cell? ⟨p10, 2, none⟩ = some (.slice a10 0 c10) := cell_of_block HR10.out
      have t160 : w17.cell? ⟨p16, 0, none⟩ = some (.int .i64 (T.code ⟨d1, k1, v1⟩)) := cell_of_block HR16.out
      have t161 : w17.cell? ⟨p16, 1, none⟩ = some (.string (T.ans ⟨d1, k1, v1⟩)) := cell_of_block HR16.out
      have t162 : w17.cell? ⟨p16, 2, none⟩ = some (.slice a16 0 c16) := cell_of_block HR16.out
      have HS1 := hide (fun W => rs_same (T.code ⟨d1, k1, v1⟩) (T.ans ⟨d1, k1, v1⟩) a10 a16 c10 c16 0 [] W rfl (by omega) (.inl rfl) (.inl rfl))
      have HS2 := hide (fun W => rs_same (T.code ⟨d2, k2, v2⟩) (T.ans ⟨d2, k2, v2⟩) a12 a14 c12 c14 0 [] W rfl (by omega) (.inl rfl) (.inl rfl))
      simp only [rsC] at HS1 HS2
      go_wp2_with fail
      refine (HS1.out _).mono ?_
      rintro e20 w20 ⟨rfl, hb20⟩
      have HM20 := hide (HM17.out.below hb20)
      have HC20 := hide (HC17.out.below hb20)
      have HB20 := hide (HB17.out.trans (hb20.mono HB17.out.size))
      have HR12b := hide ((hb20.block _ (lt_of_block HR12.out)).trans HR12.out)
      have HR14b := hide ((hb20.block _ (lt_of_block HR14.out)).trans HR14.out)
      clear hb20
      have t12b0 : w20.cell? ⟨p12, 0, none⟩ = some (.int .i64 (T.code ⟨d2, k2, v2⟩)) := cell_of_block HR12b.out
      have t12b1 : w20.cell? ⟨p12, 1, none⟩ = some (.string (T.ans ⟨d2, k2, v2⟩)) := cell_of_block HR12b.out
      have t12b2 : w20.cell? ⟨p12, 2, none⟩ = some (.slice a12 0 c12) := cell_of_block HR12b.out
      have t14b0 : w20.cell? ⟨p14, 0, none⟩ = some (.int .i64 (T.code ⟨d2, k2, v2⟩)) := cell_of_block HR14b.out
      have t14b1 : w20.cell? ⟨p14, 1, none⟩ = some (.string (T.ans ⟨d2, k2, v2⟩)) := cell_of_block HR14b.out
      have t14b2 : w20.cell? ⟨p14, 2, none⟩ = some (.slice a14 0 c14) := cell_of_block HR14b.out
      go_wp2_with fail
      refine (HS2.out _).mono ?_
      rintro e21 w21 ⟨rfl, hb21⟩
      have HM21 := hide (HM20.out.below hb21)
      have HC21 := hide (HC20.out.below hb21)
      have HB21 := hide (HB20.out.trans (hb21.mono HB20.out.size))
      clear hb21
      go_wp2_with fail
      refine (md_state HM21.out (by omega)).mono ?_
      rintro e22 w22 ⟨s1, rfl, hs22, hb22⟩
      have HST := hide hs22
      have HC22 := hide (HC21.out.below hb22)
      have HB22 := hide (HB21.out.trans (hb22.mono HB21.out.size))
      clear hs22 hb22
      go_wp2_with fail
      refine (md_state HC22.out (by omega)).mono ?_
      rintro e23 w23 ⟨s2, rfl, hs23, hb23⟩
      have hst := HST.out
      rw [HCM.out] at hst
      obtain rfl := hs23.eq hst
      have HB23 := hide (HB22.out.trans (hb23.mono HB22.out.size))
      clear hs23 hb23 hst HST
      go_wp2_with fail
      refine (live_any _ (HKD.out.below HB23.out)).mono ?_
      rintro e9 W9 ⟨rfl, hb9⟩
      have HL9 := hide (HW.out.trans ((HB23.out.trans (hb9.mono HB23.out.size)).mono HW.out.size))
      clear hb9
      go_wp2_with fail
      first | go_ret | go_returns
      exact ⟨rfl, HL9.out⟩
end Go.Proofs.YtlpibpkbgmcclaaDoor
