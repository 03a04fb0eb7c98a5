/- ModelDoes: whatever is asked is answered, and known then, as the document says. (Written by genyw.py.) -/
import Derived.Test.YtlpibpkbgmcclaaGreatDoorMdLive
import Derived.Test.YtlpibpkbgmcclaaGreatDoorMdSmallX
import Derived.Test.YtlpibpkbgmcclaaGreatDoorMdLaw
import Derived.Test.YtlpibpkbgmcclaaGreatDoorCameX
import Derived.Test.YtlpibpkbgmcclaaGreatDoorYdAll
namespace Go.Proofs.YtlpibpkbgmcclaaGreatDoor
open Go.RowKit
set_option linter.unusedVariables false
set_option maxRecDepth 100000 in
set_option maxHeartbeats 32000000 in
theorem walkModelDoes (a : Option Addr) (n c : Nat) (w : World) (hK : KM w) (h0 : Came 22 w a n c) : Calls Tryz.prog 3 #[.slice a n c] w fun e w' => e = .returned (.bool true) ∧ Below w.heap.size w w' := by
  obtain ⟨L, hl, hlc, h63, hA⟩ := came_rqs h0
  have HKD := hide hK
  have HB0 : Hid (Below w.heap.size w w) := Below.refl _ _
  have HL := hide hl
  have HA := hide hA
  clear hK h0 hl hA
  by_cases hbig : 30 < n
  · have g0 : decide ((30 : Int) < (n : Int)) = true := by simp; omega
    go_enter Tryz.func3, Tryz.ntmps3
    go_wp2_with fail
    refine (live_any _ (HKD.out.below HB0.out)).mono ?_
    rintro e9 W9 ⟨rfl, hb9⟩
    have HL9 := hide (HB0.out.trans (hb9.mono HB0.out.size))
    clear hb9
    go_wp2_with fail
    first | go_ret | go_returns
    exact ⟨rfl, HL9.out⟩
  have hn : n ≤ 30 := by omega
  have g0 : decide ((30 : Int) < (n : Int)) = false := by simp; omega
  clear hbig
  go_enter Tryz.func3, Tryz.ntmps3
  go_wp2_with fail
  refine (md_new _).mono ?_
  rintro e1 w1 ⟨rfl, hm, hb⟩
  have hb2 : Below w1.heap.size w1 (w1.alloc (.cells #[.slice none 0 0] 29)) := (Below.refl _ _).alloc (Nat.le_refl _) _
  have HM2 := hide (hm.below hb2)
  have HB2 := hide (hb.trans (hb2.mono hb.size))
  have HY2 : Hid (KyAt (w1.alloc (.cells #[.slice none 0 0] 29)) w1.heap.size []) := ⟨_, heap_alloc_new _ _, World.ownsRow_nil _ _ _ _⟩
  have HQB : Hid (w.heap.size ≤ w1.heap.size) := hb.size
  have HMB : Hid (w.heap.size ≤ w.heap.size) := Nat.le_refl _
  clear hm hb hb2
  have YD := hide (fun (W : World) (y : Nat) (R : List KyE) (TT : MT) (h : KyAt W y R) (hr : Rl R TT) (hT : TT.Ok) (hn : R.length ≤ 1000) (r : Rq) (h1 : r.k.size ≤ 100000) (h2 : r.v.size ≤ 100000) => yd_do h hr hT hn r h1 h2)
  go_wp2_with fail
  generalize hw2 : w1.alloc (.cells #[.slice none 0 0] 29) = w2 at *
  clear hw2
  generalize w1.heap.size = q at *
  go_loopw [5] (fun y wr => ∃ k : Nat, ∃ R : List KyE, k ≤ n ∧ y = .int .i64 k ∧ MdAt wr (w.heap.size + 1) w.heap.size k (runM T0 (L.take k)) ∧ KyAt wr q R ∧ Rl R (runM T0 (L.take k)) ∧ R.length ≤ k ∧ Below w.heap.size w wr) (fun y _ => n - (intOf y).toNat)
  case atStart => exact ⟨0, [], by omega, rfl, by simpa [runM] using HM2.out, HY2.out, by simpa [runM] using Rl.nil, by simp, HB2.out⟩
  case round =>
    obtain ⟨k, R, hk, rfl, hmr, hyr, hrl, hRn, hbr⟩ := hrel
    have HMR := hide hmr
    have HYR := hide hyr
    have HRL := hide hrl
    have HRN := hide hRn
    have HBR := hide hbr
    clear hmr hyr hrl hRn hbr
    by_cases hlt : k < n
    · have hd : decide ((k : Int) < (n : Int)) = true := by simp; omega
      have hdi : (k : Int) < (n : Int) := by omega
      have hd0 : (0 : Int) ≤ (k : Int) := by omega
      obtain ⟨⟨rd, rk, rv⟩, hx⟩ : ∃ r, L[k]? = some r := ⟨_, List.getElem?_eq_getElem (by have := HL.out; omega)⟩
      obtain ⟨b1, o1, rfl, hc⟩ := HA.out.nth hx
      simp only at hc
      have HC := hide hc
      have HX := hide hx
      clear hc hx
      obtain ⟨f0, f1, f2⟩ := HC.out _ HBR.out
      have SM := hide (fun W => rf_small ⟨rd, rk, rv⟩ W)
      simp only [rqs] at SM
      cases hsm : smB ⟨rd, rk, rv⟩ with
      | false =>
        rw [hsm] at SM
        clear hsm
        go_wp2_with fail
        refine (SM.out _).mono ?_
        rintro e3 w3 ⟨rfl, hb3⟩
        have HB3 := hide (HBR.out.trans (hb3.mono HBR.out.size))
        clear hb3
        go_wp2_with fail
        refine (live_any _ (HKD.out.below HB3.out)).mono ?_
        rintro e9 W9 ⟨rfl, hb9⟩
        have HL9 := hide (HB3.out.trans (hb9.mono HB3.out.size))
        clear hb9
        go_wp2_with fail
        first | go_ret | go_returns
        exact ⟨rfl, HL9.out⟩
      | true =>
        rw [hsm] at SM
        obtain ⟨sz1, sz2⟩ := sm_size hsm
        have HNX := hide (runM_take T0 L HX.out)
        obtain ⟨TT, hTT⟩ : ∃ TT, runM T0 (L.take k) = TT := ⟨_, rfl⟩
        rw [hTT] at HMR HRL HNX
        have DO := hide (fun (W : World) (nn : Nat) (hM : MdAt W (w.heap.size + 1) w.heap.size nn TT) (hn : nn ≤ 1000000) (hK : KM W) => md_do hM hn hK ⟨rd, rk, rv⟩ sz1 sz2)
        have YO := hide (fun (W : World) (h : KyAt W q R) => YD.out W q R TT h HRL.out HMR.out.ok (by have := HRN.out; omega) ⟨rd, rk, rv⟩ sz1 sz2)
        simp only [rqs] at DO YO
        clear hsm sz1 sz2 hTT
        go_wp2_with fail
        refine (SM.out _).mono ?_
        rintro e3 w3 ⟨rfl, hb3⟩
        have HM3 := hide (HMR.out.below (hb3.mono (Nat.le_refl _)))
        have HY3 := hide (HYR.out.below (hb3.mono (Nat.le_refl _)))
        have HB3 := hide (HBR.out.trans (hb3.mono HBR.out.size))
        clear hb3
        clear f0 f1 f2
        obtain ⟨f0, f1, f2⟩ := HC.out _ HB3.out
        go_wp2_with fail
        have HD0 := hide (drew_below w3)
        have HMD := hide (HM3.out.below HD0.out)
        have HYD := hide (HY3.out.below HD0.out)
        have HBD := hide (HB3.out.trans (HD0.out.mono HB3.out.size))
        have HQL : Hid (q < w3.drew.heap.size) := HYD.out.lt
        clear f0 f1 f2
        refine wp_region_noPanic ?_
        refine wp_region_held_drew (S := fun w' => w'.cell? ⟨b1, o1 + k * 3, none⟩ = some (.int .i64 rd) ∧ w'.cell? ⟨b1, o1 + k * 3 + 1, none⟩ = some (.string rk) ∧ w'.cell? ⟨b1, o1 + k * 3 + 2, none⟩ = some (.string rv)) (by kernel_rfl) (HC.out _ HBD.out) (fun hHeld => ?_)
        refine wpAnyH_take (i := 0) (v := ?v1) rfl (by kernel_rfl) (by kernel_rfl) (by kernel_rfl) (fun _ _ _ h => h) (Or.inl ⟨by rfl, ?hy1⟩) hHeld ?rest1
        case hy1 => (intro w' hSw; obtain ⟨s0, s1, s2⟩ := hSw; go_simp; try with_reducible rfl)
        try simp [Act.put]
        refine wpAnyH_take (i := 1) (v := ?v2) rfl (by kernel_rfl) (by kernel_rfl) (by kernel_rfl) (fun _ _ _ h => h) (Or.inl ⟨by rfl, ?hy2⟩) hHeld ?rest2
        case hy2 => (intro w' hSw; obtain ⟨s0, s1, s2⟩ := hSw; go_simp; try with_reducible rfl)
        try simp [Act.put]
        refine wpAnyH_take (i := 2) (v := ?v3) rfl (by kernel_rfl) (by kernel_rfl) (by kernel_rfl) (fun _ _ _ h => h) (Or.inl ⟨by rfl, ?hy3⟩) hHeld ?rest3
        case hy3 => (intro w' hSw; obtain ⟨s0, s1, s2⟩ := hSw; go_simp; try with_reducible rfl)
        try simp [Act.put]
        refine wpAnyH_take (i := 3) (v := ?v4) rfl (by kernel_rfl) (by kernel_rfl) (by kernel_rfl) (fun _ _ _ h => h) (Or.inl ⟨by rfl, ?hy4⟩) hHeld ?rest4
        case hy4 => (intro w' hSw; obtain ⟨s0, s1, s2⟩ := hSw; go_simp; try with_reducible rfl)
        try simp [Act.put]
        refine wpAnyH_take (i := 4) (v := ?v5) rfl (by kernel_rfl) (by kernel_rfl) (by kernel_rfl) (fun _ _ _ h => h) (Or.inl ⟨by rfl, ?hy5⟩) hHeld ?rest5
        case hy5 => (intro w' hSw; obtain ⟨s0, s1, s2⟩ := hSw; go_simp; try with_reducible rfl)
        try simp [Act.put]
        refine wpAnyH_take (i := 6) (v := ?v6) rfl (by kernel_rfl) (by kernel_rfl) (by kernel_rfl) (fun _ _ _ h => h) (Or.inl ⟨by rfl, ?hy6⟩) hHeld ?rest6
        case hy6 => (intro w' hSw; obtain ⟨s0, s1, s2⟩ := hSw; go_simp; try with_reducible rfl)
        try simp [Act.put]
        refine wpAnyH_take (i := 7) (v := ?v7) rfl (by kernel_rfl) (by kernel_rfl) (by kernel_rfl) (fun _ _ _ h => h) (Or.inl ⟨by rfl, ?hy7⟩) hHeld ?rest7
        case hy7 => (intro w' hSw; obtain ⟨s0, s1, s2⟩ := hSw; go_simp; try with_reducible rfl)
        try simp [Act.put]
        refine wpAnyH_take (i := 8) (v := ?v8) rfl (by kernel_rfl) (by kernel_rfl) (by kernel_rfl) (fun _ _ _ h => h) (Or.inl ⟨by rfl, ?hy8⟩) hHeld ?rest8
        case hy8 => (intro w' hSw; obtain ⟨s0, s1, s2⟩ := hSw; go_simp; try with_reducible rfl)
        try simp [Act.put]
        refine wpAnyH_take (i := 9) (v := ?v9) rfl (by kernel_rfl) (by kernel_rfl) (by kernel_rfl) (fun _ _ _ h => h) (Or.inl ⟨by rfl, ?hy9⟩) hHeld ?rest9
        case hy9 => (intro w' hSw; obtain ⟨s0, s1, s2⟩ := hSw; go_simp; try with_reducible rfl)
        try simp [Act.put]
        refine wpAnyH_take (i := 10) (v := ?v10) rfl (by kernel_rfl) (by kernel_rfl) (by kernel_rfl) (fun _ _ _ h => h) (Or.inl ⟨by rfl, ?hy10⟩) hHeld ?rest10
        case hy10 => (intro w' hSw; obtain ⟨s0, s1, s2⟩ := hSw; go_simp; try with_reducible rfl)
        try simp [Act.put]
        refine wpAnyH_ready (rs := [5]) (by kernel_rfl) (by simp) ?_
        refine AllReadyH.cons rfl (fun KN hK => ?_) AllReadyH.nil
        go_simp
        refine (DO.out _ _ HMD.out (by omega) (HKD.out.below HBD.out)).mono ?_
        rintro e4 w4 hP
        obtain ⟨a4, c4, L4, he4, hl4, hm4, hs4, hk4, hz4, hf4⟩ := hP.ex
        simp only [rsC] at he4
        subst he4
        have HM4 := hide hP.m
        have HY4 := hide (HYD.out.bm hP.b (mat_blk HMD.out.m))
        have HB4 := hide (hP.b.below HBD.out HMB.out HBD.out.size)
        have HS4 := hide hs4
        have HK4 := hide hk4
        have HF4 := hide hf4
        have HN4 := hide hm4
        clear hP hl4 hm4 hs4 hk4 hz4 hf4
        refine hK.out _ _ (HC.out _ HB4.out) (fun hHeld => ?_)
        clear hK KN
        try simp [Act.put]
        refine wpAnyH_ready (rs := [11]) (by kernel_rfl) (by simp) ?_
        refine AllReadyH.cons rfl (fun KN hK => ?_) AllReadyH.nil
        go_simp
        refine (YO.out _ HY4.out).mono ?_
        rintro e5 w5 hP
        obtain ⟨a5, c5, L5, he5, hl5, hm5, hs5, hk5, hz5, hf5⟩ := hP.ex
        obtain rfl := hk5.eq HK4.out
        simp only [rsC] at he5
        subst he5
        obtain ⟨R5, hy5, hr5, hn5⟩ := hP.m
        have HM5 := hide (HM4.out.ky HY4.out hP.b)
        have HY5 := hide hy5
        have HR5 := hide hr5
        have HN5 : Hid (R5.length ≤ k + 1) := by show _ ≤ _; have := HRN.out; omega
        have HB5 := hide (hP.b.below HB4.out HQB.out HB4.out.size)
        have HS5 := hide hs5
        have HS4b := hide (strs_bm HS4.out hP.b (fun p hp => by have := HF4.out p hp; have := HQL.out; omega))
        have HSM := hide (rs_same (TT.code ⟨rd, rk, rv⟩) (TT.ans ⟨rd, rk, rv⟩) a4 a5 c4 c5 L5.length L5 w5 rfl (by have := HN4.out; omega) HS4b.out HS5.out)
        simp only [rsC] at HSM
        clear hP hl5 hm5 hs5 hk5 hz5 hf5 hy5 hr5 hn5
        refine hK.out _ _ (HC.out _ HB5.out) (fun hHeld => ?_)
        clear hK KN
        try simp [Act.put]
        refine wpAnyH_ready (rs := [12]) (by kernel_rfl) (by simp) ?_
        refine AllReadyH.cons rfl (fun KN hK => ?_) AllReadyH.nil
        go_simp
        refine (HSM.out).mono ?_
        rintro e6 w6 ⟨rfl, hb6⟩
        have HM6 := hide (HM5.out.below hb6)
        have HY6 := hide (HY5.out.below hb6)
        have HB6 := hide (HB5.out.trans (hb6.mono HB5.out.size))
        clear hb6
        refine hK.out _ _ (HC.out _ HB6.out) (fun hHeld => ?_)
        clear hK KN
        try simp [Act.put]
        refine wpAnyH_take (i := 13) (v := ?v21) rfl (by kernel_rfl) (by kernel_rfl) (by kernel_rfl) (fun _ _ _ h => h) (Or.inl ⟨by rfl, ?hy21⟩) hHeld ?rest21
        case hy21 => (intro w' hSw; obtain ⟨s0, s1, s2⟩ := hSw; go_simp; try with_reducible rfl)
        try simp [Act.put]
        refine wpAnyH_take (i := 14) (v := ?v22) rfl (by kernel_rfl) (by kernel_rfl) (by kernel_rfl) (fun _ _ _ h => h) (Or.inl ⟨by rfl, ?hy22⟩) hHeld ?rest22
        case hy22 => (intro w' hSw; obtain ⟨s0, s1, s2⟩ := hSw; go_simp; try with_reducible rfl)
        try simp [Act.put]
        refine wpAnyH_take (i := 15) (v := ?v23) rfl (by kernel_rfl) (by kernel_rfl) (by kernel_rfl) (fun _ _ _ h => h) (Or.inl ⟨by rfl, ?hy23⟩) hHeld ?rest23
        case hy23 => (intro w' hSw; obtain ⟨s0, s1, s2⟩ := hSw; go_simp; try with_reducible rfl)
        try simp [Act.put]
        refine wpAnyH_take (i := 17) (v := ?v24) rfl (by kernel_rfl) (by kernel_rfl) (by kernel_rfl) (fun _ _ _ h => h) (Or.inl ⟨by rfl, ?hy24⟩) hHeld ?rest24
        case hy24 => (intro w' hSw; obtain ⟨s0, s1, s2⟩ := hSw; go_simp; try with_reducible rfl)
        try simp [Act.put]
        refine wpAnyH_ready (rs := [16]) (by kernel_rfl) (by simp) ?_
        refine AllReadyH.cons rfl (fun KN hK => ?_) AllReadyH.nil
        go_simp
        refine (md_state HM6.out (by omega)).mono ?_
        rintro e7 w7 ⟨s7, rfl, hs7, hb7⟩
        have HST := hide hs7
        have HM7 := hide (HM6.out.below hb7)
        have HY7 := hide (HY6.out.below hb7)
        have HB7 := hide (HB6.out.trans (hb7.mono HB6.out.size))
        clear hs7 hb7
        refine hK.out _ _ (HC.out _ HB7.out) (fun hHeld => ?_)
        clear hK KN
        try simp [Act.put]
        refine wpAnyH_ready (rs := [18]) (by kernel_rfl) (by simp) ?_
        refine AllReadyH.cons rfl (fun KN hK => ?_) AllReadyH.nil
        go_simp
        refine (yd_state HY7.out HR5.out HM7.out.ok (by have := HN5.out; omega)).mono ?_
        rintro e8 w8 ⟨s8, rfl, hs8, hb8⟩
        obtain rfl := hs8.eq HST.out
        have HM8 := hide (HM7.out.below hb8)
        have HY8 := hide (HY7.out.below hb8)
        have HB8 := hide (HB7.out.trans (hb8.mono HB7.out.size))
        clear hs8 hb8
        refine hK.out _ _ (HC.out _ HB8.out) (fun hHeld => ?_)
        clear hK KN
        try simp [Act.put]
        refine wpAnyH_take (i := 19) (v := ?v41) rfl (by kernel_rfl) (by kernel_rfl) (by kernel_rfl) (fun _ _ _ h => h) (Or.inl ⟨by rfl, ?hy41⟩) hHeld ?rest41
        case hy41 => (intro w' hSw; obtain ⟨s0, s1, s2⟩ := hSw; go_simp; try with_reducible rfl)
        try simp [Act.put]
        refine wpAnyH_take (i := 20) (v := ?v42) rfl (by kernel_rfl) (by kernel_rfl) (by kernel_rfl) (fun _ _ _ h => h) (Or.inl ⟨by rfl, ?hy42⟩) hHeld ?rest42
        case hy42 => (intro w' hSw; obtain ⟨s0, s1, s2⟩ := hSw; go_simp; try with_reducible rfl)
        try simp [Act.put]
        refine wpAnyH_done (by kernel_rfl) (NoPanic.normal ?_) _
        go_wp2_with fail
        go_roundw
        case rel => exact ⟨k + 1, R5, by omega, by go_num, by rw [HNX.out]; exact HM8.out, HY8.out, by rw [HNX.out]; exact HR5.out, HN5.out, HB8.out⟩
        case measure => simp [intOf]; omega
    · have hd : decide ((k : Int) < (n : Int)) = false := by simp; omega
      go_wp2_with fail
      refine (live_any _ (HKD.out.below HBR.out)).mono ?_
      rintro e9 W9 ⟨rfl, hb9⟩
      have HL9 := hide (HBR.out.trans (hb9.mono HBR.out.size))
      clear hb9
      go_wp2_with fail
      first | go_ret | go_returns
      exact ⟨rfl, HL9.out⟩
end Go.Proofs.YtlpibpkbgmcclaaGreatDoor
