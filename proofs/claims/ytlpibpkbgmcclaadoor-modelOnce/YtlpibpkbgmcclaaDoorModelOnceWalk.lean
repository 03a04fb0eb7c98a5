/- ModelOnce: of one key a script puts at most once and dels no more than it put; a get in between tells what was put. (Written by gen16.py.) -/
import Derived.Test.YtlpibpkbgmcclaaDoorMdLive
import Derived.Test.YtlpibpkbgmcclaaDoorMdLawX
import Derived.Test.YtlpibpkbgmcclaaDoorCameX
namespace Go.Proofs.YtlpibpkbgmcclaaDoor
open Go.RowKit
set_option linter.unusedVariables false
set_option maxRecDepth 100000 in
set_option maxHeartbeats 32000000 in
theorem walkModelOnce (a : Option Addr) (n c : Nat) (s : ByteArray) (w : World) (hK : KM w) (h0 : Came 22 w a n c) (hsz : s.data.toList.length ≤ reachBytes) : Calls Tryd.prog 4 #[.slice a n c, .string s] w fun e w' => e = .returned (.bool true) ∧ Below w.heap.size w w' := by
  obtain ⟨L, hl, hlc, h63, hA⟩ := came_rqs h0
  have HKD := hide hK
  have HB0 : Hid (Below w.heap.size w w) := Below.refl _ _
  have HL := hide hl
  have HA := hide hA
  clear hK h0 hl hA hsz
  by_cases hbig : 30 < n
  · have g0 : decide ((30 : Int) < (n : Int)) = true := by simp; omega
    go_enter Tryd.func4, Tryd.ntmps4
    go_wp2_with fail
    refine (live_any _ (HKD.out.below HB0.out)).mono ?_
    rintro e9 W9 ⟨rfl, hb9⟩
    have HL9 := hide (HB0.out.trans (hb9.mono HB0.out.size))
    clear hb9
    go_wp2_with fail
    first | go_ret | go_returns
    exact ⟨rfl, HL9.out⟩
  have hn : n ≤ 30 := by omega
  have g0 : decide ((30 : Int) < (n : Int)) = false := by simp; omega
  clear hbig
  go_enter Tryd.func4, Tryd.ntmps4
  go_wp2_with fail
  refine (md_new _).mono ?_
  rintro e1 w1 ⟨rfl, hm, hb⟩
  have HM1 := hide hm
  have HB1 := hide hb
  have HMB : Hid (w.heap.size ≤ w.heap.size) := Nat.le_refl _
  clear hm hb
  go_wp2_with fail
  go_loopw [6, 7, 8, 9] (fun y6 y7 y8 y9 wr => ∃ k p q : Nat, ∃ v : ByteArray, k ≤ n ∧ y6 = .int .i64 p ∧ y7 = .int .i64 q ∧ y8 = .string v ∧ y9 = .int .i64 k ∧ Once (runM T0 (L.take k)) s p q v ∧ MdAt wr (w.heap.size + 1) w.heap.size k (runM T0 (L.take k)) ∧ Below w.heap.size w wr) (fun _ _ _ y9 _ => n - (intOf y9).toNat)
  case atStart => exact ⟨0, 0, 0, ⟨#[]⟩, by omega, rfl, rfl, rfl, rfl, .inl ⟨rfl, rfl, rfl⟩, by simpa [runM] using HM1.out, HB1.out⟩
  case round =>
    obtain ⟨k, p, q, v, hk, rfl, rfl, rfl, rfl, hon, hmr, hbr⟩ := hrel
    have HON := hide hon
    clear hon
    have HMR := hide hmr
    have HBR := hide hbr
    clear hmr hbr
    by_cases hlt : k < n
    · have hd : decide ((k : Int) < (n : Int)) = true := by simp; omega
      have hdi : (k : Int) < (n : Int) := by omega
      have hd0 : (0 : Int) ≤ (k : Int) := by omega
      obtain ⟨⟨rd, rk, rv⟩, hx⟩ : ∃ r, L[k]? = some r := ⟨_, List.getElem?_eq_getElem (by have := HL.out; omega)⟩
      obtain ⟨b1, o1, rfl, hc⟩ := HA.out.nth hx
      simp only at hc
      have HC := hide hc
      have HX := hide hx
      clear hc hx
      obtain ⟨f0, f1, f2⟩ := HC.out _ HBR.out
      have SM := hide (fun W => rf_small ⟨rd, rk, rv⟩ W)
      simp only [rqs] at SM
      cases hsm : smB ⟨rd, rk, rv⟩ with
      | false =>
        rw [hsm] at SM
        clear hsm
        go_wp2_with fail
        refine (SM.out _).mono ?_
        rintro e3 w3 ⟨rfl, hb3⟩
        have HB3 := hide (HBR.out.trans (hb3.mono HBR.out.size))
        clear hb3
        go_wp2_with fail
        refine (live_any _ (HKD.out.below HB3.out)).mono ?_
        rintro e9 W9 ⟨rfl, hb9⟩
        have HL9 := hide (HB3.out.trans (hb9.mono HB3.out.size))
        clear hb9
        go_wp2_with fail
        first | go_ret | go_returns
        exact ⟨rfl, HL9.out⟩
      | true =>
        rw [hsm] at SM
        obtain ⟨sz1, sz2⟩ := sm_size hsm
        have DO := hide (fun (W : World) (nn : Nat) (TT : MT) (hM : MdAt W (w.heap.size + 1) w.heap.size nn TT) (hn : nn ≤ 1000000) (hK : KM W) => md_do hM hn hK ⟨rd, rk, rv⟩ sz1 sz2)
        simp only [rqs] at DO
        clear hsm sz1 sz2
        go_wp2_with fail
        refine (SM.out _).mono ?_
        rintro e3 w3 ⟨rfl, hb3⟩
        have HM3 := hide (HMR.out.below (hb3.mono (Nat.le_refl _)))
        have HB3 := hide (HBR.out.trans (hb3.mono HBR.out.size))
        clear hb3
        clear f0 f1 f2
        obtain ⟨f0, f1, f2⟩ := HC.out _ HB3.out
        go_wp2_with fail
        refine (DO.out _ _ _ HM3.out (by omega) (HKD.out.below HB3.out)).mono ?_
        rintro e4 w4 hP
        obtain ⟨a4, c4, L4, he4, hrest4⟩ := hP.ex
        simp only [rsC] at he4
        have HM4 := hide hP.m
        have HB4 := hide (hP.b.below HB3.out HMB.out HB3.out.size)
        clear hP
        have HNX := hide (runM_take T0 L HX.out)
        clear hrest4
        by_cases hks : rk = s
        · subst hks
          by_cases hc0 : (runM T0 (L.take k)).code ⟨rd, rk, rv⟩ = 0
          · by_cases hd0 : rd = 0
            · obtain ⟨hop, rfl⟩ := once_put HON.out (r := ⟨rd, rk, rv⟩) rfl hc0 hd0
              have HO5 := hide hop
              clear hop
              rw [hc0] at he4
              generalize (runM T0 (L.take k)).ans ⟨rd, rk, rv⟩ = an at he4
              subst hd0
              clear hc0
              subst he4
              obtain ⟨hz5, hr5, hs5⟩ := rs_laid w4 (0) (an) a4 L4.length c4
              have HZ5 := hide hz5
              have HM5 := hide (HM4.out.below hs5)
              have HB5 := hide (HB4.out.trans (hs5.mono HB4.out.size))
              have x0 : ((w4.alloc (.cells #[.int .i64 0, .string ⟨#[]⟩, .slice none 0 0] 32)).setRow w4.heap.size #[.int .i64 (0), .string (an), .slice a4 L4.length c4]).cell? ⟨w4.heap.size, 0, none⟩ = some (.int .i64 (0)) := cell_of_block hr5
              have x1 : ((w4.alloc (.cells #[.int .i64 0, .string ⟨#[]⟩, .slice none 0 0] 32)).setRow w4.heap.size #[.int .i64 (0), .string (an), .slice a4 L4.length c4]).cell? ⟨w4.heap.size, 1, none⟩ = some (.string (an)) := cell_of_block hr5
              clear f0 f1 f2
              obtain ⟨f0, f1, f2⟩ := HC.out _ HB5.out
              obtain ⟨g0', g1', g2'⟩ := HC.out _ HB3.out
              clear hz5 hr5 hs5
              go_wp2_with (first | (refine wpList_store_row rfl 32 (.tmp 10) (.tmp 36) rfl w4.heap.size #[.int .i64 (0), .string (an), .slice a4 L4.length c4] rfl rfl 32 _ HZ5.out rs_info rfl (rs_one _ _ _ _ _) ?_))
              go_roundw
              case rel => exact ⟨k + 1, 0 + 1, q, rv, by omega, by go_num, rfl, rfl, by go_num, by rw [HNX.out]; exact HO5.out, by rw [HNX.out]; exact HM5.out, HB5.out⟩
              case measure => simp [intOf]; omega
            · by_cases hd2 : rd = 2
              · obtain ⟨hop, rfl, rfl⟩ := once_del HON.out (r := ⟨rd, rk, rv⟩) rfl hc0 hd2
                have HO5 := hide hop
                clear hop
                rw [hc0] at he4
                generalize (runM T0 (L.take k)).ans ⟨rd, rk, rv⟩ = an at he4
                subst hd2
                clear hc0 hd0
                subst he4
                obtain ⟨hz5, hr5, hs5⟩ := rs_laid w4 (0) (an) a4 L4.length c4
                have HZ5 := hide hz5
                have HM5 := hide (HM4.out.below hs5)
                have HB5 := hide (HB4.out.trans (hs5.mono HB4.out.size))
                have x0 : ((w4.alloc (.cells #[.int .i64 0, .string ⟨#[]⟩, .slice none 0 0] 32)).setRow w4.heap.size #[.int .i64 (0), .string (an), .slice a4 L4.length c4]).cell? ⟨w4.heap.size, 0, none⟩ = some (.int .i64 (0)) := cell_of_block hr5
                have x1 : ((w4.alloc (.cells #[.int .i64 0, .string ⟨#[]⟩, .slice none 0 0] 32)).setRow w4.heap.size #[.int .i64 (0), .string (an), .slice a4 L4.length c4]).cell? ⟨w4.heap.size, 1, none⟩ = some (.string (an)) := cell_of_block hr5
                clear f0 f1 f2
                obtain ⟨f0, f1, f2⟩ := HC.out _ HB5.out
                obtain ⟨g0', g1', g2'⟩ := HC.out _ HB3.out
                clear hz5 hr5 hs5
                go_wp2_with (first | (refine wpList_store_row rfl 32 (.tmp 10) (.tmp 36) rfl w4.heap.size #[.int .i64 (0), .string (an), .slice a4 L4.length c4] rfl rfl 32 _ HZ5.out rs_info rfl (rs_one _ _ _ _ _) ?_))
                go_roundw
                case rel => exact ⟨k + 1, 1, 0 + 1, v, by omega, rfl, by go_num, rfl, by go_num, by rw [HNX.out]; exact HO5.out, by rw [HNX.out]; exact HM5.out, HB5.out⟩
                case measure => simp [intOf]; omega
              · by_cases hd1 : rd = 1
                · have HO5 := hide (once_skip HON.out (r := ⟨rd, rk, rv⟩) (.inr (.inr ⟨hd0, hd2⟩)))
                  obtain ⟨rfl, rfl, han⟩ := once_get HON.out (r := ⟨rd, rk, rv⟩) rfl hc0 hd1
                  rw [hc0, han] at he4
                  subst hd1
                  clear hc0 han hd0 hd2
                  subst he4
                  obtain ⟨hz5, hr5, hs5⟩ := rs_laid w4 (0) (v) a4 L4.length c4
                  have HZ5 := hide hz5
                  have HM5 := hide (HM4.out.below hs5)
                  have HB5 := hide (HB4.out.trans (hs5.mono HB4.out.size))
                  have x0 : ((w4.alloc (.cells #[.int .i64 0, .string ⟨#[]⟩, .slice none 0 0] 32)).setRow w4.heap.size #[.int .i64 (0), .string (v), .slice a4 L4.length c4]).cell? ⟨w4.heap.size, 0, none⟩ = some (.int .i64 (0)) := cell_of_block hr5
                  have x1 : ((w4.alloc (.cells #[.int .i64 0, .string ⟨#[]⟩, .slice none 0 0] 32)).setRow w4.heap.size #[.int .i64 (0), .string (v), .slice a4 L4.length c4]).cell? ⟨w4.heap.size, 1, none⟩ = some (.string (v)) := cell_of_block hr5
                  clear f0 f1 f2
                  obtain ⟨f0, f1, f2⟩ := HC.out _ HB5.out
                  obtain ⟨g0', g1', g2'⟩ := HC.out _ HB3.out
                  clear hz5 hr5 hs5
                  go_wp2_with (first | (refine wpList_store_row rfl 32 (.tmp 10) (.tmp 36) rfl w4.heap.size #[.int .i64 (0), .string (v), .slice a4 L4.length c4] rfl rfl 32 _ HZ5.out rs_info rfl (rs_one _ _ _ _ _) ?_))
                  go_roundw
                  case rel => exact ⟨k + 1, 1, 0, v, by omega, rfl, rfl, rfl, by go_num, by rw [HNX.out]; exact HO5.out, by rw [HNX.out]; exact HM5.out, HB5.out⟩
                  case measure => simp [intOf]; omega
                · have HO5 := hide (once_skip HON.out (r := ⟨rd, rk, rv⟩) (.inr (.inr ⟨hd0, hd2⟩)))
                  rw [hc0] at he4
                  generalize (runM T0 (L.take k)).ans ⟨rd, rk, rv⟩ = an at he4
                  have z0 : (rd == 0) = false := by simpa using hd0
                  have z2 : (rd == 2) = false := by simpa using hd2
                  have z1 : (rd == 1) = false := by simpa using hd1
                  clear hc0 hd0 hd1 hd2
                  subst he4
                  obtain ⟨hz5, hr5, hs5⟩ := rs_laid w4 (0) (an) a4 L4.length c4
                  have HZ5 := hide hz5
                  have HM5 := hide (HM4.out.below hs5)
                  have HB5 := hide (HB4.out.trans (hs5.mono HB4.out.size))
                  have x0 : ((w4.alloc (.cells #[.int .i64 0, .string ⟨#[]⟩, .slice none 0 0] 32)).setRow w4.heap.size #[.int .i64 (0), .string (an), .slice a4 L4.length c4]).cell? ⟨w4.heap.size, 0, none⟩ = some (.int .i64 (0)) := cell_of_block hr5
                  have x1 : ((w4.alloc (.cells #[.int .i64 0, .string ⟨#[]⟩, .slice none 0 0] 32)).setRow w4.heap.size #[.int .i64 (0), .string (an), .slice a4 L4.length c4]).cell? ⟨w4.heap.size, 1, none⟩ = some (.string (an)) := cell_of_block hr5
                  clear f0 f1 f2
                  obtain ⟨f0, f1, f2⟩ := HC.out _ HB5.out
                  obtain ⟨g0', g1', g2'⟩ := HC.out _ HB3.out
                  clear hz5 hr5 hs5
                  go_wp2_with (first | (refine wpList_store_row rfl 32 (.tmp 10) (.tmp 36) rfl w4.heap.size #[.int .i64 (0), .string (an), .slice a4 L4.length c4] rfl rfl 32 _ HZ5.out rs_info rfl (rs_one _ _ _ _ _) ?_))
                  go_roundw
                  case rel => exact ⟨k + 1, p, q, v, by omega, rfl, rfl, rfl, by go_num, by rw [HNX.out]; exact HO5.out, by rw [HNX.out]; exact HM5.out, HB5.out⟩
                  case measure => simp [intOf]; omega
          · have HO5 := hide (once_skip HON.out (r := ⟨rd, rk, rv⟩) (.inr (.inl hc0)))
            generalize hcd : (runM T0 (L.take k)).code ⟨rd, rk, rv⟩ = cd at he4
            generalize (runM T0 (L.take k)).ans ⟨rd, rk, rv⟩ = an at he4
            have z0 : (cd == 0) = false := by rw [← hcd]; simpa using hc0
            clear hc0 hcd
            subst he4
            obtain ⟨hz5, hr5, hs5⟩ := rs_laid w4 (cd) (an) a4 L4.length c4
            have HZ5 := hide hz5
            have HM5 := hide (HM4.out.below hs5)
            have HB5 := hide (HB4.out.trans (hs5.mono HB4.out.size))
            have x0 : ((w4.alloc (.cells #[.int .i64 0, .string ⟨#[]⟩, .slice none 0 0] 32)).setRow w4.heap.size #[.int .i64 (cd), .string (an), .slice a4 L4.length c4]).cell? ⟨w4.heap.size, 0, none⟩ = some (.int .i64 (cd)) := cell_of_block hr5
            have x1 : ((w4.alloc (.cells #[.int .i64 0, .string ⟨#[]⟩, .slice none 0 0] 32)).setRow w4.heap.size #[.int .i64 (cd), .string (an), .slice a4 L4.length c4]).cell? ⟨w4.heap.size, 1, none⟩ = some (.string (an)) := cell_of_block hr5
            clear f0 f1 f2
            obtain ⟨f0, f1, f2⟩ := HC.out _ HB5.out
            obtain ⟨g0', g1', g2'⟩ := HC.out _ HB3.out
            clear hz5 hr5 hs5
            go_wp2_with (first | (refine wpList_store_row rfl 32 (.tmp 10) (.tmp 36) rfl w4.heap.size #[.int .i64 (cd), .string (an), .slice a4 L4.length c4] rfl rfl 32 _ HZ5.out rs_info rfl (rs_one _ _ _ _ _) ?_))
            go_roundw
            case rel => exact ⟨k + 1, p, q, v, by omega, rfl, rfl, rfl, by go_num, by rw [HNX.out]; exact HO5.out, by rw [HNX.out]; exact HM5.out, HB5.out⟩
            case measure => simp [intOf]; omega
        · have HO5 := hide (once_skip HON.out (r := ⟨rd, rk, rv⟩) (.inl hks))
          have hne := str_ne hks
          clear hks
          generalize hcd : (runM T0 (L.take k)).code ⟨rd, rk, rv⟩ = cd at he4
          clear hcd
          generalize (runM T0 (L.take k)).ans ⟨rd, rk, rv⟩ = an at he4
          subst he4
          obtain ⟨hz5, hr5, hs5⟩ := rs_laid w4 (cd) (an) a4 L4.length c4
          have HZ5 := hide hz5
          have HM5 := hide (HM4.out.below hs5)
          have HB5 := hide (HB4.out.trans (hs5.mono HB4.out.size))
          have x0 : ((w4.alloc (.cells #[.int .i64 0, .string ⟨#[]⟩, .slice none 0 0] 32)).setRow w4.heap.size #[.int .i64 (cd), .string (an), .slice a4 L4.length c4]).cell? ⟨w4.heap.size, 0, none⟩ = some (.int .i64 (cd)) := cell_of_block hr5
          have x1 : ((w4.alloc (.cells #[.int .i64 0, .string ⟨#[]⟩, .slice none 0 0] 32)).setRow w4.heap.size #[.int .i64 (cd), .string (an), .slice a4 L4.length c4]).cell? ⟨w4.heap.size, 1, none⟩ = some (.string (an)) := cell_of_block hr5
          clear f0 f1 f2
          obtain ⟨f0, f1, f2⟩ := HC.out _ HB5.out
          obtain ⟨g0', g1', g2'⟩ := HC.out _ HB3.out
          clear hz5 hr5 hs5
          go_wp2_with (first | (refine wpList_store_row rfl 32 (.tmp 10) (.tmp 36) rfl w4.heap.size #[.int .i64 (cd), .string (an), .slice a4 L4.length c4] rfl rfl 32 _ HZ5.out rs_info rfl (rs_one _ _ _ _ _) ?_))
          go_roundw
          case rel => exact ⟨k + 1, p, q, v, by omega, rfl, rfl, rfl, by go_num, by rw [HNX.out]; exact HO5.out, by rw [HNX.out]; exact HM5.out, HB5.out⟩
          case measure => simp [intOf]; omega
    · have hd : decide ((k : Int) < (n : Int)) = false := by simp; omega
      have hkn : k = n := by omega
      subst hkn
      have htk : L.take k = L := List.take_of_length_le (by have := HL.out; omega)
      rw [htk] at HMR
      clear htk hlt hk
      obtain ⟨he1, he2⟩ := once_end HON.out
      have hp1 : (p : Int) ≤ 1 := by omega
      have hq1 : (q : Int) ≤ (p : Int) := by omega
      clear he1 he2
      go_wp2_with fail
      refine (live_any _ (HKD.out.below HBR.out)).mono ?_
      rintro e9 W9 ⟨rfl, hb9⟩
      have HL9 := hide (HBR.out.trans (hb9.mono HBR.out.size))
      clear hb9
      go_wp2_with fail
      first | go_ret | go_returns
      exact ⟨rfl, HL9.out⟩
end Go.Proofs.YtlpibpkbgmcclaaDoor
