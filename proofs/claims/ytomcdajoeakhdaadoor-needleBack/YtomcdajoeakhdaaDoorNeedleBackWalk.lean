/- The law NeedleBack returns true at every input, and writes nothing that was there. -/
import Derived.Test.YtomcdajoeakhdaaDoorNeLive
import Derived.Test.YtomcdajoeakhdaaDoorNeTold
import Derived.Test.YtomcdajoeakhdaaDoorNeCut
import Derived.Test.YtomcdajoeakhdaaDoorCameNd
namespace Go.Proofs.YtomcdajoeakhdaaDoor
open Go.RowKit
set_option linter.unusedVariables false
set_option maxRecDepth 100000 in
set_option maxHeartbeats 16000000 in
theorem walkNeedleBack (a : Option Addr) (m c : Nat) (w : World) (hK : KAt w) (w0 : Came 42 w a m c) : Calls Tryd.prog 6 #[.slice a m c] w fun e w' => e = .returned (.bool true) ∧ Below w.heap.size w w' := by
  obtain ⟨ls, hlen, -, -, hnd, -⟩ := came_nds w0
  clear w0
  have KA := hide hK
  have HL := hide hlen
  have HND := hide hnd
  clear hK hlen hnd
  by_cases hbig : 8 < m
  · have hd : decide ((8 : Int) < (m : Int)) = true := by simp; omega
    go_enter Tryd.func6, Tryd.ntmps6
    go_wp2_with fail
    refine (nlive_any _ KA.out).mono ?_
    rintro e wLL ⟨rfl, hb⟩
    have BLL := hide hb
    clear hb
    go_wp2_with fail
    try go_ret
    exact ⟨rfl, BLL.out⟩
  have hd8 : decide ((8 : Int) < (m : Int)) = false := by simp; omega
  obtain ⟨j0, hi0, hz0, hz1, hz2⟩ := info_parts int_info
  have HJ := hide hi0
  have HJ0 := hide hz0
  have HJ1 := hide hz1
  have HJ2 := hide hz2
  clear hi0 hz0 hz1 hz2
  go_enter Tryd.func6, Tryd.ntmps6
  go_wp2_with fail
  go_loopw [3, 4, 5] (fun y v i wr => ∃ k : Nat, k ≤ m ∧ i = .int .i64 k ∧ y = .string (chS (ls.take k)) ∧ AllOk (ls.take k) ∧ (chS (ls.take k)).size ≤ k * 384 ∧ GR w wr 3 1 v k (inV (offT ls k))) (fun _ _ i _ => m - (intOf i).toNat)
  case atStart => exact ⟨0, by omega, rfl, rfl, fun n hn => by simp at hn, Nat.zero_le _, GR.nil _ _ _ _ (Below.refl _ _)⟩
  case round =>
    obtain ⟨k, hk, rfl, rfl, hok, hsz, hg⟩ := hrel
    have HOK := hide hok
    have HG := hide hg
    have HB := hide hg.2
    clear hok hg
    by_cases hlt : k < m
    · have hd : decide ((k : Int) < (m : Int)) = true := by simp; omega
      have hdi : (k : Int) < (m : Int) := by omega
      have hd0 : (0 : Int) ≤ (k : Int) := by omega
      obtain ⟨x, hx⟩ : ∃ x, ls[k]? = some x := ⟨_, List.getElem?_eq_getElem (by have := HL.out; omega)⟩
      rcases HND.out with q | ⟨b1, o1, rfl, hb1, hc1⟩
      · have := HL.out; rw [q] at this; simp at this; omega
      have e1 := (HB.out.cell (p := ⟨b1, o1 + k * 2, none⟩) hb1).trans (hc1 k x hx).1
      have e2 := (HB.out.cell (p := ⟨b1, o1 + k * 2 + 1, none⟩) hb1).trans (hc1 k x hx).2
      clear hc1
      by_cases hK1 : 100 < x.k.size
      · have hq : decide ((100 : Int) < (x.k.size : Int)) = true := by simp; omega
        clear hx HOK HG
        obtain ⟨K, V⟩ := x
        simp only at e1 e2 hq
        go_wp2_with fail
        refine (nlive_any _ (KA.out.below HB.out)).mono ?_
        rintro e wLL ⟨rfl, hb⟩
        have BLL := hide (HB.out.trans (hb.mono HB.out.size))
        clear hb
        go_wp2_with fail
        try go_ret
        exact ⟨rfl, BLL.out⟩
      have hq : decide ((100 : Int) < (x.k.size : Int)) = false := by simp; omega
      by_cases hV1 : 1000 < x.v.size
      · have hq2 : decide ((1000 : Int) < (x.v.size : Int)) = true := by simp; omega
        clear hx HOK HG
        obtain ⟨K, V⟩ := x
        simp only at e1 e2 hq hq2
        go_wp2_with fail
        refine (nlive_any _ (KA.out.below HB.out)).mono ?_
        rintro e wLL ⟨rfl, hb⟩
        have BLL := hide (HB.out.trans (hb.mono HB.out.size))
        clear hb
        go_wp2_with fail
        try go_ret
        exact ⟨rfl, BLL.out⟩
      have hq2 : decide ((1000 : Int) < (x.v.size : Int)) = false := by simp; omega
      have HO := hide (fun w => nown_any x w)
      have HW := hide (fun w hK => nwrite_any x w hK (by omega) (by omega))
      by_cases h0 : ckE x = 0
      · have HNX := hide (chS_next hx)
        have HAN := hide (HOK.out.next hx h0)
        have HSZ := hide (nbS_le h0)
        have HOF := hide (offT_next ls k)
        rw [nwS_ok h0, h0] at HW
        generalize nbS x = T at *
        generalize chS (List.take k ls) = S at *
        clear hx h0 hV1 hK1
        obtain ⟨K, V⟩ := x
        simp only [ncs] at HO HW
        simp only at e1 e2 hq hq2
        go_wp2_with fail
        refine (HO.out _).mono ?_
        rintro e w2 ⟨rfl, hb⟩
        have HB2 := hide (HB.out.trans (hb.mono HB.out.size))
        have HG2 := hide (HG.out.below hb)
        clear hb e1 e2 HG HB
        go_wp2_with fail
        refine (HW.out _ (KA.out.below HB2.out)).mono ?_
        rintro e w3 ⟨rfl, hb⟩
        have HG3 := hide (HG2.out.below hb)
        have hsz3 := HG3.out.2.size
        have hadd : ¬ 9223372036854775807 < S.size + T.size := by have := HSZ.out; omega
        clear hb HB2 HG2
        go_wp2_with (first | (at_builtin; refine wpList_append_own _ rfl (.tmp 57) (.tmp 60) 39 rfl w.heap.size 3 j0 (.int .i64 0) 1 8 Tryd.underlying39 HJ.out HJ0.out HJ1.out HJ2.out rfl (by decide) _ k (inV (offT ls k)) rfl (HG3.out.1.alloc _) ⟨w3.heap.size, 0, none⟩ 1 1 [.int .i64 (S.size : Int)] rfl rfl (cell_one_new _ _ _) (by simp [Value.oneCell']) (by unfold maxLen; omega) (by omega) (by rw [World.size_alloc]; omega) ?_; intro v4 w4 hown hgr hnil; clear hnil; have HG4 := hide (HG3.out.step hown hgr); clear hown hgr))
        rw [← HOF.out] at HG4
        exact ⟨⟨k + 1, by omega, by go_num, by rw [HNX.out], HAN.out, by rw [HNX.out, ByteArray.size_append]; have := HSZ.out; omega, HG4.out⟩, by simp [intOf]; omega⟩
      · have HE := hide h0
        have q1 : (ckE x == 0) = false := by simpa using h0
        have q2 : (ckE x != 0) = true := by simpa using h0
        rw [nwS_bad h0] at HW
        generalize ckE x = E at *
        clear hx h0 hV1 hK1 HOK HG
        obtain ⟨K, V⟩ := x
        simp only [ncs] at HO HW
        simp only at e1 e2 hq hq2
        go_wp2_with fail
        refine (HO.out _).mono ?_
        rintro e w2 ⟨rfl, hb⟩
        have HB2 := hide (HB.out.trans (hb.mono HB.out.size))
        clear hb e1 e2 HB
        go_wp2_with fail
        refine (HW.out _ (KA.out.below HB2.out)).mono ?_
        rintro e w3 ⟨rfl, hb⟩
        have HB3 := hide (HB2.out.trans (hb.mono HB2.out.size))
        clear hb HB2
        go_wp2_with fail
        refine (nlive_any _ (KA.out.below HB3.out)).mono ?_
        rintro e wLL ⟨rfl, hb⟩
        have BLL := hide (HB3.out.trans (hb.mono HB3.out.size))
        clear hb
        go_wp2_with fail
        try go_ret
        exact ⟨rfl, BLL.out⟩
    · have hd : decide ((k : Int) < (m : Int)) = false := by simp; omega
      have hkm : k = m := by omega
      subst hkm
      have htk : ls.take k = ls := by rw [← HL.out]; exact List.take_length
      rw [htk] at hsz HOK
      rw [htk]
      have hgr : GR w wr 3 1 u4 (offT ls k).length (inV (offT ls k)) := by rw [offT_len]; exact HG.out
      obtain ⟨at_, ct, rfl, _, hin⟩ := hgr.ints
      rw [offT_len]
      have HIN := hide hin
      have HA1 := hide (fun w hK => nall_any (chS ls) w hK (by omega))
      clear hin hgr HG
      have hcut : (chS ls).size ≠ 0 → ∃ l x, ls = l ++ [x] := by
        intro hne
        rcases List.eq_nil_or_concat ls with q | ⟨l, x, q⟩
        · rw [q] at hne; exact absurd rfl hne
        · exact ⟨l, x, by rw [q]; simp⟩
      have HCUT := hide hcut
      clear hcut htk
      have HAF := hide (fun (w : World) (r : Ending) (w' : World) (h : AllLeft (chS ls) w r w') => chain_all HOK.out h)
      rw [HL.out] at HAF
      have HIN2 : Hid (IntsAt wr at_ ((List.range k).map fun j => (((chS (ls.take j)).size : Nat) : Int))) := HIN.out
      clear HIN
      have HLO : Hid (((List.range k).map fun j => (((chS (ls.take j)).size : Nat) : Int)).length = k) := by show _ = _; simp
      generalize ((List.range k).map fun j => (((chS (ls.take j)).size : Nat) : Int)) = OF at *
      go_wp2_with fail
      refine (HA1.out _ (KA.out.below HB.out)).mono ?_
      intro e w2 hA
      obtain ⟨hb, ax, cx, ai, ci, rfl, hnx, hix⟩ := HAF.out _ _ _ hA
      have HB2 := hide (HB.out.trans (hb.mono HB.out.size))
      have HI2 := hide (HIN2.out.below hb)
      have NX2 := hide hnx
      have IX2 := hide hix
      clear hA hb hnx hix HIN2 HB
      go_wp2_with fail
      refine (ntold_any ax cx k ls _ HL.out (by omega) NX2.out).mono ?_
      rintro e w3 ⟨att, ctt, rfl, hb, htd⟩
      have HB3 := hide (HB2.out.trans (hb.mono HB2.out.size))
      have HI3 := hide (HI2.out.below hb)
      have IX3 := hide (IX2.out.below hb)
      have TD3 := hide htd
      clear hb htd HI2 IX2 NX2 HB2
      go_wp2_with fail
      refine (nds_same att a ctt c k ls _ HL.out (by omega) TD3.out (HND.out.below HB3.out)).mono ?_
      rintro e w4 ⟨rfl, hb⟩
      have HB4 := hide (HB3.out.trans (hb.mono HB3.out.size))
      have HI4 := hide (HI3.out.below hb)
      have IX4 := hide (IX3.out.below hb)
      clear hb HI3 IX3 TD3 HB3
      go_wp2_with fail
      refine (ints_same ai at_ ci ct k OF _ HLO.out (by omega) IX4.out HI4.out).mono ?_
      rintro e w5 ⟨rfl, hb⟩
      have HB5 := hide (HB4.out.trans (hb.mono HB4.out.size))
      clear hb HI4 IX4 HB4
      by_cases hs0 : (chS ls).size = 0
      · have he := is_empty hs0
        go_wp2_with fail
        refine (nlive_any _ (KA.out.below HB5.out)).mono ?_
        rintro e wLL ⟨rfl, hb⟩
        have BLL := hide (HB5.out.trans (hb.mono HB5.out.size))
        clear hb
        go_wp2_with fail
        try go_ret
        exact ⟨rfl, BLL.out⟩
      have he := not_empty hs0
      obtain ⟨l, x, hlx⟩ := HCUT.out hs0
      have HC := hide (fun (w : World) (r : Ending) (w' : World) => @chain_cut l x (by rw [← hlx]; exact HOK.out) w w' r)
      rw [← hlx] at HC
      have HA2 := hide (fun w hK => nall_any ((chS ls).extract 0 ((chS ls).size - 1)) w hK (by rw [ByteArray.size_extract]; omega))
      clear hlx HA1 HAF HCUT
      generalize chS ls = S at *
      have hi1 : (0 : Int) ≤ (S.size : Int) - 1 := by omega
      have hi2 : (S.size : Int) - 1 ≤ (S.size : Int) := by omega
      have hi3 : ((S.size : Int) - 1).toNat = S.size - 1 := by omega
      go_wp2_with fail
      first | rw [hi3] | skip
      refine (HA2.out _ (KA.out.below HB5.out)).mono ?_
      intro e w6 hA
      obtain ⟨rfl, hb⟩ := HC.out _ _ _ hA
      have HB6 := hide (HB5.out.trans (hb.mono HB5.out.size))
      clear hA hb HB5
      go_wp2_with fail
      refine (nlive_any _ (KA.out.below HB6.out)).mono ?_
      rintro e wLL ⟨rfl, hb⟩
      have BLL := hide (HB6.out.trans (hb.mono HB6.out.size))
      clear hb
      go_wp2_with fail
      try go_ret
      exact ⟨rfl, BLL.out⟩
end Go.Proofs.YtomcdajoeakhdaaDoor
