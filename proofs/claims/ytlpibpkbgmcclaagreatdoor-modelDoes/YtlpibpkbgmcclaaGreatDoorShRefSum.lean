/- What sluicegateref03.Sum answers: the digest. -/
import Derived.Test.YtlpibpkbgmcclaaGreatDoorShFill
import Derived.Test.YtlpibpkbgmcclaaGreatDoorShBlk
import Derived.Test.YtlpibpkbgmcclaaGreatDoorShFinX
import Derived.Deep.RegionHeld3
namespace Go.Proofs.YtlpibpkbgmcclaaGreatDoor
open Go.RowKit
theorem sl8_first (w : World) : Sl8 (w.alloc (.cells #[.int .u32 1779033703, .int .u32 3144134277, .int .u32 1013904242, .int .u32 2773480762, .int .u32 1359893119, .int .u32 2600822924, .int .u32 528734635, .int .u32 1541459225] 75)) w.heap.size 0 Sh.iv8 := by
  refine ⟨by rw [World.size_alloc]; exact Nat.lt_succ_self _, fun q hq => ?_⟩
  rw [Nat.zero_add, cell_of_block (heap_alloc_new w _)]
  rcases lt8' hq with rfl | rfl | rfl | rfl | rfl | rfl | rfl | rfl <;> rfl
theorem fb_lt {f : Nat → Nat} (hf : ∀ p, f p < 256) (n p : Nat) : Sh.fb f n p < 256 := by
  unfold Sh.fb; split
  · exact hf p
  · split
    · decide
    · split
      · decide
      · exact Nat.mod_lt _ (by decide)
theorem c1_drew {w : World} {p : Addr} {v : Value} (h : w.cell? p = some v) : w.drew.cell? p = some v := h
theorem c1_below {B : Nat} {w w' : World} {b o : Nat} {v : Value} (hb : Below B w w') (hB : b < B) (h : w.cell? ⟨b, o, none⟩ = some v) : w'.cell? ⟨b, o, none⟩ = some v := (hb.cell (p := ⟨b, o, none⟩) hB).trans h
theorem TxRel.bel {w wr : World} {v : Sh.S8} {x : Value} {k : Nat} (h : TxRel w wr v x k) : Below w.heap.size w wr := h.2
theorem txRel_drew {w wr w1 : World} {v : Sh.S8} {y v' : Value} {k x : Nat} {o : Obj} (h : TxRel w wr v y k) (e : Sh.at8 v k = x) (hown : w1.ownsRow w.heap.size 5 1 v' (4 * k + 4) (bys (by8 v) (4 * k) ++ [.int .u8 (IntKind.u8.wrap ((x : Int) / 16777216)), .int .u8 (IntKind.u8.wrap ((x : Int) / 65536)), .int .u8 (IntKind.u8.wrap ((x : Int) / 256)), .int .u8 (IntKind.u8.wrap (x : Int))])) (hgr : (wr.drew.alloc o).grownBy w1 y.ownBlock) : TxRel w w1 v v' (k + 1) := by
  refine ⟨?_, ?_⟩
  · rw [by8_four, e, show 4 * (k + 1) = 4 * k + 4 by omega]
    rw [IntKind.wrap_u8, IntKind.wrap_u8, IntKind.wrap_u8, IntKind.wrap_u8] at hown
    exact hown
  · refine Below.grown (h.2.drew.alloc h.2.size o) hgr ?_ fun g hg => row_base h.1 hg
    rw [World.size_alloc]
    exact Nat.le_succ_of_le h.2.size
set_option maxRecDepth 100000 in
set_option maxHeartbeats 2000000 in
theorem refSum_any (s : ByteArray) (w : World) (hs : s.size ≤ 1000000) :
    Calls Tryz.prog 22 #[.string s] w fun e w' => e = .returned (.string (dig (bt s) s.size)) ∧ Below w.heap.size w w' := by
  obtain ⟨hm1, hm2, hm3⟩ := fl_mod s.size
  obtain ⟨i0, hi0, hz0, hz1, hz2⟩ := info_parts u8_info
  have HI := hide hi0
  have HI0 := hide hz0
  have HI1 := hide hz1
  have HI2 := hide hz2
  clear hi0 hz0 hz1 hz2
  have HSL := hide (sl8_first w)
  have HB0 : Hid (Below w.heap.size w (w.alloc (.cells #[.int .u32 1779033703, .int .u32 3144134277, .int .u32 1013904242, .int .u32 2773480762, .int .u32 1359893119, .int .u32 2600822924, .int .u32 528734635, .int .u32 1541459225] 75))) := (Below.refl _ _).alloc (Nat.le_refl _) _
  go_enter Tryz.func22, Tryz.ntmps22
  go_wp2_with fail
  refine (refFilled_any s _ hs).mono ?_
  generalize w.alloc (.cells #[.int .u32 1779033703, .int .u32 3144134277, .int .u32 1013904242, .int .u32 2773480762, .int .u32 1359893119, .int .u32 2600822924, .int .u32 528734635, .int .u32 1541459225] 75) = W at *
  rintro e w2 ⟨vb, rfl, hBR⟩
  obtain ⟨⟨gb, cap, rfl, hgb, hcap, hcm, hgl, hcells, -⟩, hbl⟩ := hBR
  have hcm' : cap ≤ 9223372036854775807 := hcm
  have HCL := hide hcells
  have HS2 := hide (HSL.out.below hbl HSL.out.1)
  have HB2 := hide (HB0.out.trans (hbl.mono HB0.out.size))
  clear hcells hbl HSL HB0 hcm
  go_wp2_with fail
  go_loopw [3, 5] (fun x y wr => ∃ k g c : Nat, 64 * k ≤ Sh.fl s.size ∧ y = .int .i64 ((64 * k : Nat) : Int) ∧ x = .slice (some ⟨g, 0, none⟩) 8 c ∧ Sl8 wr g 0 (Sh.sts (Sh.fb (bt s) s.size) k) ∧ Below w2.heap.size w2 wr) (fun _ y _ => Sh.fl s.size - (intOf y).toNat)
  case atStart => exact ⟨0, _, _, by omega, rfl, rfl, HS2.out, Below.refl _ _⟩
  case round =>
    obtain ⟨k, g, c, hk, rfl, rfl, hS, hbl⟩ := hrel
    clear HS2
    have HS := hide hS
    have HBL := hide hbl
    have hsz := hbl.size
    clear hS hbl
    by_cases hlt : 64 * k < Sh.fl s.size
    · have hd : decide (((64 * k : Nat) : Int) < ((Sh.fl s.size : Nat) : Int)) = true := by simp; omega
      have HC : Hid (Calls Tryz.prog 36 #[.slice (some ⟨g, 0, none⟩) 8 c, .slice (some ⟨gb, 64 * k, none⟩) 64 (cap - 64 * k)] wr fun e w' => ∃ v' g c, e = .returned v' ∧ v' = .slice (some ⟨g, 0, none⟩) 8 c ∧ wr.heap.size ≤ g ∧ Sl8 w' g 0 (Sh.sts (Sh.fb (bt s) s.size) (k + 1)) ∧ Below wr.heap.size wr w') :=
        refBlock_any g 0 c gb (64 * k) (cap - 64 * k) (Sh.sts (Sh.fb (bt s) s.size) k) (fun p => Sh.fb (bt s) s.size (64 * k + p)) wr (sts_in _ _) (fun p => fb_lt (bt_lt s) _ _) HS.out (by omega) (fun p hp => (HBL.out.cell (p := ⟨gb, 64 * k + p, none⟩) hgl).trans (HCL.out _ (by omega)))
      have HK1 : Hid ((((64 * k : Nat) : Int) + 64) = ((64 * (k + 1) : Nat) : Int)) := by show _ = _; omega
      have h64 : 64 * k + 64 ≤ Sh.fl s.size := by omega
      generalize 64 * k = q at *
      generalize Sh.fl s.size = L at *
      go_wp2_with fail
      refine HC.out.mono ?_
      rintro e w3 ⟨v', g3, c3, rfl, rfl, hg3, hS3, hb3⟩
      have HS3 := hide hS3
      have HB3 := hide (HBL.out.trans (hb3.mono HBL.out.size))
      clear hS3 hb3 HC hg3
      go_wp2_with fail
      exact ⟨⟨k + 1, g3, c3, by have := HK1.out; omega, by rw [HK1.out], rfl, HS3.out, HB3.out⟩, by simp [intOf]; omega⟩
    · have hd : decide (((64 * k : Nat) : Int) < ((Sh.fl s.size : Nat) : Int)) = false := by simp; omega
      have HF : Hid (Sh.sts (Sh.fb (bt s) s.size) k = Sh.fin (bt s) s.size) := by unfold Sh.fin; rw [show Sh.fl s.size / 64 = k by omega]; exact rfl
      rw [HF.out] at HS
      have HIN : Hid (Sh.In (Sh.fin (bt s) s.size)) := sts_in _ _
      have HD : Hid (mkS 32 (by8 (Sh.fin (bt s) s.size)) = dig (bt s) s.size) := rfl
      have hgg := HS.out.1
      have HBW := hide (HB2.out.trans (HBL.out.mono HB2.out.size))
      clear HF HCL HBL HB2
      generalize Sh.fin (bt s) s.size = U at *
      generalize 64 * k = q at *
      generalize Sh.fl s.size = L at *
      go_wp2_with fail
      go_loopw [6, 7] (fun x y wz => ∃ j : Nat, j ≤ 8 ∧ y = .int .i64 j ∧ TxRel wr wz U x j) (fun _ y _ => 8 - (intOf y).toNat)
      case atStart => exact ⟨0, by omega, rfl, World.ownsRow_nil _ _ _ _, Below.refl _ _⟩
      case round =>
        obtain ⟨j, hj, rfl, hrel⟩ := hrel
        have H := hide hrel
        have hsz2 := hrel.2.size
        by_cases hlt : j < 8
        · have hd2 : decide ((j : Int) < 8) = true := by simp; omega
          have hni : (0 : Int) ≤ (j : Int) := by omega
          have hbi : (j : Int) < 8 := by omega
          have hx := HIN.out j
          have hc0 := HS.out.2 j hlt
          rw [Nat.zero_add] at hc0
          have hS0 := (hrel.2.cell (p := ⟨g, j, none⟩) hgg).trans hc0
          clear hrel
          generalize hX : Sh.at8 U j = x at *
          have HX := hide hX
          clear hX
          have HCE := hide hc0
          clear hc0
          have hgl2 := Nat.lt_of_lt_of_le hgg hsz2
          go_wp2_with fail
          go_region_held3 (fun w' => w'.cell? ⟨g, j, none⟩ = some (.int .u32 (x : Nat)))
            (first | (with_reducible refine c1_drew ?_; assumption) | (with_reducible exact c1_below ((Below.refl wr.heap.size wr).drew.alloc (Nat.le_refl _) _) hgl2 hS0) | (with_reducible exact c1_below (TxRel.bel HN3.out) hgg HCE.out))
            (first | (refine step_append_own rfl (.tmp 28) (.tmp 52) 57 rfl _ 5 i0 (.int .u8 0) 1 1 Tryz.underlying57 HI.out HI0.out HI1.out HI2.out rfl (by decide) _ (4 * j) (bys (by8 U) (4 * j)) (by simp [Act.eval]) ((own_drew H.out.1).alloc _) ⟨wr.heap.size, 0, none⟩ 4 4 _ (by simp [Act.eval]) rfl (cells_new wr.drew _ _) (by simp [Value.oneCell']) (by unfold maxLen; omega) (by omega) (by simp; omega) ?_; intro v' w3 hown hgr hnil; clear hnil; have HN3 := hide (txRel_drew H.out HX.out hown hgr); clear hown hgr))
          all_goals
            rename_i hS
            clear hS hS0
            go_wp2_with fail
            exact ⟨⟨j + 1, by omega, by go_num, HN3.out⟩, by simp [intOf]; omega⟩
        · obtain rfl : j = 8 := by omega
          clear hrel
          have hcv := own_string H.out.1
          go_wp2_with fail
          go_ret
          exact ⟨ret_str HD.out, HBW.out.trans (H.out.2.mono HBW.out.size)⟩
end Go.Proofs.YtlpibpkbgmcclaaGreatDoor
