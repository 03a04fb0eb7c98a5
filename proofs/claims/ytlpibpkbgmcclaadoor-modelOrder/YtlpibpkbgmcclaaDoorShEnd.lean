/- What digest.ended answers: the state behind a text, filled up. -/
import Derived.Test.YtlpibpkbgmcclaaDoorShState
namespace Go.Proofs.YtlpibpkbgmcclaaDoor
open Go.RowKit
/-- the last block, with the length's bytes from the back, k of them -/
def lenB (r : Nat → Nat) (n k p : Nat) : Nat := if 64 - k ≤ p ∧ p < 64 then (8 * n) >>> (8 * (63 - p)) % 256 else r p
def markB (r : Nat → Nat) (a p : Nat) : Nat := if p = a then 128 else r p
/-- the state behind the end -/
def endS (v : Sh.S8) (r : Nat → Nat) (n : Nat) : Sh.S8 :=
  if n % 64 < 56 then Sh.blk v (lenB (markB r (n % 64)) n 8) else Sh.blk (Sh.blk v (markB r (n % 64))) (lenB (fun _ => 0) n 8)
theorem lenB_zero (r : Nat → Nat) (n p : Nat) : lenB r n 0 p = r p := by unfold lenB; rw [if_neg (by omega)]
theorem lenB_step (r : Nat → Nat) (n : Nat) {k : Nat} (hk : k < 8) (p : Nat) : (if p = 63 - k then (8 * n) >>> (8 * k) % 256 else lenB r n k p) = lenB r n (k + 1) p := by
  unfold lenB
  by_cases e : p = 63 - k
  · rw [if_pos e, if_pos (by omega)]
    congr 2
    omega
  · rw [if_neg e]
    by_cases c : 64 - k ≤ p ∧ p < 64
    · rw [if_pos c, if_pos (by omega)]
    · rw [if_neg c, if_neg (by omega)]
theorem lenB_lt {r : Nat → Nat} (h : ∀ p, r p < 256) (n k p : Nat) : lenB r n k p < 256 := by
  unfold lenB; split
  · exact Nat.mod_lt _ (by decide)
  · exact h p
theorem markB_lt {r : Nat → Nat} (h : ∀ p, r p < 256) (a p : Nat) : markB r a p < 256 := by
  unfold markB; split
  · decide
  · exact h p
theorem add8_in (u v : Sh.S8) : Sh.In (Sh.add8 u v) := by
  intro q
  unfold Sh.at8 Sh.add8
  split <;> exact Nat.mod_lt _ (by decide)
theorem blk_in (v : Sh.S8) (b : Nat → Nat) : Sh.In (Sh.blk v b) := by unfold Sh.blk; exact add8_in _ _
theorem len_u8 (n k : Nat) : (n : Int) * 8 / 2 ^ (8 * k) % 256 = (((8 * n) >>> (8 * k) % 256 : Nat) : Int) := by
  rw [Nat.shiftRight_eq_div_pow, Nat.mul_comm 8 n]
  simp
theorem StAt.there_words {w : World} {b : Nat} {v : Sh.S8} {r : Nat → Nat} {n : Nat} (h : StAt w b v r n) (u : Sh.S8) : w.there b 0 (a8 u).size := by rw [a8, fnC_size]; exact h.there (by omega)
theorem StAt.there_rest {w : World} {b : Nat} {v : Sh.S8} {r : Nat → Nat} {n : Nat} (h : StAt w b v r n) (f : Nat → Nat) : w.there b 8 (b64 f).size := by rw [b64, fnC_size]; exact h.there (by omega)
/-- what ended's parts keep -/
def EnRel (w wr : World) (v : Sh.S8) (r : Nat → Nat) (n : Nat) : Prop := StAt wr w.heap.size v r n ∧ S8At wr (w.heap.size + 1) z8 ∧ Below w.heap.size w wr
theorem EnRel.byte {w wr : World} {v : Sh.S8} {r : Nat → Nat} {n : Nat} (h : EnRel w wr v r n) {p : Nat} (hp : p < 64) (x : Nat) : EnRel w (wr.setCell ⟨w.heap.size, 8 + p, none⟩ (.int .u8 (x : Nat))) v (fun q => if q = p then x else r q) n :=
  ⟨h.1.setByte hp x, h.2.1.other (by simp) _, h.2.2.setCell (Nat.le_refl _) _⟩
theorem EnRel.congr {w wr : World} {v : Sh.S8} {r r' : Nat → Nat} {n : Nat} (h : EnRel w wr v r n) (e : ∀ p, p < 64 → r p = r' p) : EnRel w wr v r' n := ⟨h.1.congr e, h.2⟩
theorem EnRel.below {w wr w' : World} {v : Sh.S8} {r : Nat → Nat} {n : Nat} (h : EnRel w wr v r n) (hb : Below wr.heap.size wr w') : EnRel w w' v r n :=
  ⟨FnAt.below h.1 hb h.1.lt, FnAt.below h.2.1 hb h.2.1.lt, h.2.2.trans (hb.mono h.2.2.size)⟩
theorem EnRel.block {w wr : World} {v : Sh.S8} {r : Nat → Nat} {n : Nat} (h : EnRel w wr v r n) (v' : Sh.S8) (r' : Nat → Nat) : EnRel w ((wr.setCells w.heap.size 0 (a8 v').toList).setCells w.heap.size 8 (b64 r').toList) v' r' n :=
  ⟨(h.1.setWords v').setRest r', FnAt.setCellsOther (by omega) _ _ (FnAt.setCellsOther (by omega) _ _ h.2.1), below_setCells (Nat.le_refl _) _ _ (below_setCells (Nat.le_refl _) _ _ h.2.2)⟩
/-- the last part: the length's bytes, and the last block -/
theorem b64_zero : Array.replicate 64 (Value.int .u8 0) = b64 (fun _ => 0) := fnC_rep _ _
theorem blk_zero_info : (Tryd.prog.info? 103).map (fun i => i.zero) = some (some (.agg (Array.replicate 64 (.int .u8 0)))) := by kernel_rfl
theorem zero_blk (w : World) : Sem.run Tryd.prog (zeroValue 103) w = .ok (.agg (b64 fun _ => 0)) w := by
  have h := blk_zero_info
  cases hi : Tryd.prog.info? 103 with
  | none => rw [hi] at h; cases h
  | some i =>
    rw [hi] at h
    have hz : i.zero = some (.agg (Array.replicate 64 (.int .u8 0))) := by simpa using h
    simp [zeroValue, typeInfo, hi, hz, b64_zero]
set_option maxRecDepth 100000 in
set_option maxHeartbeats 1000000 in
theorem ended_any (v : Sh.S8) (r : Nat → Nat) (n : Nat) (w : World) (hK : KAt w) (hv : Sh.In v) (hr : ∀ p, r p < 256) (hn : n < 1099511627776) :
    Calls Tryd.prog 66 #[.agg (stC v r n)] w fun e w' => e = .returned (.agg (a8 (endS v r n))) ∧ Below w.heap.size w w' := by
  have hz8 := zero_s8
  have HST : Hid (EnRel w ((w.alloc (.cells (stC v r n) 105)).alloc (.cells (a8 z8) 100)) v r n) := by
    have h1 : StAt (w.alloc (.cells (stC v r n) 105)) w.heap.size v r n := heap_alloc_new _ _
    have h2 := heap_alloc_new (w.alloc (.cells (stC v r n) 105)) (.cells (a8 z8) 100)
    rw [World.size_alloc] at h2
    exact ⟨FnAt.alloc h1 _, h2, ((Below.refl _ _).alloc (Nat.le_refl _) _).alloc (by simp) _⟩
  have hl := HST.out.1.len
  have hmd : (n : Int) % 64 = ((n % 64 : Nat) : Int) := by omega
  have HE : Hid (endS v r n = if n % 64 < 56 then Sh.blk v (lenB (markB r (n % 64)) n 8) else Sh.blk (Sh.blk v (markB r (n % 64))) (lenB (fun _ => 0) n 8)) := rfl
  have hm : n % 64 < 64 := Nat.mod_lt _ (by decide)
  generalize n % 64 = m at *
  have hc1 := HST.out.1.byte hm
  have hf1 := HST.out.1.free (8 + m)
  have H1 : Hid (EnRel w (((w.alloc (.cells (stC v r n) 105)).alloc (.cells (a8 z8) 100)).setCell ⟨w.heap.size, 8 + m, none⟩ (.int .u8 128)) v (markB r m) n) := (HST.out.byte hm 128).congr (r' := markB r m) fun p _ => rfl
  clear HST
  have HK := hide hK
  have HV := hide hv
  have HR := hide hr
  clear hK hv hr
  generalize hW : (w.alloc (.cells (stC v r n) 105)).alloc (.cells (a8 z8) 100) = W at *
  go_enter Tryd.func66, Tryd.ntmps66
  by_cases h56 : m < 56
  · have hge : decide ((56 : Int) ≤ (m : Int)) = false := by simp; omega
    go_wp2_with fail
    have HX := H1
    clear H1
    clear hl hc1 hf1 hge hW hmd
    generalize W.setCell ⟨w.heap.size, 8 + m, none⟩ (.int .u8 128) = W1 at *
    go_loopw [26] (fun y wr => ∃ k : Nat, k ≤ 8 ∧ y = .int .i64 k ∧ EnRel w wr v (lenB (markB r m) n k) n) (fun y _ => 8 - (intOf y).toNat)
    case atStart => exact ⟨0, by omega, rfl, HX.out.congr fun p _ => (lenB_zero _ _ _).symm⟩
    case round =>
      obtain ⟨k, hk, rfl, hrel⟩ := hrel
      have H := hide hrel
      by_cases hlt : k < 8
      · obtain ⟨j, hj⟩ : ∃ j, j + k = 63 := ⟨63 - k, by omega⟩
        have hd : decide ((k : Int) < 8) = true := by simp; omega
        have hsub : (63 : Int) - (k : Int) = (j : Int) := by omega
        have hc := hrel.1.byte (p := j) (by omega)
        have hf := hrel.1.free (8 + j)
        have hj64 : j < 64 := by omega
        clear hrel
        go_wp2_with fail
        refine ⟨⟨k + 1, by omega, by go_num, ?_⟩, by simp [intOf]; omega⟩
        rw [len_u8]
        refine (H.out.byte hj64 _).congr fun p _ => ?_
        rw [← lenB_step _ _ hlt, show j = 63 - k by omega]
      · obtain rfl : k = 8 := by omega
        have hcz : ∀ u, (a8 z8).size = (a8 u).size := fun u => by rw [a8, a8, fnC_size, fnC_size]
        clear hrel
        go_wp2_with (first
          | (refine wpList_load_mid rfl 100 (.tmp 39) rfl w.heap.size 0 rfl (a8 v).toList _ H.out.1.words Tryd.underlying100 rfl (s8_len _) ?_)
          | (refine wpList_load_mid rfl 103 (.tmp 41) rfl w.heap.size 8 rfl (b64 (lenB (markB r m) n 8)).toList _ H.out.1.rest Tryd.underlying103 rfl (b64_len _) ?_))
        refine (mixed_any v (lenB (markB r m) n 8) wr (HK.out.below H.out.2.2) HV.out (lenB_lt (markB_lt HR.out m) n 8)).mono ?_
        rintro e w2 ⟨rfl, hb2⟩
        have H2 := hide (H.out.below hb2)
        clear hb2 H
        have hF : Hid (endS v r n = Sh.blk v (lenB (markB r m) n 8)) := by unfold Hid; rw [HE.out, if_pos h56]
        generalize Sh.blk v (lenB (markB r m) n 8) = F at *
        go_wp2_with (refine wpList_store_row rfl 100 (.tmp 2) (.tmp 43) rfl (w.heap.size + 1) (a8 F) rfl rfl 100 (a8 z8) H2.out.2.1 (s8_info' _) (hcz _) (a8_one _) ?_)
        refine bodyPost_ret (res_s8 rfl _ _ (w.heap.size + 1) _ rfl (FnAt.put H2.out.2.1 _)) rfl ⟨by rw [hF.out], below_setRow H2.out.2.2 (by omega) _⟩
  · have hge : decide ((56 : Int) ≤ (m : Int)) = true := by simp; omega
    obtain ⟨zf, hzf⟩ : ∃ zf : Nat → Nat, zf = fun _ => 0 := ⟨_, rfl⟩
    have hzb := zero_blk
    rw [← hzf] at hzb HE
    have HZ := hide hzf
    clear hzf
    have hl1 := H1.out.1.len
    go_wp2_with (first
      | (refine wpList_load_mid rfl 100 (.tmp 14) rfl w.heap.size 0 rfl (a8 v).toList _ H1.out.1.words Tryd.underlying100 rfl (s8_len _) ?_)
      | (refine wpList_load_mid rfl 103 (.tmp 16) rfl w.heap.size 8 rfl (b64 (markB r m)).toList _ H1.out.1.rest Tryd.underlying103 rfl (b64_len _) ?_))
    refine (mixed_any v (markB r m) _ (HK.out.below H1.out.2.2) HV.out (markB_lt HR.out m)).mono ?_
    have HIN := hide (blk_in v (markB r m))
    generalize Sh.blk v (markB r m) = U at *
    rintro e w2 ⟨rfl, hb2⟩
    have H2 := hide (H1.out.below hb2)
    clear hb2 hl hc1 hf1 hge hW hmd hl1
    have hlw : ((w2.setCells w.heap.size 0 (a8 U).toList).setCells w.heap.size 8 (b64 zf).toList).cell? ⟨w.heap.size, 72, none⟩ = some (.int .i64 (n : Nat)) := (H2.out.block U zf).1.len
    have HX := hide (H2.out.block U zf)
    have HY := hide (H2.out.1.setWords U)
    go_wp2_with (first
      | (refine wpList_store_mid rfl 100 (.tmp 19) (.tmp 18) rfl w.heap.size 0 (a8 U) rfl rfl (StAt.there_words H2.out.1 U) (s8_info' U) (a8_one U) ?_; generalize w2.setCells w.heap.size 0 (a8 U).toList = W3 at *)
      | (refine wpList_store_mid rfl 103 (.tmp 21) (.tmp 20) rfl w.heap.size 8 (b64 zf) rfl rfl ?_ (b64_info' zf) (b64_one zf) ?_; (exact StAt.there_rest HY.out zf); generalize W3.setCells w.heap.size 8 (b64 zf).toList = W2 at *))
    clear hlw HY H2 hzb
    go_loopw [26] (fun y wr => ∃ k : Nat, k ≤ 8 ∧ y = .int .i64 k ∧ EnRel w wr U (lenB zf n k) n) (fun y _ => 8 - (intOf y).toNat)
    case atStart => exact ⟨0, by omega, rfl, HX.out.congr fun p _ => (lenB_zero _ _ _).symm⟩
    case round =>
      obtain ⟨k, hk, rfl, hrel⟩ := hrel
      have H := hide hrel
      by_cases hlt : k < 8
      · obtain ⟨j, hj⟩ : ∃ j, j + k = 63 := ⟨63 - k, by omega⟩
        have hd : decide ((k : Int) < 8) = true := by simp; omega
        have hsub : (63 : Int) - (k : Int) = (j : Int) := by omega
        have hc := hrel.1.byte (p := j) (by omega)
        have hf := hrel.1.free (8 + j)
        have hj64 : j < 64 := by omega
        clear hrel
        go_wp2_with fail
        refine ⟨⟨k + 1, by omega, by go_num, ?_⟩, by simp [intOf]; omega⟩
        rw [len_u8]
        refine (H.out.byte hj64 _).congr fun p _ => ?_
        rw [← lenB_step _ _ hlt, show j = 63 - k by omega]
      · obtain rfl : k = 8 := by omega
        have hcz : ∀ u, (a8 z8).size = (a8 u).size := fun u => by rw [a8, a8, fnC_size, fnC_size]
        clear hrel
        go_wp2_with (first
          | (refine wpList_load_mid rfl 100 (.tmp 39) rfl w.heap.size 0 rfl (a8 U).toList _ H.out.1.words Tryd.underlying100 rfl (s8_len _) ?_)
          | (refine wpList_load_mid rfl 103 (.tmp 41) rfl w.heap.size 8 rfl (b64 (lenB zf n 8)).toList _ H.out.1.rest Tryd.underlying103 rfl (b64_len _) ?_))
        refine (mixed_any U (lenB zf n 8) wr (HK.out.below H.out.2.2) HIN.out (lenB_lt (fun _ => by rw [HZ.out]; exact (by decide : (0 : Nat) < 256)) n 8)).mono ?_
        rintro e w2 ⟨rfl, hb2⟩
        have H2 := hide (H.out.below hb2)
        clear hb2 H
        have hF : Hid (endS v r n = Sh.blk U (lenB zf n 8)) := by unfold Hid; rw [HE.out, if_neg h56]
        generalize Sh.blk U (lenB zf n 8) = F at *
        go_wp2_with (refine wpList_store_row rfl 100 (.tmp 2) (.tmp 43) rfl (w.heap.size + 1) (a8 F) rfl rfl 100 (a8 z8) H2.out.2.1 (s8_info' _) (hcz _) (a8_one _) ?_)
        refine bodyPost_ret (res_s8 rfl _ _ (w.heap.size + 1) _ rfl (FnAt.put H2.out.2.1 _)) rfl ⟨by rw [hF.out], below_setRow H2.out.2.2 (by omega) _⟩
end Go.Proofs.YtlpibpkbgmcclaaDoor
