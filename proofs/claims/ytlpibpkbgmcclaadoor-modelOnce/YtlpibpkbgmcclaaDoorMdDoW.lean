/- What Do of a model answers and leaves: the walk. (Written by genmo.py.) -/
import Derived.Test.YtlpibpkbgmcclaaDoorMdDo
namespace Go.Proofs.YtlpibpkbgmcclaaDoor
open Go.RowKit
set_option linter.unusedVariables false
theorem opw_lk1 {o : Oper} {a : Act} {w : World} {K : Act → World → Prop} {Q : Exit → Act → World → Prop} (t : TypeId) (m x : Operand) (ho : o.op = .lookup t m x false) (M X v : Value) (hm : a.eval m = M) (hx : a.eval x = X)
    (hr : (Instr.lookup t M X false).run Tryd.prog w = .ok v w) (h : K (a.put o.dst v) w) : o.wp Tryd.prog a w K Q := by
  unfold Oper.wp execOp
  simp [ho, hm, hx, hr, Result.andThen]
  exact h
set_option maxRecDepth 100000 in
set_option maxHeartbeats 16000000 in
theorem md_do_nil (r : Rq) (w : World) : Calls Tryd.prog 10 #[.pointer none, .agg (rqs r)] w (Did0 1 ByteArray.empty w) := by
  have HB := hide (mdW_B w r.d r.k r.v)
  have HZ := hide (mdW_Z w r.d r.k r.v)
  simp only [rqs]
  go_enter Tryd.func10, Tryd.ntmps10
  go_wp2_with (first | (refine wpList_store_row rfl 32 (.tmp 4) (.tmp 8) rfl (w.heap.size + 1) #[.int .i64 1, .string ⟨#[]⟩, .slice none 0 0] rfl rfl 32 _ HZ.out rs_info rfl (rs_one _ _ _ _ _) ?_))
  refine bodyPost_ret (res_rs rfl _ _ (w.heap.size + 1) 1 ByteArray.empty none 0 0 rfl (rsB_row HZ.out)) rfl ⟨rfl, below_setRow HB.out (by omega) _⟩
set_option maxRecDepth 100000 in
set_option maxHeartbeats 16000000 in
theorem md_do {w : World} {x b n : Nat} {T : MT} (h : MdAt w x b n T) (hn : n ≤ 1000000) (hK : KM w) (r : Rq) (hk : r.k.size ≤ 100000) (hv : r.v.size ≤ 100000) : Calls Tryd.prog 10 #[.pointer (some ⟨x, 0, none⟩), .agg (rqs r)] w (DoP T r x b n w) := by
  have HB := hide (mdW_B w r.d r.k r.v)
  have HZ := hide (mdW_Z w r.d r.k r.v)
  have HR := hide (mdW_R w r.d r.k r.v)
  have HCK := hide (fun W => qcheck_any r W hk hv)
  have HM := hide (h.below HB.out)
  have HKM := hide (hK.below HB.out)
  have HNX : Hid (x < w.heap.size ∧ b < w.heap.size) := ⟨h.xlt, h.blt⟩
  have HOK := hide (key_okS hk)
  simp only [rqs] at HCK ⊢
  clear h hK hk hv
  by_cases hz : rqE r = 0
  · obtain ⟨F, hF, hEn, hFc⟩ := md_one T r x b n hn hz HOK.out
    have HFC := hide hFc
    have HEN := hide hEn
    have HRD : Hid (OkI r.d) := by have := rqE_d hz; show OkI _; unfold OkI; omega
    simp only [rqs] at HFC
    rw [hz] at HCK
    have HDS := hide hF
    clear hFc hF hz hEn
    go_enter Tryd.func10, Tryd.ntmps10
    go_wp2_with (first | (refine wpList_load_row rfl 24 (.tmp 3) rfl (w.heap.size) rfl 24 #[.int .i64 r.d, .string r.k, .string r.v] (0, 0) _ HR.out Tryd.underlying24 rfl rq_info ?_))
    refine (HCK.out _).mono ?_
    rintro e w1 ⟨rfl, hb⟩
    have HZ1 : Hid (RsB (w.heap.size + 1) 0 ⟨#[]⟩ none 0 0 w1) := (hb.block _ (lt_of_block HZ.out)).trans HZ.out
    have HR1 : Hid (w1.heap[w.heap.size]? = some (.cells #[.int .i64 r.d, .string r.k, .string r.v] 24 (0, 0))) := (hb.block _ (lt_of_block HR.out)).trans HR.out
    have HM1 := hide (HM.out.below hb)
    have HK1 := hide (HKM.out.below hb)
    have HB1 := hide (HB.out.trans (hb.mono HB.out.size))
    clear hb
    go_upto_region 6 with fail
    have HS0 : Hid (∀ W, Below w1.heap.size w1 W → W.heap[w.heap.size]? = some (.cells #[.int .i64 r.d, .string r.k, .string r.v] 24 (0, 0)) ∧ W.cell? ⟨w.heap.size, 0, none⟩ = some (.int .i64 r.d) ∧ W.cell? ⟨w.heap.size, 1, none⟩ = some (.string r.k) ∧ W.cell? ⟨w.heap.size, 2, none⟩ = some (.string r.v)) := fun W hb => by have q := (hb.block _ (lt_of_block HR1.out)).trans HR1.out; exact ⟨q, cell_of_block q, cell_of_block q, cell_of_block q⟩
    have HD0 := hide (drew_below w1)
    refine wp_region_noPanic ?_
    refine wp_region_held_drew (S := fun w' => w'.heap[w.heap.size]? = some (.cells #[.int .i64 r.d, .string r.k, .string r.v] 24 (0, 0)) ∧ w'.cell? ⟨w.heap.size, 0, none⟩ = some (.int .i64 r.d) ∧ w'.cell? ⟨w.heap.size, 1, none⟩ = some (.string r.k) ∧ w'.cell? ⟨w.heap.size, 2, none⟩ = some (.string r.v)) (by kernel_rfl) (HS0.out _ HD0.out) (fun hHeld => ?_)
    refine wpAnyH_take (i := 0) (v := ?v1) rfl (by kernel_rfl) (by kernel_rfl) (by kernel_rfl) (fun _ _ _ h => h) (Or.inl ⟨by rfl, ?hy1⟩) hHeld ?rest1
    case hy1 => (intro w' hSw; obtain ⟨s3, s0, s1, s2⟩ := hSw; go_simp; try with_reducible rfl)
    try simp [Act.put]
    refine wpAnyH_take (i := 2) (v := ?v2) rfl (by kernel_rfl) (by kernel_rfl) (by kernel_rfl) (fun _ _ _ h => h) (Or.inl ⟨by rfl, ?hy2⟩) hHeld ?rest2
    case hy2 => (intro w' hSw; obtain ⟨s3, s0, s1, s2⟩ := hSw; go_simp; try with_reducible rfl)
    try simp [Act.put]
    refine wpAnyH_take (i := 3) (v := ?v3) rfl (by kernel_rfl) (by kernel_rfl) (by kernel_rfl) (fun _ _ _ h => h) (Or.inl ⟨by rfl, ?hy3⟩) hHeld ?rest3
    case hy3 => (intro w' hSw; obtain ⟨s3, s0, s1, s2⟩ := hSw; go_simp; try with_reducible rfl)
    try simp [Act.put]
    refine wpAnyH_take (i := 5) (v := ?v4) rfl (by kernel_rfl) (by kernel_rfl) (by kernel_rfl) (fun _ _ _ h => h) (Or.inl ⟨by rfl, ?hy4⟩) hHeld ?rest4
    case hy4 => (intro w' hSw; obtain ⟨s3, s0, s1, s2⟩ := hSw; go_simp; try with_reducible rfl)
    try simp [Act.put]
    refine wpAnyH_ready (rs := [1]) (by kernel_rfl) (by simp) ?_
    refine AllReadyH.cons rfl (fun K hK => ?_) AllReadyH.nil
    go_simp
    refine (md_deeds x _).mono ?_
    rintro e w2 ⟨g, rfl, hg, hb⟩
    have HD2 := hide (HD0.out.trans (hb.mono HD0.out.size))
    have HG := hide hg
    clear hb hg
    refine hK.out _ _ (HS0.out _ HD2.out) (fun hHeld => ?_)
    clear hK K
    try simp [Act.put]
    have HLK : Hid ((Instr.lookup 45 (.map (some g)) (.int .i64 r.d) false).run Tryd.prog w2 = .ok (.func (.func F) #[.pointer (some ⟨x, 0, none⟩)] #[]) w2) := by
      obtain ⟨z, hzz⟩ : ∃ z, (zeroValue 33).run Tryd.prog w2 = .ok z w2 := ⟨_, rfl⟩
      have q := HG.out.look1 ke_int Tryd.underlying45 hzz HRD.out
      rw [HDS.out] at q
      exact q
    refine wpAnyH_ready (rs := [4]) (by kernel_rfl) (by simp) ?_
    refine AllReadyH.cons rfl (fun K hK => ?_) AllReadyH.nil
    rw [if_pos (by simp [Region.wanted])]
    refine opw_lk1 45 (.tmp 16) (.tmp 18) rfl (.map (some g)) (.int .i64 r.d) (.func (.func F) #[.pointer (some ⟨x, 0, none⟩)] #[]) (by simp [Act.eval]) (by simp [Act.eval]) HLK.out ?_
    refine hK.out _ _ (HS0.out _ HD2.out) (fun hHeld => ?_)
    clear hK K
    try simp [Act.put]
    have HM2 := hide (HM1.out.below HD2.out)
    have HK2 := hide (HK1.out.below HD2.out)
    have HB2 := hide (HB1.out.trans (HD2.out.mono HB1.out.size))
    have HZ2 : Hid (RsB (w.heap.size + 1) 0 ⟨#[]⟩ none 0 0 w2) := (HD2.out.block _ (lt_of_block HZ1.out)).trans HZ1.out
    have HR2 := hide ((HD2.out.block _ (lt_of_block HR1.out)).trans HR1.out)
    have HNE : Hid (w.heap.size ≠ b ∧ w.heap.size + 1 ≠ b) := ⟨by have := HNX.out; omega, by have := HNX.out; omega⟩
    refine wpAnyH_ready (rs := [6]) (by kernel_rfl) (by simp) ?_
    refine AllReadyH.cons rfl (fun K hK => ?_) AllReadyH.nil
    go_simp
    rw [HEN.out, Oper.upon_enter]
    refine (HFC.out _ HM2.out HK2.out).mono ?_
    rintro e w3 hP
    have HP := hide hP
    obtain ⟨a, c, L, rfl, hrest⟩ := hP.ex
    have HE := hide hrest
    have HR3 := hide (HP.out.b.keep HR2.out HNE.out.1)
    have HZ3 : Hid (RsB (w.heap.size + 1) 0 ⟨#[]⟩ none 0 0 w3) := HP.out.b.keep HZ2.out HNE.out.2
    clear hP hrest
    refine hK.out _ _ ⟨HR3.out, cell_of_block HR3.out, cell_of_block HR3.out, cell_of_block HR3.out⟩ (fun hHeld => ?_)
    clear hK K
    try simp [Act.put]
    have HR4 : Hid (((w3.setRow (w.heap.size + 1) #[.int .i64 (T.code r), .string (T.ans r), .slice a L.length c])).heap[w.heap.size]? = some (.cells #[.int .i64 r.d, .string r.k, .string r.v] 24 (0, 0))) := (setRow_other _ _ _ _ (by omega)).trans HR3.out
    refine wpAnyH_ready (rs := [7]) (by kernel_rfl) (by simp) ?_
    refine AllReadyH.cons rfl (fun K hK => ?_) AllReadyH.nil
    rw [if_pos (by simp [Region.wanted])]
    refine wp_store_row 32 (.tmp 4) (.tmp 21) rfl (w.heap.size + 1) #[.int .i64 (T.code r), .string (T.ans r), .slice a L.length c] (by simp [Act.eval]) (by simp [Act.eval, rsC]) 32 _ HZ3.out rs_info rfl (rs_one _ _ _ _ _) ?_
    refine hK.out _ _ ⟨HR4.out, cell_of_block HR4.out, cell_of_block HR4.out, cell_of_block HR4.out⟩ (fun hHeld => ?_)
    clear hK K
    try simp [Act.put]
    refine wpAnyH_done (by kernel_rfl) (NoPanic.normal ?_) _
    go_wp2_with fail
    refine bodyPost_ret (res_rs rfl _ _ (w.heap.size + 1) (T.code r) (T.ans r) a L.length c rfl (rsB_row HZ3.out)) rfl ?_
    obtain ⟨e1, e2, e3, e4, e5, e6⟩ := HE.out
    have hw2 := HB2.out.size
    have hz2 := lt_of_block HZ2.out
    have hsr : Bm (w.heap.size + 1) w3 (w3.setRow (w.heap.size + 1) #[.int .i64 (T.code r), .string (T.ans r), .slice a L.length c]) := ⟨rfl, rfl, rfl, by rw [setRow_size]; exact Nat.le_refl _, fun i _ hn => setRow_other _ _ _ _ hn⟩
    refine ⟨⟨a, c, L, rfl, e1, e2, ?_, e4, e5, fun p hp => by have := e6 p hp; omega⟩, HP.out.m.bm hsr (by have := HNX.out; omega) (fun e => HNE.out.2 e.symm), bm_row HB2.out HP.out.b (by omega) _⟩
    rcases e3 with rfl | ⟨b9, o9, rfl, q1, q2⟩
    · exact .inl rfl
    · have := e6 _ rfl
      refine .inr ⟨b9, o9, rfl, by rw [setRow_size]; exact q1, fun i s hs => ?_⟩
      rw [← q2 i s hs]
      unfold World.cell?
      rw [setRow_other _ _ _ _ (by simp only at this ⊢; omega)]
  · have HD : Hid (T.code r = rqE r ∧ T.ans r = ByteArray.empty ∧ T.next r = T ∧ KsIs T r []) := by
      refine ⟨?_, ?_, ?_, ?_⟩
      · unfold MT.code; rw [if_pos hz]
      · unfold MT.ans; rw [if_neg hz]
      · unfold MT.next; rw [if_neg hz]
      · unfold KsIs; rw [if_neg (fun q => hz q.1)]
    have g1 : (rqE r != 0) = true := by simpa using hz
    clear hz
    obtain ⟨E, hE⟩ : ∃ E, rqE r = E := ⟨_, rfl⟩
    rw [hE] at HCK HD g1
    clear hE
    go_enter Tryd.func10, Tryd.ntmps10
    go_wp2_with (first | (refine wpList_load_row rfl 24 (.tmp 3) rfl (w.heap.size) rfl 24 #[.int .i64 r.d, .string r.k, .string r.v] (0, 0) _ HR.out Tryd.underlying24 rfl rq_info ?_))
    refine (HCK.out _).mono ?_
    rintro e w1 ⟨rfl, hb⟩
    have HZ1 : Hid (RsB (w.heap.size + 1) 0 ⟨#[]⟩ none 0 0 w1) := (hb.block _ (lt_of_block HZ.out)).trans HZ.out
    have HM1 := hide (HM.out.below hb)
    have HB1 := hide (HB.out.trans (hb.mono HB.out.size))
    clear hb
    go_wp2_with (first | (refine wpList_store_row rfl 32 (.tmp 4) (.tmp 14) rfl (w.heap.size + 1) #[.int .i64 E, .string ⟨#[]⟩, .slice none 0 0] rfl rfl 32 _ HZ1.out rs_info rfl (rs_one _ _ _ _ _) ?_))
    refine bodyPost_ret (res_rs rfl _ _ (w.heap.size + 1) E ByteArray.empty none 0 0 rfl (rsB_row HZ1.out)) rfl ?_
    have hsr : Bm (w.heap.size + 1) w1 (w1.setRow (w.heap.size + 1) (rsC E ByteArray.empty none 0 0)) := ⟨rfl, rfl, rfl, by rw [setRow_size]; exact Nat.le_refl _, fun i _ hn => setRow_other _ _ _ _ hn⟩
    obtain ⟨d1, d2, d3, d4⟩ := HD.out
    refine ⟨⟨none, 0, [], by rw [d1, d2]; rfl, Nat.le_refl _, Nat.zero_le _, .inl rfl, d4, fun _ => rfl, fun p e => by cases e⟩, ?_, Bm.of_below (below_setRow HB1.out (by omega) _)⟩
    rw [d3]
    exact (HM1.out.mono (by omega)).bm hsr (by have := HNX.out; omega) (by have := HNX.out; omega)
end Go.Proofs.YtlpibpkbgmcclaaDoor
