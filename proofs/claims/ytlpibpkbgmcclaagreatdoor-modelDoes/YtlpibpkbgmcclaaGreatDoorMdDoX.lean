/- What Do of a model answers and leaves. What Do of a model answers and leaves: the walk. (Written by genmo.py.) -/
import Derived.Test.YtlpibpkbgmcclaaGreatDoorMdPut
import Derived.Test.YtlpibpkbgmcclaaGreatDoorMdStat
import Derived.Test.YtlpibpkbgmcclaaGreatDoorMdListX
import Derived.Test.YtlpibpkbgmcclaaGreatDoorMdSmallX
import Derived.Test.YtlpibpkbgmcclaaGreatDoorRqCheckX
namespace Go.Proofs.YtlpibpkbgmcclaaGreatDoor
open Go.RowKit
set_option linter.unusedVariables false
/-- what Do leaves: code c, value v, keys of a kind, what is known -/
structure DoP (T : MT) (r : Rq) (x b n : Nat) (w : World) (e : Ending) (w' : World) : Prop where
  ex : ∃ a c L, e = .returned (.agg (rsC (T.code r) (T.ans r) a L.length c)) ∧ L.length ≤ c ∧ L.length ≤ 16 ∧ StrsAt w' a L ∧ KsIs T r L ∧ (a = none → c = 0) ∧ ∀ p, a = some p → w.heap.size ≤ p.block
  m : MdAt w' x b (n + 1) (T.next r)
  b : Bm b w w'
theorem rqE_d {r : Rq} (h : rqE r = 0) : 0 ≤ r.d ∧ r.d ≤ 4 := by
  unfold rqE at h
  by_cases q : r.d < 0 ∨ 4 < r.d ∨ (r.v.size ≠ 0 ∧ r.d ≠ 0)
  · rw [if_pos q] at h; cases h
  · omega
theorem ks_nil {T : MT} {r : Rq} (h : r.d ≠ 4) : KsIs T r [] := by unfold KsIs; rw [if_neg (fun q => h q.2)]
theorem code_ok {T : MT} {r : Rq} (h : rqE r = 0) : T.code r = if r.d = 0 then (if (T r.k).isSome then 13 else 0) else if r.d = 4 then 0 else if (T.val r.k).isSome then 0 else 9 := by unfold MT.code; rw [if_neg (by simpa using h)]
theorem ans_ok {T : MT} {r : Rq} (h : rqE r = 0) : T.ans r = (match T.val r.k with | some v => if r.d = 1 then v else if r.d = 3 then stV2 v else ByteArray.empty | none => ByteArray.empty) := by unfold MT.ans; rw [if_pos h]; cases T.val r.k <;> rfl
theorem next_ok {T : MT} {r : Rq} (h : rqE r = 0) : T.next r = (if r.d = 0 ∧ T r.k = none then T.set r.k ⟨r.v, false⟩ else if r.d = 2 ∧ (T.val r.k).isSome = true then T.set r.k ⟨ByteArray.empty, true⟩ else T) := by unfold MT.next; rw [if_pos h]
theorem ans_mt {T : MT} {r : Rq} (h : rqE r = 0) (h1 : r.d ≠ 1) (h3 : r.d ≠ 3) : T.ans r = ByteArray.empty := by
  rw [ans_ok h]
  cases T.val r.k with
  | none => rfl
  | some v => simp only [if_neg h1, if_neg h3]
/-- each deed, once the request is a good one -/
theorem md_one (T : MT) (r : Rq) (x b n : Nat) (hn : n ≤ 1000000) (h0 : rqE r = 0) (hks : okS r.k) : ∃ F, dsF x r.d = some (fnV F x) ∧ (∀ xs W, (callFunc F xs).run Tryz.prog W = .ok (.enter F xs) W) ∧ ∀ W, MdAt W x b n T → KM W → Calls Tryz.prog F #[.pointer (some ⟨x, 0, none⟩), .agg (rqs r)] W (DoP T r x b n W) := by
  obtain ⟨d, k, v⟩ := r
  have hd := rqE_d h0
  have hc := code_ok (T := T) h0
  have hx := next_ok (T := T) h0
  have ha := ans_ok (T := T) h0
  have hm := fun a b => ans_mt (T := T) h0 a b
  simp only at hd hc hx ha hm hks
  have hl : ∀ m, ([] : List ByteArray).length ≤ m := fun m => Nat.zero_le _
  rcases (show d = 0 ∨ d = 1 ∨ d = 2 ∨ d = 3 ∨ d = 4 by omega) with rfl | rfl | rfl | rfl | rfl
  · have hk := rqE_key h0 (by show (0 : Int) ≠ 4; decide)
    refine ⟨29, rfl, fun _ _ => by kernel_rfl, fun W hM hK => (md_put hM hn 0 k v hk.1 hk.2).mono fun e w' h => ⟨⟨none, 0, [], ?_, Nat.le_refl _, hl _, .inl rfl, ks_nil (by show (0 : Int) ≠ 4; decide), fun _ => rfl, fun p e => by cases e⟩, ?_, h.b⟩⟩
    · rw [h.e, hc, hm (by decide) (by decide)]; rfl
    · rw [hx]
      have := h.m
      by_cases q : T k = none
      · rw [if_pos q] at this; rw [if_pos ⟨rfl, q⟩]; exact this
      · rw [if_neg q] at this; rw [if_neg (fun z => q z.2), if_neg (fun z => by cases z.1)]; exact this
  · refine ⟨30, rfl, fun _ _ => by kernel_rfl, fun W hM hK => (md_get hM 1 k v hks).mono fun e w' h => ⟨⟨none, 0, [], ?_, Nat.le_refl _, hl _, .inl rfl, ks_nil (by show (1 : Int) ≠ 4; decide), fun _ => rfl, fun p e => by cases e⟩, ?_, Bm.of_below h.b⟩⟩
    · rw [h.e, hc, ha]
      cases T.val k <;> rfl
    · rw [hx, if_neg (fun z => by cases z.1), if_neg (fun z => by cases z.1)]
      exact (hM.below h.b).mono (by omega)
  · have hk := rqE_key h0 (by show (2 : Int) ≠ 4; decide)
    refine ⟨31, rfl, fun _ _ => by kernel_rfl, fun W hM hK => (md_remove hM hn 2 k v hk.1).mono fun e w' h => ⟨⟨none, 0, [], ?_, Nat.le_refl _, hl _, .inl rfl, ks_nil (by show (2 : Int) ≠ 4; decide), fun _ => rfl, fun p e => by cases e⟩, ?_, h.b⟩⟩
    · rw [h.e, hc, hm (by decide) (by decide)]; rfl
    · rw [hx, if_neg (fun z => by cases z.1)]
      have := h.m
      by_cases q : (T.val k).isSome = true
      · rw [if_pos q] at this; rw [if_pos ⟨rfl, q⟩]; exact this
      · rw [if_neg q] at this; rw [if_neg (fun z => q z.2)]; exact this
  · refine ⟨32, rfl, fun _ _ => by kernel_rfl, fun W hM hK => (md_stat hM hK 3 k v hks).mono fun e w' h => ⟨⟨none, 0, [], ?_, Nat.le_refl _, hl _, .inl rfl, ks_nil (by show (3 : Int) ≠ 4; decide), fun _ => rfl, fun p e => by cases e⟩, ?_, Bm.of_below h.b⟩⟩
    · rw [h.e, hc, ha]
      cases T.val k <;> rfl
    · rw [hx, if_neg (fun z => by cases z.1), if_neg (fun z => by cases z.1)]
      exact (hM.below h.b).mono (by omega)
  · refine ⟨33, rfl, fun _ _ => by kernel_rfl, fun W hM hK => (md_list hM hn 4 k v).mono fun e w' h => ?_⟩
    obtain ⟨a, c, L, h1, h2, h3, h4, h5, h6⟩ := h.ex
    refine ⟨⟨a, c, L, ?_, h2, h3, h4, ?_, h6⟩, ?_, Bm.of_below h.b⟩
    · rw [h1, hc, hm (by decide) (by decide)]; rfl
    · unfold KsIs; rw [if_pos ⟨h0, rfl⟩]; exact h5
    · rw [hx, if_neg (fun z => by cases z.1), if_neg (fun z => by cases z.1)]
      exact (hM.below h.b).mono (by omega)
end Go.Proofs.YtlpibpkbgmcclaaGreatDoor
namespace Go.Proofs.YtlpibpkbgmcclaaGreatDoor
open Go.RowKit
set_option linter.unusedVariables false
theorem opw_lk1 {o : Oper} {a : Act} {w : World} {K : Act → World → Prop} {Q : Exit → Act → World → Prop} (t : TypeId) (m x : Operand) (ho : o.op = .lookup t m x false) (M X v : Value) (hm : a.eval m = M) (hx : a.eval x = X)
    (hr : (Instr.lookup t M X false).run Tryz.prog w = .ok v w) (h : K (a.put o.dst v) w) : o.wp Tryz.prog a w K Q := by
  unfold Oper.wp execOp
  simp [ho, hm, hx, hr, Result.andThen]
  exact h
set_option maxRecDepth 100000 in
set_option maxHeartbeats 16000000 in
theorem md_do_nil (r : Rq) (w : World) : Calls Tryz.prog 8 #[.pointer none, .agg (rqs r)] w (Did0 1 ByteArray.empty w) := by
  have HB := hide (mdW_B w r.d r.k r.v)
  have HZ := hide (mdW_Z w r.d r.k r.v)
  simp only [rqs]
  go_enter Tryz.func8, Tryz.ntmps8
  go_wp2_with (first | (refine wpList_store_row rfl 37 (.tmp 4) (.tmp 8) rfl (w.heap.size + 1) #[.int .i64 1, .string ⟨#[]⟩, .slice none 0 0] rfl rfl 37 _ HZ.out rs_info rfl (rs_one _ _ _ _ _) ?_))
  refine bodyPost_ret (res_rs rfl _ _ (w.heap.size + 1) 1 ByteArray.empty none 0 0 rfl (rsB_row HZ.out)) rfl ⟨rfl, below_setRow HB.out (by omega) _⟩
set_option maxRecDepth 100000 in
set_option maxHeartbeats 16000000 in
theorem md_do {w : World} {x b n : Nat} {T : MT} (h : MdAt w x b n T) (hn : n ≤ 1000000) (hK : KM w) (r : Rq) (hk : r.k.size ≤ 100000) (hv : r.v.size ≤ 100000) : Calls Tryz.prog 8 #[.pointer (some ⟨x, 0, none⟩), .agg (rqs r)] w (DoP T r x b n w) := by
  have HB := hide (mdW_B w r.d r.k r.v)
  have HZ := hide (mdW_Z w r.d r.k r.v)
  have HR := hide (mdW_R w r.d r.k r.v)
  have HCK := hide (fun W => qcheck_any r W hk hv)
  have HM := hide (h.below HB.out)
  have HKM := hide (hK.below HB.out)
  have HNX : Hid (x < w.heap.size ∧ b < w.heap.size) := ⟨h.xlt, h.blt⟩
  have HOK := hide (key_okS hk)
  simp only [rqs] at HCK ⊢
  clear h hK hk hv
  by_cases hz : rqE r = 0
  · obtain ⟨F, hF, hEn, hFc⟩ := md_one T r x b n hn hz HOK.out
    have HFC := hide hFc
    have HEN := hide hEn
    have HRD : Hid (OkI r.d) := by have := rqE_d hz; show OkI _; unfold OkI; omega
    simp only [rqs] at HFC
    rw [hz] at HCK
    have HDS := hide hF
    clear hFc hF hz hEn
    go_enter Tryz.func8, Tryz.ntmps8
    go_wp2_with (first | (refine wpList_load_row rfl 32 (.tmp 3) rfl (w.heap.size) rfl 32 #[.int .i64 r.d, .string r.k, .string r.v] (0, 0) _ HR.out Tryz.underlying32 rfl rq_info ?_))
    refine (HCK.out _).mono ?_
    rintro e w1 ⟨rfl, hb⟩
    have HZ1 : Hid (RsB (w.heap.size + 1) 0 ⟨#[]⟩ none 0 0 w1) := (hb.block _ (lt_of_block HZ.out)).trans HZ.out
    have HR1 : Hid (w1.heap[w.heap.size]? = some (.cells #[.int .i64 r.d, .string r.k, .string r.v] 32 (0, 0))) := (hb.block _ (lt_of_block HR.out)).trans HR.out
    have HM1 := hide (HM.out.below hb)
    have HK1 := hide (HKM.out.below hb)
    have HB1 := hide (HB.out.trans (hb.mono HB.out.size))
    clear hb
    go_upto_region 6 with fail
    have HS0 : Hid (∀ W, Below w1.heap.size w1 W → W.heap[w.heap.size]? = some (.cells #[.int .i64 r.d, .string r.k, .string r.v] 32 (0, 0)) ∧ W.cell? ⟨w.heap.size, 0, none⟩ = some (.int .i64 r.d) ∧ W.cell? ⟨w.heap.size, 1, none⟩ = some (.string r.k) ∧ W.cell? ⟨w.heap.size, 2, none⟩ = some (.string r.v)) := fun W hb => by have q := (hb.block _ (lt_of_block HR1.out)).trans HR1.out; exact ⟨q, cell_of_block q, cell_of_block q, cell_of_block q⟩
    have HD0 := hide (drew_below w1)
    refine wp_region_noPanic ?_
    refine wp_region_held_drew (S := fun w' => w'.heap[w.heap.size]? = some (.cells #[.int .i64 r.d, .string r.k, .string r.v] 32 (0, 0)) ∧ w'.cell? ⟨w.heap.size, 0, none⟩ = some (.int .i64 r.d) ∧ w'.cell? ⟨w.heap.size, 1, none⟩ = some (.string r.k) ∧ w'.cell? ⟨w.heap.size, 2, none⟩ = some (.string r.v)) (by kernel_rfl) (HS0.out _ HD0.out) (fun hHeld => ?_)
    refine wpAnyH_take (i := 0) (v := ?v1) rfl (by kernel_rfl) (by kernel_rfl) (by kernel_rfl) (fun _ _ _ h => h) (Or.inl ⟨by rfl, ?hy1⟩) hHeld ?rest1
    case hy1 => (intro w' hSw; obtain ⟨s3, s0, s1, s2⟩ := hSw; go_simp; try with_reducible rfl)
    try simp [Act.put]
    refine wpAnyH_take (i := 2) (v := ?v2) rfl (by kernel_rfl) (by kernel_rfl) (by kernel_rfl) (fun _ _ _ h => h) (Or.inl ⟨by rfl, ?hy2⟩) hHeld ?rest2
    case hy2 => (intro w' hSw; obtain ⟨s3, s0, s1, s2⟩ := hSw; go_simp; try with_reducible rfl)
    try simp [Act.put]
    refine wpAnyH_take (i := 3) (v := ?v3) rfl (by kernel_rfl) (by kernel_rfl) (by kernel_rfl) (fun _ _ _ h => h) (Or.inl ⟨by rfl, ?hy3⟩) hHeld ?rest3
    case hy3 => (intro w' hSw; obtain ⟨s3, s0, s1, s2⟩ := hSw; go_simp; try with_reducible rfl)
    try simp [Act.put]
    refine wpAnyH_take (i := 5) (v := ?v4) rfl (by kernel_rfl) (by kernel_rfl) (by kernel_rfl) (fun _ _ _ h => h) (Or.inl ⟨by rfl, ?hy4⟩) hHeld ?rest4
    case hy4 => (intro w' hSw; obtain ⟨s3, s0, s1, s2⟩ := hSw; go_simp; try with_reducible rfl)
    try simp [Act.put]
    refine wpAnyH_ready (rs := [1]) (by kernel_rfl) (by simp) ?_
    refine AllReadyH.cons rfl (fun K hK => ?_) AllReadyH.nil
    go_simp
    refine (md_deeds x _).mono ?_
    rintro e w2 ⟨g, rfl, hg, hb⟩
    have HD2 := hide (HD0.out.trans (hb.mono HD0.out.size))
    have HG := hide hg
    clear hb hg
    refine hK.out _ _ (HS0.out _ HD2.out) (fun hHeld => ?_)
    clear hK K
    try simp [Act.put]
    have HLK : Hid ((Instr.lookup 47 (.map (some g)) (.int .i64 r.d) false).run Tryz.prog w2 = .ok (.func (.func F) #[.pointer (some ⟨x, 0, none⟩)] #[]) w2) := by
      obtain ⟨z, hzz⟩ : ∃ z, (zeroValue 38).run Tryz.prog w2 = .ok z w2 := ⟨_, rfl⟩
      have q := HG.out.look1 ke_int Tryz.underlying47 hzz HRD.out
      rw [HDS.out] at q
      exact q
    refine wpAnyH_ready (rs := [4]) (by kernel_rfl) (by simp) ?_
    refine AllReadyH.cons rfl (fun K hK => ?_) AllReadyH.nil
    rw [if_pos (by simp [Region.wanted])]
    refine opw_lk1 47 (.tmp 16) (.tmp 18) rfl (.map (some g)) (.int .i64 r.d) (.func (.func F) #[.pointer (some ⟨x, 0, none⟩)] #[]) (by simp [Act.eval]) (by simp [Act.eval]) HLK.out ?_
    refine hK.out _ _ (HS0.out _ HD2.out) (fun hHeld => ?_)
    clear hK K
    try simp [Act.put]
    have HM2 := hide (HM1.out.below HD2.out)
    have HK2 := hide (HK1.out.below HD2.out)
    have HB2 := hide (HB1.out.trans (HD2.out.mono HB1.out.size))
    have HZ2 : Hid (RsB (w.heap.size + 1) 0 ⟨#[]⟩ none 0 0 w2) := (HD2.out.block _ (lt_of_block HZ1.out)).trans HZ1.out
    have HR2 := hide ((HD2.out.block _ (lt_of_block HR1.out)).trans HR1.out)
    have HNE : Hid (w.heap.size ≠ b ∧ w.heap.size + 1 ≠ b) := ⟨by have := HNX.out; omega, by have := HNX.out; omega⟩
    refine wpAnyH_ready (rs := [6]) (by kernel_rfl) (by simp) ?_
    refine AllReadyH.cons rfl (fun K hK => ?_) AllReadyH.nil
    go_simp
    rw [HEN.out, Oper.upon_enter]
    refine (HFC.out _ HM2.out HK2.out).mono ?_
    rintro e w3 hP
    have HP := hide hP
    obtain ⟨a, c, L, rfl, hrest⟩ := hP.ex
    have HE := hide hrest
    have HR3 := hide (HP.out.b.keep HR2.out HNE.out.1)
    have HZ3 : Hid (RsB (w.heap.size + 1) 0 ⟨#[]⟩ none 0 0 w3) := HP.out.b.keep HZ2.out HNE.out.2
    clear hP hrest
    refine hK.out _ _ ⟨HR3.out, cell_of_block HR3.out, cell_of_block HR3.out, cell_of_block HR3.out⟩ (fun hHeld => ?_)
    clear hK K
    try simp [Act.put]
    have HR4 : Hid (((w3.setRow (w.heap.size + 1) #[.int .i64 (T.code r), .string (T.ans r), .slice a L.length c])).heap[w.heap.size]? = some (.cells #[.int .i64 r.d, .string r.k, .string r.v] 32 (0, 0))) := (setRow_other _ _ _ _ (by omega)).trans HR3.out
    refine wpAnyH_ready (rs := [7]) (by kernel_rfl) (by simp) ?_
    refine AllReadyH.cons rfl (fun K hK => ?_) AllReadyH.nil
    rw [if_pos (by simp [Region.wanted])]
    refine wp_store_row 37 (.tmp 4) (.tmp 21) rfl (w.heap.size + 1) #[.int .i64 (T.code r), .string (T.ans r), .slice a L.length c] (by simp [Act.eval]) (by simp [Act.eval, rsC]) 37 _ HZ3.out rs_info rfl (rs_one _ _ _ _ _) ?_
    refine hK.out _ _ ⟨HR4.out, cell_of_block HR4.out, cell_of_block HR4.out, cell_of_block HR4.out⟩ (fun hHeld => ?_)
    clear hK K
    try simp [Act.put]
    refine wpAnyH_done (by kernel_rfl) (NoPanic.normal ?_) _
    go_wp2_with fail
    refine bodyPost_ret (res_rs rfl _ _ (w.heap.size + 1) (T.code r) (T.ans r) a L.length c rfl (rsB_row HZ3.out)) rfl ?_
    obtain ⟨e1, e2, e3, e4, e5, e6⟩ := HE.out
    have hw2 := HB2.out.size
    have hz2 := lt_of_block HZ2.out
    have hsr : Bm (w.heap.size + 1) w3 (w3.setRow (w.heap.size + 1) #[.int .i64 (T.code r), .string (T.ans r), .slice a L.length c]) := ⟨rfl, rfl, rfl, by rw [setRow_size]; exact Nat.le_refl _, fun i _ hn => setRow_other _ _ _ _ hn⟩
    refine ⟨⟨a, c, L, rfl, e1, e2, ?_, e4, e5, fun p hp => by have := e6 p hp; omega⟩, HP.out.m.bm hsr (by have := HNX.out; omega) (fun e => HNE.out.2 e.symm), bm_row HB2.out HP.out.b (by omega) _⟩
    rcases e3 with rfl | ⟨b9, o9, rfl, q1, q2⟩
    · exact .inl rfl
    · have := e6 _ rfl
      refine .inr ⟨b9, o9, rfl, by rw [setRow_size]; exact q1, fun i s hs => ?_⟩
      rw [← q2 i s hs]
      unfold World.cell?
      rw [setRow_other _ _ _ _ (by simp only at this ⊢; omega)]
  · have HD : Hid (T.code r = rqE r ∧ T.ans r = ByteArray.empty ∧ T.next r = T ∧ KsIs T r []) := by
      refine ⟨?_, ?_, ?_, ?_⟩
      · unfold MT.code; rw [if_pos hz]
      · unfold MT.ans; rw [if_neg hz]
      · unfold MT.next; rw [if_neg hz]
      · unfold KsIs; rw [if_neg (fun q => hz q.1)]
    have g1 : (rqE r != 0) = true := by simpa using hz
    clear hz
    obtain ⟨E, hE⟩ : ∃ E, rqE r = E := ⟨_, rfl⟩
    rw [hE] at HCK HD g1
    clear hE
    go_enter Tryz.func8, Tryz.ntmps8
    go_wp2_with (first | (refine wpList_load_row rfl 32 (.tmp 3) rfl (w.heap.size) rfl 32 #[.int .i64 r.d, .string r.k, .string r.v] (0, 0) _ HR.out Tryz.underlying32 rfl rq_info ?_))
    refine (HCK.out _).mono ?_
    rintro e w1 ⟨rfl, hb⟩
    have HZ1 : Hid (RsB (w.heap.size + 1) 0 ⟨#[]⟩ none 0 0 w1) := (hb.block _ (lt_of_block HZ.out)).trans HZ.out
    have HM1 := hide (HM.out.below hb)
    have HB1 := hide (HB.out.trans (hb.mono HB.out.size))
    clear hb
    go_wp2_with (first | (refine wpList_store_row rfl 37 (.tmp 4) (.tmp 14) rfl (w.heap.size + 1) #[.int .i64 E, .string ⟨#[]⟩, .slice none 0 0] rfl rfl 37 _ HZ1.out rs_info rfl (rs_one _ _ _ _ _) ?_))
    refine bodyPost_ret (res_rs rfl _ _ (w.heap.size + 1) E ByteArray.empty none 0 0 rfl (rsB_row HZ1.out)) rfl ?_
    have hsr : Bm (w.heap.size + 1) w1 (w1.setRow (w.heap.size + 1) (rsC E ByteArray.empty none 0 0)) := ⟨rfl, rfl, rfl, by rw [setRow_size]; exact Nat.le_refl _, fun i _ hn => setRow_other _ _ _ _ hn⟩
    obtain ⟨d1, d2, d3, d4⟩ := HD.out
    refine ⟨⟨none, 0, [], by rw [d1, d2]; rfl, Nat.le_refl _, Nat.zero_le _, .inl rfl, d4, fun _ => rfl, fun p e => by cases e⟩, ?_, Bm.of_below (below_setRow HB1.out (by omega) _)⟩
    rw [d3]
    exact (HM1.out.mono (by omega)).bm hsr (by have := HNX.out; omega) (by have := HNX.out; omega)
end Go.Proofs.YtlpibpkbgmcclaaGreatDoor
