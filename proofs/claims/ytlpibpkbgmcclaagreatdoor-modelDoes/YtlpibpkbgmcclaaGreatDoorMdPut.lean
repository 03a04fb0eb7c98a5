/- What put and remove of a model answer and leave. (Written by genmp.py.) -/
import Derived.Test.YtlpibpkbgmcclaaGreatDoorMdMemX
import Derived.Deep.RegionHeld3
namespace Go.Proofs.YtlpibpkbgmcclaaGreatDoor
open Go.RowKit
set_option linter.unusedVariables false
theorem opw_mupd {o : Oper} {a : Act} {w w1 : World} {K : Act → World → Prop} {Q : Exit → Act → World → Prop} (t : TypeId) (m s x : Operand) (ho : o.op = .mapUpdate t m s x) (M S X : Value) (hm : a.eval m = M) (hs : a.eval s = S) (hx : a.eval x = X)
    (hr : (Instr.mapUpdate t M S X).run Tryz.prog w = .ok () w1) (h : K (a.put o.dst undef) w1) : o.wp Tryz.prog a w K Q := by
  unfold Oper.wp execOp
  simp [ho, hm, hs, hx, hr, Result.andThen]
  exact h
theorem bm_row {b g : Nat} {w w1 w6 : World} (h1 : Below w.heap.size w w1) (h6 : Bm b w1 w6) (hg : w.heap.size ≤ g) (cs : Array Value) : Bm b w (w6.setRow g cs) :=
  ⟨h6.os.trans h1.os, h6.tape.trans h1.tape, h6.output.trans h1.output, by rw [setRow_size]; exact Nat.le_trans h1.size h6.size, fun i hi hn => (setRow_other _ _ _ _ (by omega)).trans ((h6.blk i (by have := h1.size; omega) hn).trans (h1.block i hi))⟩
/-- what a method leaves that changes the map -/
structure Did1 (c : Int) (x b n : Nat) (T : MT) (w : World) (e : Ending) (w' : World) : Prop where
  e : e = .returned (.agg (rsC c ByteArray.empty none 0 0))
  m : MdAt w' x b n T
  b : Bm b w w'
set_option maxRecDepth 100000 in
set_option maxHeartbeats 16000000 in
theorem md_remove {w : World} {x b n : Nat} {T : MT} (h : MdAt w x b n T) (hn : n ≤ 1000000) (d : Int) (k v : ByteArray) (hk : keyOk k) : Calls Tryz.prog 31 #[.pointer (some ⟨x, 0, none⟩), .agg #[.int .i64 d, .string k, .string v]] w (Did1 (if (T.val k).isSome then 0 else 9) x b (n + 1) (if (T.val k).isSome = true then T.set k ⟨ByteArray.empty, true⟩ else T) w) := by
  have HB := hide (mdW_B w d k v)
  have HZ := hide (mdW_Z w d k v)
  have HR := hide (mdW_R w d k v)
  have hok : okS k := key_okS (by have := hk.2.1; omega)
  have HOK := hide hok
  have HM := hide (h.below HB.out)
  have HNZ : Hid (w.heap.size + 1 ≠ b) := fun e => by have := h.blt; omega
  have HNR : Hid (w.heap.size ≠ b) := fun e => by have := h.blt; omega
  have HKO : Hid (keyOk k ∧ True) := ⟨hk, trivial⟩
  have HV := hide (md_value (h.below HB.out) k hok)
  have HNX : Hid (x < w.heap.size) := h.xlt
  clear h hk hok
  cases hv : T.val k with
  | none =>
    rw [hv] at HV
    simp only [vlV] at HV
    clear hv
    go_enter Tryz.func31, Tryz.ntmps31
    go_wp2_with fail
    refine HV.out.mono ?_
    rintro e w1 ⟨rfl, hb⟩
    have HZ1 : Hid (RsB (w.heap.size + 1) 0 ⟨#[]⟩ none 0 0 w1) := (hb.block _ (lt_of_block HZ.out)).trans HZ.out
    have HM1 := hide (HM.out.below hb)
    have HB1 := hide (HB.out.trans (hb.mono HB.out.size))
    clear hb
    go_wp2_with (first | (refine wpList_store_row rfl 37 (.tmp 4) (.tmp 17) rfl (w.heap.size + 1) #[.int .i64 9, .string ⟨#[]⟩, .slice none 0 0] rfl rfl 37 _ HZ1.out rs_info rfl (rs_one _ _ _ _ _) ?_))
    refine bodyPost_ret (res_rs rfl _ _ (w.heap.size + 1) 9 ByteArray.empty none 0 0 rfl (rsB_row HZ1.out)) rfl ⟨rfl, ?_, Bm.of_below (below_setRow HB1.out (by omega) _)⟩
    exact (HM1.out.mono (by omega)).bm (c := w.heap.size + 1) ⟨rfl, rfl, rfl, by rw [setRow_size]; exact Nat.le_refl _, fun i _ hn => setRow_other _ _ _ _ hn⟩ (by have := HNX.out; omega) (fun e => HNZ.out e.symm)
  | some y =>
    rw [hv] at HV
    simp only [vlV] at HV
    clear hv
    go_enter Tryz.func31, Tryz.ntmps31
    go_wp2_with fail
    refine HV.out.mono ?_
    rintro e w1 ⟨rfl, hb⟩
    have HZ1 : Hid (RsB (w.heap.size + 1) 0 ⟨#[]⟩ none 0 0 w1) := (hb.block _ (lt_of_block HZ.out)).trans HZ.out
    have HR1 : Hid (w1.heap[w.heap.size]? = some (.cells #[.int .i64 d, .string k, .string v] 32 (0, 0))) := (hb.block _ (lt_of_block HR.out)).trans HR.out
    have HM1 := hide (HM.out.below hb)
    have HB1 := hide (HB.out.trans (hb.mono HB.out.size))
    clear hb
    obtain ⟨w6, hr6, hm6, ht6⟩ := (HM1.out.m.below (drew_below w1)).put ke_str Tryz.underlying42 (by unfold maxLen; omega) HOK.out (hdV ⟨ByteArray.empty, true⟩)
    simp only [hdV, kStr, ByteArray.empty, ByteArray.emptyWithCapacity] at hr6
    have cx := HM1.out.c0
    have hqn := fun W => run_eql_map_nil (P := Tryz.prog) W 42 9 65 (some b) Tryz.underlying42
    obtain ⟨hm7, hb7⟩ := (HM1.out.below (drew_below w1)).turned HKO.out.1 (y := ⟨ByteArray.empty, true⟩) (by show 0 ≤ _; omega) ht6 hm6
    have HM6 := hide hm7
    have HB6 : Hid (Bm b w1 w6) := (Bm.of_below (drew_below w1)).trans hb7
    have HZ6 : Hid (RsB (w.heap.size + 1) 0 ⟨#[]⟩ none 0 0 w6) := HB6.out.keep HZ1.out HNZ.out
    have HR6 : Hid (w6.heap[w.heap.size]? = some (.cells #[.int .i64 d, .string k, .string v] 32 (0, 0))) := HB6.out.keep HR1.out HNR.out
    have HU6 := hide hr6
    have HS0 : Hid (w1.drew.cell? ⟨x, 0, none⟩ = some (.map (some b)) ∧ w1.drew.cell? ⟨w.heap.size, 1, none⟩ = some (.string k) ∧ w1.drew.cell? ⟨w.heap.size, 2, none⟩ = some (.string v)) := ⟨HM1.out.c0, cell_of_block HR1.out, cell_of_block HR1.out⟩
    have HS6 : Hid (w6.cell? ⟨x, 0, none⟩ = some (.map (some b)) ∧ w6.cell? ⟨w.heap.size, 1, none⟩ = some (.string k) ∧ w6.cell? ⟨w.heap.size, 2, none⟩ = some (.string v)) := ⟨HM6.out.c0, cell_of_block HR6.out, cell_of_block HR6.out⟩
    clear hr6 hm6 ht6 hm7 hb7
    go_upto_region 4 with fail
    refine wp_region_noPanic ?_
    refine wp_region_held_drew (S := fun w' => w'.cell? ⟨x, 0, none⟩ = some (.map (some b)) ∧ w'.cell? ⟨w.heap.size, 1, none⟩ = some (.string k) ∧ w'.cell? ⟨w.heap.size, 2, none⟩ = some (.string v)) (by kernel_rfl) HS0.out (fun hHeld => ?_)
    refine wpAnyH_take (i := 0) (v := ?v100) rfl (by kernel_rfl) (by kernel_rfl) (by kernel_rfl) (fun _ _ _ h => h) (Or.inl ⟨by rfl, ?hy100⟩) hHeld ?rest100
    case hy100 => (intro w' hSw; obtain ⟨s0, s1, s2⟩ := hSw; go_simp; try with_reducible rfl)
    try simp [Act.put]
    refine wpAnyH_take (i := 1) (v := ?v101) rfl (by kernel_rfl) (by kernel_rfl) (by kernel_rfl) (fun _ _ _ h => h) (Or.inl ⟨by rfl, ?hy101⟩) hHeld ?rest101
    case hy101 => (intro w' hSw; obtain ⟨s0, s1, s2⟩ := hSw; go_simp; try with_reducible rfl)
    try simp [Act.put]
    refine wpAnyH_take (i := 2) (v := ?v102) rfl (by kernel_rfl) (by kernel_rfl) (by kernel_rfl) (fun _ _ _ h => h) (Or.inl ⟨by rfl, ?hy102⟩) hHeld ?rest102
    case hy102 => (intro w' hSw; obtain ⟨s0, s1, s2⟩ := hSw; go_simp; try with_reducible rfl)
    try simp [Act.put]
    refine wpAnyH_take (i := 3) (v := ?v103) rfl (by kernel_rfl) (by kernel_rfl) (by kernel_rfl) (fun _ _ _ h => h) (Or.inl ⟨by rfl, ?hy103⟩) hHeld ?rest103
    case hy103 => (intro w' hSw; obtain ⟨s0, s1, s2⟩ := hSw; go_simp; try with_reducible rfl)
    try simp [Act.put]
    refine wpAnyH_take (i := 4) (v := ?v104) rfl (by kernel_rfl) (by kernel_rfl) (by kernel_rfl) (fun _ _ _ h => h) (Or.inl ⟨by rfl, ?hy104⟩) hHeld ?rest104
    case hy104 => (intro w' hSw; obtain ⟨s0, s1, s2⟩ := hSw; go_simp; try with_reducible rfl)
    try simp [Act.put]
    refine wpAnyH_take (i := 5) (v := ?v105) rfl (by kernel_rfl) (by kernel_rfl) (by kernel_rfl) (fun _ _ _ h => h) (Or.inl ⟨by rfl, ?hy105⟩) hHeld ?rest105
    case hy105 => (intro w' hSw; obtain ⟨s0, s1, s2⟩ := hSw; go_simp; try with_reducible rfl)
    try simp [Act.put]
    refine wpAnyH_take (i := 6) (v := ?v106) rfl (by kernel_rfl) (by kernel_rfl) (by kernel_rfl) (fun _ _ _ h => h) (Or.inl ⟨by rfl, ?hy106⟩) hHeld ?rest106
    case hy106 => (intro w' hSw; obtain ⟨s0, s1, s2⟩ := hSw; go_simp; try with_reducible rfl)
    try simp [Act.put]
    refine wpAnyH_ready (rs := [7]) (by kernel_rfl) (by simp) ?_
    refine AllReadyH.cons rfl (fun K hK => ?_) AllReadyH.nil
    rw [if_pos (by simp [Region.wanted])]
    refine opw_mupd 42 (.tmp 21) (.tmp 23) (.tmp 24) rfl (.map (some b)) (.string k) _ (by simp [Act.eval]) (by simp [Act.eval]) (by simp [Act.eval]; try rfl) HU6.out ?_
    refine hK.out _ _ HS6.out (fun hHeld => ?_)
    clear hK K
    try simp [Act.put]
    refine wpAnyH_done (by kernel_rfl) (NoPanic.normal ?_) _
    go_wp2_with (first | (refine wpList_store_row rfl 37 (.tmp 4) (.tmp 25) rfl (w.heap.size + 1) #[.int .i64 0, .string ⟨#[]⟩, .slice none 0 0] rfl rfl 37 _ HZ6.out rs_info rfl (rs_one _ _ _ _ _) ?_))
    refine bodyPost_ret (res_rs rfl _ _ (w.heap.size + 1) 0 ByteArray.empty none 0 0 rfl (rsB_row HZ6.out)) rfl ⟨rfl, ?_, ?_⟩
    · exact HM6.out.bm (c := w.heap.size + 1) ⟨rfl, rfl, rfl, by rw [setRow_size]; exact Nat.le_refl _, fun i _ hn => setRow_other _ _ _ _ hn⟩ (by have := HNX.out; omega) (fun e => HNZ.out e.symm)
    · exact bm_row HB1.out HB6.out (by omega) _
set_option maxRecDepth 100000 in
set_option maxHeartbeats 16000000 in
theorem md_put {w : World} {x b n : Nat} {T : MT} (h : MdAt w x b n T) (hn : n ≤ 1000000) (d : Int) (k v : ByteArray) (hk : keyOk k) (hv4 : v.size ≤ 400) : Calls Tryz.prog 29 #[.pointer (some ⟨x, 0, none⟩), .agg #[.int .i64 d, .string k, .string v]] w (Did1 (if (T k).isSome then 13 else 0) x b (n + 1) (if T k = none then T.set k ⟨v, false⟩ else T) w) := by
  have HB := hide (mdW_B w d k v)
  have HZ := hide (mdW_Z w d k v)
  have HR := hide (mdW_R w d k v)
  have hok : okS k := key_okS (by have := hk.2.1; omega)
  have HOK := hide hok
  have HNX : Hid (x < w.heap.size) := h.xlt
  have HM := hide (h.below HB.out)
  have HNZ : Hid (w.heap.size + 1 ≠ b) := fun e => by have := h.blt; omega
  have HNR : Hid (w.heap.size ≠ b) := fun e => by have := h.blt; omega
  have HKO : Hid (keyOk k ∧ v.size ≤ 400) := ⟨hk, hv4⟩
  obtain ⟨y, hy⟩ : ∃ y, (T k).getD hd0 = y := ⟨_, rfl⟩
  have HG : Hid (((T k).map hdV).getD (.agg #[.string ByteArray.empty, .bool false]) = hdV y) := by show _ = _; rw [hd_get, hy]
  have HS : Hid (((T k).map hdV).isSome = (T k).isSome) := hd_some _
  obtain ⟨yv, yg⟩ := y
  simp only [hdV] at HG
  have HLK : Hid (∀ W, Below (mdW w d k v).heap.size (mdW w d k v) W → (Instr.lookup 42 (.map (some b)) (.string k) true).run Tryz.prog W = .ok (.tuple #[.agg #[.string yv, .bool yg], .bool (T k).isSome]) W) := fun W hb => by
    have := (HM.out.below hb).m.look ke_str Tryz.underlying42 (hd_zero W) hok
    rw [HG.out, HS.out] at this
    exact this
  clear h hk hok hv4 hy
  cases hT : T k with
  | some y9 =>
    rw [hT] at HLK HS HG
    simp only [Option.isSome_some] at HLK
    have HS0 : Hid (∀ W, Below (mdW w d k v).heap.size (mdW w d k v) W → W.cell? ⟨x, 0, none⟩ = some (.map (some b)) ∧ W.cell? ⟨w.heap.size, 1, none⟩ = some (.string k) ∧ (Instr.lookup 42 (.map (some b)) (.string k) true).run Tryz.prog W = .ok (.tuple #[.agg #[.string yv, .bool yg], .bool true]) W) := fun W hb => ⟨(HM.out.below hb).c0, cell_of_block ((hb.block _ (lt_of_block HR.out)).trans HR.out), HLK.out W hb⟩
    have HD0 := hide (drew_below (mdW w d k v))
    go_enter Tryz.func29, Tryz.ntmps29
    go_upto_region 1 with fail
    rw [show (w.alloc (.cells #[.int .i64 d, .string k, .string v] 32)).alloc (.cells #[.int .i64 0, .string ⟨#[]⟩, .slice none 0 0] 37) = mdW w d k v from rfl]
    generalize hWE : mdW w d k v = W0 at *
    clear hWE
    refine wp_region_noPanic ?_
    refine wp_region_held_drew (S := fun w' => w'.cell? ⟨x, 0, none⟩ = some (.map (some b)) ∧ w'.cell? ⟨w.heap.size, 1, none⟩ = some (.string k) ∧ (Instr.lookup 42 (.map (some b)) (.string k) true).run Tryz.prog w' = .ok (.tuple #[.agg #[.string yv, .bool yg], .bool true]) w') (by kernel_rfl) (HS0.out _ HD0.out) (fun hHeld => ?_)
    refine wpAnyH_take (i := 0) (v := ?v1) rfl (by kernel_rfl) (by kernel_rfl) (by kernel_rfl) (fun _ _ _ h => h) (Or.inl ⟨by rfl, ?hy1⟩) hHeld ?rest1
    case hy1 => (intro w' hSw; obtain ⟨s0, s1, s2⟩ := hSw; go_simp; try with_reducible rfl)
    try simp [Act.put]
    refine wpAnyH_take (i := 1) (v := ?v2) rfl (by kernel_rfl) (by kernel_rfl) (by kernel_rfl) (fun _ _ _ h => h) (Or.inl ⟨by rfl, ?hy2⟩) hHeld ?rest2
    case hy2 => (intro w' hSw; obtain ⟨s0, s1, s2⟩ := hSw; go_simp; try with_reducible rfl)
    try simp [Act.put]
    refine wpAnyH_take (i := 2) (v := ?v3) rfl (by kernel_rfl) (by kernel_rfl) (by kernel_rfl) (fun _ _ _ h => h) (Or.inl ⟨by rfl, ?hy3⟩) hHeld ?rest3
    case hy3 => (intro w' hSw; obtain ⟨s0, s1, s2⟩ := hSw; go_simp; try with_reducible rfl)
    try simp [Act.put]
    refine wpAnyH_take (i := 3) (v := ?v4) rfl (by kernel_rfl) (by kernel_rfl) (by kernel_rfl) (fun _ _ _ h => h) (Or.inl ⟨by rfl, ?hy4⟩) hHeld ?rest4
    case hy4 => (intro w' hSw; obtain ⟨s0, s1, s2⟩ := hSw; go_simp; try with_reducible rfl)
    try simp [Act.put]
    refine wpAnyH_take (i := 4) (v := ?v5) rfl (by kernel_rfl) (by kernel_rfl) (by kernel_rfl) (fun _ _ _ h => h) (Or.inl ⟨by rfl, ?hy5⟩) hHeld ?rest5
    case hy5 => (intro w' hSw; obtain ⟨s0, s1, s2⟩ := hSw; go_simp; try with_reducible rfl)
    try simp [Act.put]
    refine wpAnyH_take (i := 5) (v := ?v6) rfl (by kernel_rfl) (by kernel_rfl) (by kernel_rfl) (fun _ _ _ h => h) (Or.inl ⟨by rfl, ?hy6⟩) hHeld ?rest6
    case hy6 => (intro w' hSw; obtain ⟨s0, s1, s2⟩ := hSw; go_simp; try with_reducible rfl)
    try simp [Act.put]
    refine wpAnyH_take (i := 6) (v := ?v7) rfl (by kernel_rfl) (by kernel_rfl) (by kernel_rfl) (fun _ _ _ h => h) (Or.inl ⟨by rfl, ?hy7⟩) hHeld ?rest7
    case hy7 => (intro w' hSw; obtain ⟨s0, s1, s2⟩ := hSw; go_simp; try with_reducible rfl)
    try simp [Act.put]
    refine wpAnyH_take (i := 7) (v := ?v8) rfl (by kernel_rfl) (by kernel_rfl) (by kernel_rfl) (fun _ _ _ h => h) (Or.inl ⟨by rfl, ?hy8⟩) hHeld ?rest8
    case hy8 => (intro w' hSw; obtain ⟨s0, s1, s2⟩ := hSw; go_simp; try with_reducible rfl)
    try simp [Act.put]
    refine wpAnyH_take (i := 8) (v := ?v9) rfl (by kernel_rfl) (by kernel_rfl) (by kernel_rfl) (fun _ _ _ h => h) (Or.inl ⟨by rfl, ?hy9⟩) hHeld ?rest9
    case hy9 => (intro w' hSw; obtain ⟨s0, s1, s2⟩ := hSw; go_simp; try with_reducible rfl)
    try simp [Act.put]
    refine wpAnyH_take (i := 9) (v := ?v10) rfl (by kernel_rfl) (by kernel_rfl) (by kernel_rfl) (fun _ _ _ h => h) (Or.inl ⟨by rfl, ?hy10⟩) hHeld ?rest10
    case hy10 => (intro w' hSw; obtain ⟨s0, s1, s2⟩ := hSw; go_simp; try with_reducible rfl)
    try simp [Act.put]
    have HD1 : Hid (Below W0.heap.size W0 (W0.alloc (.cells #[.string ⟨#[]⟩, .bool false] 65)).drew) := ((Below.refl _ _).alloc (Nat.le_refl _) _).drew
    refine wpAnyH_ready (rs := [10]) (by kernel_rfl) (by simp) ?_
    refine AllReadyH.cons rfl (fun K hK => ?_) AllReadyH.nil
    go_simp
    refine hK.out _ _ (HS0.out _ HD1.out) (fun hHeld => ?_)
    clear hK K
    try simp [Act.put]
    have HD2 : Hid (Below W0.heap.size W0 ((W0.alloc (.cells #[.string ⟨#[]⟩, .bool false] 65)).drew.setRow W0.heap.size #[.string yv, .bool yg])) := below_setRow HD1.out (Nat.le_refl _) _
    refine wpAnyH_ready (rs := [11]) (by kernel_rfl) (by simp) ?_
    refine AllReadyH.cons rfl (fun K hK => ?_) AllReadyH.nil
    rw [if_pos (by simp [Region.wanted])]
    refine wp_store_row 65 (.tmp 5) (.tmp 15) rfl (W0.heap.size) #[.string yv, .bool yg] (by simp [Act.eval]) (by simp [Act.eval]) 65 _ (show (W0.alloc _).drew.heap[W0.heap.size]? = some _ from heap_alloc_new W0 _) hd_info rfl (hd_one _ _) ?_
    refine hK.out _ _ (HS0.out _ HD2.out) (fun hHeld => ?_)
    clear hK K
    try simp [Act.put]
    refine wpAnyH_take (i := 12) (v := ?v40) rfl (by kernel_rfl) (by kernel_rfl) (by kernel_rfl) (fun _ _ _ h => h) (Or.inl ⟨by rfl, ?hy40⟩) hHeld ?rest40
    case hy40 => (intro w' hSw; skip; go_simp; try with_reducible rfl)
    try simp [Act.put]
    refine wpAnyH_done (by kernel_rfl) (NoPanic.normal ?_) _
    have HM1 := hide (HM.out.below HD2.out)
    have HB1 : Hid (Below w.heap.size w _) := HB.out.trans (HD2.out.mono HB.out.size)
    have HZ1 : Hid (RsB (w.heap.size + 1) 0 ⟨#[]⟩ none 0 0 _) := (HD2.out.block _ (lt_of_block HZ.out)).trans HZ.out
    have HR1 := hide ((HD2.out.block _ (lt_of_block HR.out)).trans HR.out)
    generalize hW1 : (W0.alloc (.cells #[.string ⟨#[]⟩, .bool false] 65)).drew.setRow W0.heap.size #[.string yv, .bool yg] = w1 at *
    clear HS0 HLK HD0 HD1 HD2
    go_wp2_with (first | (refine wpList_store_row rfl 37 (.tmp 4) (.tmp 18) rfl (w.heap.size + 1) #[.int .i64 13, .string ⟨#[]⟩, .slice none 0 0] rfl rfl 37 _ HZ1.out rs_info rfl (rs_one _ _ _ _ _) ?_))
    refine bodyPost_ret (res_rs rfl _ _ (w.heap.size + 1) 13 ByteArray.empty none 0 0 rfl (rsB_row HZ1.out)) rfl ⟨rfl, ?_, bm_row HB1.out (Bm.refl _ _) (by omega) _⟩
    exact (HM1.out.mono (by omega)).bm (c := w.heap.size + 1) ⟨rfl, rfl, rfl, by rw [setRow_size]; exact Nat.le_refl _, fun i _ hn => setRow_other _ _ _ _ hn⟩ (by have := HNX.out; omega) (fun e => HNZ.out e.symm)
  | none =>
    rw [hT] at HLK HS HG
    simp only [Option.isSome_none] at HLK
    have HS0 : Hid (∀ W, Below (mdW w d k v).heap.size (mdW w d k v) W → W.cell? ⟨x, 0, none⟩ = some (.map (some b)) ∧ W.cell? ⟨w.heap.size, 1, none⟩ = some (.string k) ∧ (Instr.lookup 42 (.map (some b)) (.string k) true).run Tryz.prog W = .ok (.tuple #[.agg #[.string yv, .bool yg], .bool false]) W) := fun W hb => ⟨(HM.out.below hb).c0, cell_of_block ((hb.block _ (lt_of_block HR.out)).trans HR.out), HLK.out W hb⟩
    have HD0 := hide (drew_below (mdW w d k v))
    go_enter Tryz.func29, Tryz.ntmps29
    go_upto_region 1 with fail
    rw [show (w.alloc (.cells #[.int .i64 d, .string k, .string v] 32)).alloc (.cells #[.int .i64 0, .string ⟨#[]⟩, .slice none 0 0] 37) = mdW w d k v from rfl]
    generalize hWE : mdW w d k v = W0 at *
    clear hWE
    refine wp_region_noPanic ?_
    refine wp_region_held_drew (S := fun w' => w'.cell? ⟨x, 0, none⟩ = some (.map (some b)) ∧ w'.cell? ⟨w.heap.size, 1, none⟩ = some (.string k) ∧ (Instr.lookup 42 (.map (some b)) (.string k) true).run Tryz.prog w' = .ok (.tuple #[.agg #[.string yv, .bool yg], .bool false]) w') (by kernel_rfl) (HS0.out _ HD0.out) (fun hHeld => ?_)
    refine wpAnyH_take (i := 0) (v := ?v201) rfl (by kernel_rfl) (by kernel_rfl) (by kernel_rfl) (fun _ _ _ h => h) (Or.inl ⟨by rfl, ?hy201⟩) hHeld ?rest201
    case hy201 => (intro w' hSw; obtain ⟨s0, s1, s2⟩ := hSw; go_simp; try with_reducible rfl)
    try simp [Act.put]
    refine wpAnyH_take (i := 1) (v := ?v202) rfl (by kernel_rfl) (by kernel_rfl) (by kernel_rfl) (fun _ _ _ h => h) (Or.inl ⟨by rfl, ?hy202⟩) hHeld ?rest202
    case hy202 => (intro w' hSw; obtain ⟨s0, s1, s2⟩ := hSw; go_simp; try with_reducible rfl)
    try simp [Act.put]
    refine wpAnyH_take (i := 2) (v := ?v203) rfl (by kernel_rfl) (by kernel_rfl) (by kernel_rfl) (fun _ _ _ h => h) (Or.inl ⟨by rfl, ?hy203⟩) hHeld ?rest203
    case hy203 => (intro w' hSw; obtain ⟨s0, s1, s2⟩ := hSw; go_simp; try with_reducible rfl)
    try simp [Act.put]
    refine wpAnyH_take (i := 3) (v := ?v204) rfl (by kernel_rfl) (by kernel_rfl) (by kernel_rfl) (fun _ _ _ h => h) (Or.inl ⟨by rfl, ?hy204⟩) hHeld ?rest204
    case hy204 => (intro w' hSw; obtain ⟨s0, s1, s2⟩ := hSw; go_simp; try with_reducible rfl)
    try simp [Act.put]
    refine wpAnyH_take (i := 4) (v := ?v205) rfl (by kernel_rfl) (by kernel_rfl) (by kernel_rfl) (fun _ _ _ h => h) (Or.inl ⟨by rfl, ?hy205⟩) hHeld ?rest205
    case hy205 => (intro w' hSw; obtain ⟨s0, s1, s2⟩ := hSw; go_simp; try with_reducible rfl)
    try simp [Act.put]
    refine wpAnyH_take (i := 5) (v := ?v206) rfl (by kernel_rfl) (by kernel_rfl) (by kernel_rfl) (fun _ _ _ h => h) (Or.inl ⟨by rfl, ?hy206⟩) hHeld ?rest206
    case hy206 => (intro w' hSw; obtain ⟨s0, s1, s2⟩ := hSw; go_simp; try with_reducible rfl)
    try simp [Act.put]
    refine wpAnyH_take (i := 6) (v := ?v207) rfl (by kernel_rfl) (by kernel_rfl) (by kernel_rfl) (fun _ _ _ h => h) (Or.inl ⟨by rfl, ?hy207⟩) hHeld ?rest207
    case hy207 => (intro w' hSw; obtain ⟨s0, s1, s2⟩ := hSw; go_simp; try with_reducible rfl)
    try simp [Act.put]
    refine wpAnyH_take (i := 7) (v := ?v208) rfl (by kernel_rfl) (by kernel_rfl) (by kernel_rfl) (fun _ _ _ h => h) (Or.inl ⟨by rfl, ?hy208⟩) hHeld ?rest208
    case hy208 => (intro w' hSw; obtain ⟨s0, s1, s2⟩ := hSw; go_simp; try with_reducible rfl)
    try simp [Act.put]
    refine wpAnyH_take (i := 8) (v := ?v209) rfl (by kernel_rfl) (by kernel_rfl) (by kernel_rfl) (fun _ _ _ h => h) (Or.inl ⟨by rfl, ?hy209⟩) hHeld ?rest209
    case hy209 => (intro w' hSw; obtain ⟨s0, s1, s2⟩ := hSw; go_simp; try with_reducible rfl)
    try simp [Act.put]
    refine wpAnyH_take (i := 9) (v := ?v210) rfl (by kernel_rfl) (by kernel_rfl) (by kernel_rfl) (fun _ _ _ h => h) (Or.inl ⟨by rfl, ?hy210⟩) hHeld ?rest210
    case hy210 => (intro w' hSw; obtain ⟨s0, s1, s2⟩ := hSw; go_simp; try with_reducible rfl)
    try simp [Act.put]
    have HD1 : Hid (Below W0.heap.size W0 (W0.alloc (.cells #[.string ⟨#[]⟩, .bool false] 65)).drew) := ((Below.refl _ _).alloc (Nat.le_refl _) _).drew
    refine wpAnyH_ready (rs := [10]) (by kernel_rfl) (by simp) ?_
    refine AllReadyH.cons rfl (fun K hK => ?_) AllReadyH.nil
    go_simp
    refine hK.out _ _ (HS0.out _ HD1.out) (fun hHeld => ?_)
    clear hK K
    try simp [Act.put]
    have HD2 : Hid (Below W0.heap.size W0 ((W0.alloc (.cells #[.string ⟨#[]⟩, .bool false] 65)).drew.setRow W0.heap.size #[.string yv, .bool yg])) := below_setRow HD1.out (Nat.le_refl _) _
    refine wpAnyH_ready (rs := [11]) (by kernel_rfl) (by simp) ?_
    refine AllReadyH.cons rfl (fun K hK => ?_) AllReadyH.nil
    rw [if_pos (by simp [Region.wanted])]
    refine wp_store_row 65 (.tmp 5) (.tmp 15) rfl (W0.heap.size) #[.string yv, .bool yg] (by simp [Act.eval]) (by simp [Act.eval]) 65 _ (show (W0.alloc _).drew.heap[W0.heap.size]? = some _ from heap_alloc_new W0 _) hd_info rfl (hd_one _ _) ?_
    refine hK.out _ _ (HS0.out _ HD2.out) (fun hHeld => ?_)
    clear hK K
    try simp [Act.put]
    refine wpAnyH_take (i := 12) (v := ?v240) rfl (by kernel_rfl) (by kernel_rfl) (by kernel_rfl) (fun _ _ _ h => h) (Or.inl ⟨by rfl, ?hy240⟩) hHeld ?rest240
    case hy240 => (intro w' hSw; skip; go_simp; try with_reducible rfl)
    try simp [Act.put]
    refine wpAnyH_done (by kernel_rfl) (NoPanic.normal ?_) _
    have HM1 := hide (HM.out.below HD2.out)
    have HB1 : Hid (Below w.heap.size w _) := HB.out.trans (HD2.out.mono HB.out.size)
    have HZ1 : Hid (RsB (w.heap.size + 1) 0 ⟨#[]⟩ none 0 0 _) := (HD2.out.block _ (lt_of_block HZ.out)).trans HZ.out
    have HR1 := hide ((HD2.out.block _ (lt_of_block HR.out)).trans HR.out)
    generalize hW1 : (W0.alloc (.cells #[.string ⟨#[]⟩, .bool false] 65)).drew.setRow W0.heap.size #[.string yv, .bool yg] = w1 at *
    clear HS0 HLK HD0 HD1 HD2
    obtain ⟨w6, hr6, hm6, ht6⟩ := (HM1.out.m.below (drew_below w1)).put ke_str Tryz.underlying42 (by unfold maxLen; omega) HOK.out (hdV ⟨v, false⟩)
    simp only [hdV, kStr] at hr6
    have cx := HM1.out.c0
    have hqn := fun W => run_eql_map_nil (P := Tryz.prog) W 42 9 65 (some b) Tryz.underlying42
    obtain ⟨hm7, hb7⟩ := (HM1.out.below (drew_below w1)).turned HKO.out.1 (y := ⟨v, false⟩) HKO.out.2 ht6 hm6
    have HM6 := hide hm7
    have HB6 : Hid (Bm b w1 w6) := (Bm.of_below (drew_below w1)).trans hb7
    have HZ6 : Hid (RsB (w.heap.size + 1) 0 ⟨#[]⟩ none 0 0 w6) := HB6.out.keep HZ1.out HNZ.out
    have HR6 : Hid (w6.heap[w.heap.size]? = some (.cells #[.int .i64 d, .string k, .string v] 32 (0, 0))) := HB6.out.keep HR1.out HNR.out
    have HU6 := hide hr6
    have HS0 : Hid (w1.drew.cell? ⟨x, 0, none⟩ = some (.map (some b)) ∧ w1.drew.cell? ⟨w.heap.size, 1, none⟩ = some (.string k) ∧ w1.drew.cell? ⟨w.heap.size, 2, none⟩ = some (.string v)) := ⟨HM1.out.c0, cell_of_block HR1.out, cell_of_block HR1.out⟩
    have HS6 : Hid (w6.cell? ⟨x, 0, none⟩ = some (.map (some b)) ∧ w6.cell? ⟨w.heap.size, 1, none⟩ = some (.string k) ∧ w6.cell? ⟨w.heap.size, 2, none⟩ = some (.string v)) := ⟨HM6.out.c0, cell_of_block HR6.out, cell_of_block HR6.out⟩
    clear hr6 hm6 ht6 hm7 hb7
    go_upto_region 6 with fail
    refine wp_region_noPanic ?_
    refine wp_region_held_drew (S := fun w' => w'.cell? ⟨x, 0, none⟩ = some (.map (some b)) ∧ w'.cell? ⟨w.heap.size, 1, none⟩ = some (.string k) ∧ w'.cell? ⟨w.heap.size, 2, none⟩ = some (.string v)) (by kernel_rfl) HS0.out (fun hHeld => ?_)
    refine wpAnyH_take (i := 0) (v := ?v100) rfl (by kernel_rfl) (by kernel_rfl) (by kernel_rfl) (fun _ _ _ h => h) (Or.inl ⟨by rfl, ?hy100⟩) hHeld ?rest100
    case hy100 => (intro w' hSw; obtain ⟨s0, s1, s2⟩ := hSw; go_simp; try with_reducible rfl)
    try simp [Act.put]
    refine wpAnyH_take (i := 1) (v := ?v101) rfl (by kernel_rfl) (by kernel_rfl) (by kernel_rfl) (fun _ _ _ h => h) (Or.inl ⟨by rfl, ?hy101⟩) hHeld ?rest101
    case hy101 => (intro w' hSw; obtain ⟨s0, s1, s2⟩ := hSw; go_simp; try with_reducible rfl)
    try simp [Act.put]
    refine wpAnyH_take (i := 2) (v := ?v102) rfl (by kernel_rfl) (by kernel_rfl) (by kernel_rfl) (fun _ _ _ h => h) (Or.inl ⟨by rfl, ?hy102⟩) hHeld ?rest102
    case hy102 => (intro w' hSw; obtain ⟨s0, s1, s2⟩ := hSw; go_simp; try with_reducible rfl)
    try simp [Act.put]
    refine wpAnyH_take (i := 3) (v := ?v103) rfl (by kernel_rfl) (by kernel_rfl) (by kernel_rfl) (fun _ _ _ h => h) (Or.inl ⟨by rfl, ?hy103⟩) hHeld ?rest103
    case hy103 => (intro w' hSw; obtain ⟨s0, s1, s2⟩ := hSw; go_simp; try with_reducible rfl)
    try simp [Act.put]
    refine wpAnyH_take (i := 4) (v := ?v104) rfl (by kernel_rfl) (by kernel_rfl) (by kernel_rfl) (fun _ _ _ h => h) (Or.inl ⟨by rfl, ?hy104⟩) hHeld ?rest104
    case hy104 => (intro w' hSw; obtain ⟨s0, s1, s2⟩ := hSw; go_simp; try with_reducible rfl)
    try simp [Act.put]
    refine wpAnyH_take (i := 5) (v := ?v105) rfl (by kernel_rfl) (by kernel_rfl) (by kernel_rfl) (fun _ _ _ h => h) (Or.inl ⟨by rfl, ?hy105⟩) hHeld ?rest105
    case hy105 => (intro w' hSw; obtain ⟨s0, s1, s2⟩ := hSw; go_simp; try with_reducible rfl)
    try simp [Act.put]
    refine wpAnyH_take (i := 6) (v := ?v106) rfl (by kernel_rfl) (by kernel_rfl) (by kernel_rfl) (fun _ _ _ h => h) (Or.inl ⟨by rfl, ?hy106⟩) hHeld ?rest106
    case hy106 => (intro w' hSw; obtain ⟨s0, s1, s2⟩ := hSw; go_simp; try with_reducible rfl)
    try simp [Act.put]
    refine wpAnyH_take (i := 7) (v := ?v107) rfl (by kernel_rfl) (by kernel_rfl) (by kernel_rfl) (fun _ _ _ h => h) (Or.inl ⟨by rfl, ?hy107⟩) hHeld ?rest107
    case hy107 => (intro w' hSw; obtain ⟨s0, s1, s2⟩ := hSw; go_simp; try with_reducible rfl)
    try simp [Act.put]
    refine wpAnyH_take (i := 8) (v := ?v108) rfl (by kernel_rfl) (by kernel_rfl) (by kernel_rfl) (fun _ _ _ h => h) (Or.inl ⟨by rfl, ?hy108⟩) hHeld ?rest108
    case hy108 => (intro w' hSw; obtain ⟨s0, s1, s2⟩ := hSw; go_simp; try with_reducible rfl)
    try simp [Act.put]
    refine wpAnyH_ready (rs := [9]) (by kernel_rfl) (by simp) ?_
    refine AllReadyH.cons rfl (fun K hK => ?_) AllReadyH.nil
    rw [if_pos (by simp [Region.wanted])]
    refine opw_mupd 42 (.tmp 31) (.tmp 33) (.tmp 36) rfl (.map (some b)) (.string k) _ (by simp [Act.eval]) (by simp [Act.eval]) (by simp [Act.eval]; try rfl) HU6.out ?_
    refine hK.out _ _ HS6.out (fun hHeld => ?_)
    clear hK K
    try simp [Act.put]
    refine wpAnyH_done (by kernel_rfl) (NoPanic.normal ?_) _
    go_wp2_with (first | (refine wpList_store_row rfl 37 (.tmp 4) (.tmp 37) rfl (w.heap.size + 1) #[.int .i64 0, .string ⟨#[]⟩, .slice none 0 0] rfl rfl 37 _ HZ6.out rs_info rfl (rs_one _ _ _ _ _) ?_))
    refine bodyPost_ret (res_rs rfl _ _ (w.heap.size + 1) 0 ByteArray.empty none 0 0 rfl (rsB_row HZ6.out)) rfl ⟨rfl, ?_, ?_⟩
    · exact HM6.out.bm (c := w.heap.size + 1) ⟨rfl, rfl, rfl, by rw [setRow_size]; exact Nat.le_refl _, fun i _ hn => setRow_other _ _ _ _ hn⟩ (by have := HNX.out; omega) (fun e => HNZ.out e.symm)
    · exact bm_row HB1.out HB6.out (by omega) _
end Go.Proofs.YtlpibpkbgmcclaaGreatDoor
