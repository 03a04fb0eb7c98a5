/- What request.Parse answers. -/
import Derived.Test.YtgcjcojmhfkbjaaDoorRqAsk
import Derived.Test.YtgcjcojmhfkbjaaDoorRqKd
import Derived.Test.YtgcjcojmhfkbjaaDoorShelf
import Derived.Deep.RegionHeld3
namespace Go.Proofs.YtgcjcojmhfkbjaaDoor
open Go.RowKit
set_option linter.unusedVariables false
theorem pcs_cell (w : World) (L : List ByteArray) (N : Nat) : StrsAt (w.alloc (.cells (Lib.cellsOf L N) 9)) (some ⟨w.heap.size, 0, none⟩) L := by
  refine .inr ⟨_, 0, rfl, by rw [World.size_alloc]; omega, fun i s hs => ?_⟩
  rw [Nat.zero_add, cell_of_block (heap_alloc_new _ _)]
  have hi : i < L.length := (List.getElem?_eq_some_iff.1 hs).1
  unfold Lib.cellsOf
  rw [List.getElem?_toArray, List.getElem?_append_left (by simpa using hi), List.getElem?_map, hs]
  rfl
theorem undg_size {s v : ByteArray} (h : undg s = some v) : v.size ≤ s.size := by
  unfold undg at h
  split at h
  · obtain rfl := Option.some.inj h
    show 0 ≤ _
    omega
  · split at h
    · cases h
    · split at h
      · obtain rfl := Option.some.inj h
        rw [mkS_size]
        omega
      · cases h
theorem askW_size {l : List ByteArray} {r : Rq} {n : Nat} (h : askW l = some r) (hs : ∀ y ∈ l, y.size ≤ n) : r.k.size ≤ n ∧ r.v.size ≤ n := by
  have e0 : ByteArray.empty.size = 0 := rfl
  unfold askW at h
  split at h
  · split at h
    · obtain rfl := Option.some.inj h
      exact ⟨by simp only [e0]; omega, by simp only [e0]; omega⟩
    · cases h
  · rename_i w a
    have ha := hs a (by simp)
    split at h
    · obtain rfl := Option.some.inj h
      exact ⟨ha, by simp only [e0]; omega⟩
    · split at h
      · obtain rfl := Option.some.inj h
        exact ⟨ha, by simp only [e0]; omega⟩
      · split at h
        · obtain rfl := Option.some.inj h
          exact ⟨ha, by simp only [e0]; omega⟩
        · split at h
          · split at h
            · cases h
            · obtain rfl := Option.some.inj h
              exact ⟨ha, by simp only [e0]; omega⟩
          · cases h
  · rename_i w a b
    have ha := hs a (by simp)
    have hb := hs b (by simp)
    split at h
    · rw [Option.map_eq_some_iff] at h
      obtain ⟨v, hv9, rfl⟩ := h
      have := undg_size hv9
      exact ⟨ha, by show v.size ≤ n; omega⟩
    · cases h
  · cases h
theorem str_one_cell (W : World) : (sizeOf (Tryd.prog.elem 34)).run Tryd.prog W = .ok 1 W := by kernel_rfl
theorem tail_slice (b n N : Nat) (h : n + 1 ≤ N) : ∃ A, (∀ W, (Instr.slice 34 (.slice (some ⟨b, 0, none⟩) (n + 1) N) (some (.int .i64 1)) none none).run Tryd.prog W = .ok (.slice A n (N - 1)) W) ∧ (n ≠ 0 → A = some ⟨b, 1, none⟩) := by
  by_cases hN : N = 1
  · subst hN
    obtain rfl : n = 0 := by omega
    refine ⟨some ⟨b, 0, none⟩, fun W => ?_, fun q => absurd rfl q⟩
    have e := run_slice_l (P := Tryd.prog) (w := W) 34 (some ⟨b, 0, none⟩) (0 + 1) 1 (by kernel_rfl) .i64 1 (by omega) (by omega)
    rw [e, str_one_cell]
    rfl
  · refine ⟨some ⟨b, 1, none⟩, fun W => ?_, fun _ => rfl⟩
    have e := run_slice_l (P := Tryd.prog) (w := W) 34 (some ⟨b, 0, none⟩) (n + 1) N (by kernel_rfl) .i64 1 (by omega) (by omega)
    rw [e, str_one_cell]
    show Result.ok (sliced _ 1 (n + 1) N 1) W = _
    unfold sliced
    rw [if_neg hN, Nat.add_sub_cancel]
    rfl
set_option maxRecDepth 100000 in
set_option maxHeartbeats 8000000 in
theorem parse_any (s : ByteArray) (w : World) (hK : KD w) (hs : s.size ≤ 100000) : Calls Tryd.prog 14 #[.string s] w fun e w' => e = .returned (rqV (paR s) (paE s)) ∧ Below w.heap.size w w' := by
  have HZ := hide (rq_new w)
  have HB := hide (rq_newB w)
  obtain ⟨m, hm⟩ := (hK.below HB.out).max
  have HSP := hide (Tryd.strings_SplitN s ⟨#[32]⟩ 4 m _ (by omega) hm (by decide) (by decide) (by decide))
  have HA := hide (pcs_ask s)
  obtain ⟨P, hP⟩ : ∃ P, pcs s = P := ⟨_, rfl⟩
  have HPS : Hid (∀ x ∈ P, x.size ≤ s.size) := fun x hx => pcs_size (by rw [hP]; exact hx)
  have e0 : Lib.splitB ⟨#[32]⟩ 0 (min 4 (s.size + 1) - 1) s = P := hP
  rw [hP] at HA
  rw [e0] at HSP
  clear e0 hP hm
  obtain ⟨N, hN⟩ : ∃ N, min 4 (s.size + 1) = N := ⟨_, rfl⟩
  rw [hN] at HA HSP
  have HN := hide hN
  clear hN
  obtain ⟨x, M, rfl⟩ : ∃ x M, P = x :: M := by
    cases P with
    | nil => have := HA.out.2.1; simp at this
    | cons x M => exact ⟨x, M, rfl⟩
  obtain ⟨n, hn⟩ : ∃ n, M.length = n := ⟨_, rfl⟩
  have HNL := hide hn
  have hl : (x :: M).length = n + 1 := by simp [hn]
  rw [hl] at HSP HA
  have HCL := hide (pcs_cell (w.alloc (.cells #[.int .i64 0, .string ⟨#[]⟩, .string ⟨#[]⟩] 23)) (x :: M) N)
  have hnN : n + 1 ≤ N := HA.out.2.2
  have hN4 : N ≤ 4 := by have := HN.out; omega
  have i1 : (1 : Int) ≤ ((n + 1 : Nat) : Int) := by omega
  have i2 : ((n + 1 : Nat) : Int) ≤ (N : Int) := by omega
  have i3 : (0 : Int) < ((n + 1 : Nat) : Int) := by omega
  rw [World.size_alloc] at HCL
  clear hn hl
  go_enter Tryd.func14, Tryd.ntmps14
  go_wp2_with fail
  refine HSP.out.mono ?_
  rintro e w2 ⟨rfl, rfl⟩
  have HB2 : Hid (Below w.heap.size w ((w.alloc (.cells #[.int .i64 0, .string ⟨#[]⟩, .string ⟨#[]⟩] 23)).alloc (.cells (Lib.cellsOf (x :: M) N) 9))) := HB.out.alloc HB.out.size _
  have HZ2 : Hid (RqB w.heap.size Rq.zero ((w.alloc (.cells #[.int .i64 0, .string ⟨#[]⟩, .string ⟨#[]⟩] 23)).alloc (.cells (Lib.cellsOf (x :: M) N) 9))) := HZ.out.below ((Below.refl _ _).alloc (Nat.le_refl _) _)
  go_upto_region 2 with fail
  generalize hW2 : (w.alloc (.cells #[.int .i64 0, .string ⟨#[]⟩, .string ⟨#[]⟩] 23)).alloc (.cells (Lib.cellsOf (x :: M) N) 9) = W2 at *
  clear hW2
  generalize w.heap.size + 1 = b at *
  obtain ⟨A, hsl, hA⟩ := tail_slice b n N hnN
  have HST : Hid (StrsAt W2 A M) := by
    by_cases q : n = 0
    · exact .inl (List.length_eq_zero_iff.1 (by have := HNL.out; omega))
    · rw [hA q]; exact HCL.out.tail
  have HSM : Hid (∀ y ∈ M, y.size ≤ 100000) := fun y hy => by have := HPS.out y (List.mem_cons_of_mem _ hy); omega
  obtain ⟨d1, k1, v1, z1, hq⟩ := opt_form (askW (x :: M))
  have HAK : Hid (∀ W, StrsAt W A M → Calls Tryd.prog 27 #[.string x, .slice A n (N - 1)] W fun e w' => e = .returned (.tuple #[.agg #[.int .i64 d1, .string k1, .string v1], .int .i64 z1]) ∧ Below W.heap.size W w') := fun W hW => by
    have := asked_any x A (N - 1) n M W HNL.out hW (by omega) (by omega) HSM.out
    rw [hq] at this
    exact this
  have HCS : Hid (((d1 = 0 ∧ k1 = ByteArray.empty ∧ v1 = ByteArray.empty ∧ z1 = 14) ∧ paR s = Rq.zero ∧ paE s = 14) ∨ (z1 = 0 ∧ (paR s = (if rqE ⟨d1, k1, v1⟩ = 0 then ⟨d1, k1, v1⟩ else Rq.zero) ∧ paE s = rqE ⟨d1, k1, v1⟩) ∧ k1.size ≤ 100000 ∧ v1.size ≤ 100000)) := by
    have ha := HA.out.1
    have hsz : ∀ y ∈ x :: M, y.size ≤ 100000 := fun y hy => by have := HPS.out y hy; omega
    unfold paR paE
    rw [← ha]
    cases hr : askW (x :: M) with
    | none =>
      rw [hr] at hq
      simp only [optV, rqV, rqs, Rq.zero, Value.tuple.injEq, Array.mk.injEq, List.cons.injEq, Value.agg.injEq, Value.int.injEq, Value.string.injEq] at hq
      simp at hq
      obtain ⟨⟨rfl, rfl, rfl⟩, rfl⟩ := hq
      exact .inl ⟨⟨rfl, rfl, rfl, rfl⟩, rfl, rfl⟩
    | some r =>
      rw [hr] at hq
      obtain ⟨d, k, v⟩ := r
      simp only [optV, rqV, rqs, Value.tuple.injEq, Array.mk.injEq, List.cons.injEq, Value.agg.injEq, Value.int.injEq, Value.string.injEq] at hq
      simp at hq
      obtain ⟨⟨rfl, rfl, rfl⟩, rfl⟩ := hq
      have := askW_size hr hsz
      exact .inr ⟨rfl, ⟨rfl, rfl⟩, this.1, this.2⟩
  have hcx : W2.cell? ⟨b, 0, none⟩ = some (.string x) := by
    obtain ⟨b', o', e', _, hc'⟩ := HCL.out.cell (i := 0) (s := x) rfl
    cases e'
    exact hc'
  have HWS : Hid (∀ W', Below W2.heap.size W2 W' → W'.cell? ⟨b, 0, none⟩ = some (.string x)) := fun W' hb => (hb.cell (p := ⟨b, 0, none⟩) (World.block_lt_of_cell? W2 _ hcx)).trans hcx
  have HQ0 : Hid (Below W2.heap.size W2 W2.drew) := hide (Below.refl _ _).drew
  clear hq hA hnN i2
  have i5 : 0 < n + 1 := by omega
  refine wp_region_noPanic ?_
  refine wp_region_held_drew (S := fun w' => w'.cell? ⟨b, 0, none⟩ = some (.string x)) (by kernel_rfl) (HWS.out _ HQ0.out) (fun hHeld => ?_)
  refine wpAnyH_take (i := 0) (v := ?v1) rfl (by kernel_rfl) (by kernel_rfl) (by kernel_rfl) (fun _ _ _ h => h) (Or.inl ⟨by rfl, ?hy1⟩) hHeld ?rest1
  case hy1 => (intro w' hSw; have ck := hSw; have hs9 := hsl; go_simp; try with_reducible rfl)
  try simp [Act.put]
  refine wpAnyH_take (i := 1) (v := ?v2) rfl (by kernel_rfl) (by kernel_rfl) (by kernel_rfl) (fun _ _ _ h => h) (Or.inl ⟨by rfl, ?hy2⟩) hHeld ?rest2
  case hy2 => (intro w' hSw; have ck := hSw; have hs9 := hsl; go_simp; try with_reducible rfl)
  try simp [Act.put]
  refine wpAnyH_take (i := 2) (v := ?v3) rfl (by kernel_rfl) (by kernel_rfl) (by kernel_rfl) (fun _ _ _ h => h) (Or.inl ⟨by rfl, ?hy3⟩) hHeld ?rest3
  case hy3 => (intro w' hSw; have ck := hSw; have hs9 := hsl; go_simp; try with_reducible rfl)
  try simp [Act.put]
  refine wpAnyH_take (i := 3) (v := ?v4) rfl (by kernel_rfl) (by kernel_rfl) (by kernel_rfl) (fun _ _ _ h => h) (Or.inl ⟨by rfl, ?hy4⟩) hHeld ?rest4
  case hy4 => (intro w' hSw; have ck := hSw; have hs9 := hsl; go_simp; try with_reducible rfl)
  try simp [Act.put]
  refine wpAnyH_take (i := 4) (v := ?v5) rfl (by kernel_rfl) (by kernel_rfl) (by kernel_rfl) (fun _ _ _ h => h) (Or.inl ⟨by rfl, ?hy5⟩) hHeld ?rest5
  case hy5 => (intro w' hSw; have ck := hSw; have hs9 := hsl; go_simp; try with_reducible rfl)
  try simp [Act.put]
  refine wpAnyH_ready (rs := [5, 9]) (by kernel_rfl) (by simp) ?_
  refine AllReadyH.cons rfl (fun K hK => ?_) (AllReadyH.cons rfl (fun K hK => ?_) AllReadyH.nil)
  · go_simp
    refine (HAK.out _ (HST.out.below HQ0.out)).mono ?_
    rintro e9 W3 ⟨rfl, hb⟩
    have HQ3 : Hid (Below W2.heap.size W2 W3) := HQ0.out.trans hb
    clear hb
    refine hK.out _ _ (HWS.out _ HQ3.out) (fun hHeld => ?_)
    clear hK K
    try simp [Act.put]
    refine wpAnyH_take (i := 6) (v := ?v20) rfl (by kernel_rfl) (by kernel_rfl) (by kernel_rfl) (fun _ _ _ h => h) (Or.inl ⟨by rfl, ?hy20⟩) hHeld ?rest20
    case hy20 => (intro w' hSw; skip; go_simp; try with_reducible rfl)
    try simp [Act.put]
    refine wpAnyH_take (i := 7) (v := ?v21) rfl (by kernel_rfl) (by kernel_rfl) (by kernel_rfl) (fun _ _ _ h => h) (Or.inl ⟨by rfl, ?hy21⟩) hHeld ?rest21
    case hy21 => (intro w' hSw; skip; go_simp; try with_reducible rfl)
    try simp [Act.put]
    refine wpAnyH_take (i := 8) (v := ?v22) rfl (by kernel_rfl) (by kernel_rfl) (by kernel_rfl) (fun _ _ _ h => h) (Or.inl ⟨by rfl, ?hy22⟩) hHeld ?rest22
    case hy22 => (intro w' hSw; skip; go_simp; try with_reducible rfl)
    try simp [Act.put]
    refine wpAnyH_ready (rs := [9]) (by kernel_rfl) (by simp) ?_
    refine AllReadyH.cons rfl (fun K hK => ?_) AllReadyH.nil
    go_simp
    have HQ4 : Hid (Below W2.heap.size W2 (W3.alloc (.cells #[.int .i64 0, .string ⟨#[]⟩, .string ⟨#[]⟩] 23))) := HQ3.out.alloc HQ3.out.size _
    refine hK.out _ _ (HWS.out _ HQ4.out) (fun hHeld => ?_)
    clear hK K
    try simp [Act.put]
    have HQ5 : Hid (Below W2.heap.size W2 ((W3.alloc (.cells #[.int .i64 0, .string ⟨#[]⟩, .string ⟨#[]⟩] 23)).setRow W3.heap.size #[.int .i64 d1, .string k1, .string v1])) := below_setRow HQ4.out HQ3.out.size _
    have HRQ : Hid (RqB W3.heap.size ⟨d1, k1, v1⟩ ((W3.alloc (.cells #[.int .i64 0, .string ⟨#[]⟩, .string ⟨#[]⟩] 23)).setRow W3.heap.size #[.int .i64 d1, .string k1, .string v1])) := rqB_row (rq_new W3) _
    refine wpAnyH_ready (rs := [10]) (by kernel_rfl) (by simp) ?_
    refine AllReadyH.cons rfl (fun K hK => ?_) AllReadyH.nil
    rw [if_pos (by simp [Region.wanted])]
    refine wp_store_row 23 (.tmp 5) (.tmp 17) rfl (W3.heap.size) #[.int .i64 d1, .string k1, .string v1] (by simp [Act.eval]) (by simp [Act.eval]) 23 _ (heap_alloc_new _ _) rq_info rfl (rq_one _ _ _) ?_
    refine hK.out _ _ (HWS.out _ HQ5.out) (fun hHeld => ?_)
    clear hK K
    try simp [Act.put]
    refine wpAnyH_take (i := 11) (v := ?v40) rfl (by kernel_rfl) (by kernel_rfl) (by kernel_rfl) (fun _ _ _ h => h) (Or.inl ⟨by rfl, ?hy40⟩) hHeld ?rest40
    case hy40 => (intro w' hSw; skip; go_simp; try with_reducible rfl)
    try simp [Act.put]
    refine wpAnyH_done (by kernel_rfl) (NoPanic.normal ?_) _
    generalize (W3.alloc (.cells #[.int .i64 0, .string ⟨#[]⟩, .string ⟨#[]⟩] 23)).setRow W3.heap.size #[.int .i64 d1, .string k1, .string v1] = WQ at *
    generalize W3.heap.size = bq at *
    have HZQ : Hid (RqB w.heap.size Rq.zero WQ) := HZ2.out.below HQ5.out
    have HBQ : Hid (Below w.heap.size w WQ) := HB2.out.trans (HQ5.out.mono HB2.out.size)
    rcases HCS.out with ⟨he, hR⟩ | ⟨he, hR, hk, hv⟩
    · obtain ⟨rfl, rfl, rfl, rfl⟩ := he
      have HR := hide hR
      clear hR
      go_wp2_with (first | (refine wpList_store_row rfl 23 (.tmp 2) (.tmp 21) rfl w.heap.size #[.int .i64 0, .string ⟨#[]⟩, .string ⟨#[]⟩] rfl rfl 23 _ HZQ.out rq_info rfl (rq_one _ _ _) ?_))
      refine bodyPost_ret (res_rq rfl _ _ w.heap.size Rq.zero rfl (rqB_row HZQ.out _)) rfl ⟨by rw [HR.out.1, HR.out.2]; rfl, below_setRow HBQ.out (Nat.le_refl _) _⟩
    · subst he
      have HR := hide hR
      have HCK := hide (fun W => qcheck_any ⟨d1, k1, v1⟩ W hk hv)
      clear hR hk hv
      simp only [rqs] at HCK
      go_wp2_with (first | (refine wpList_load_row rfl 23 (.tmp 5) rfl bq rfl 23 #[.int .i64 d1, .string k1, .string v1] (0, 0) _ HRQ.out Tryd.underlying23 rfl rq_info ?_))
      refine (HCK.out _).mono ?_
      rintro e9 W6 ⟨rfl, hb⟩
      have HZ6 : Hid (RqB w.heap.size Rq.zero W6) := HZQ.out.below hb
      have HR6 : Hid (RqB bq ⟨d1, k1, v1⟩ W6) := HRQ.out.below hb
      have HB6 := hide (HBQ.out.trans (hb.mono HBQ.out.size))
      clear hb
      by_cases hz : rqE ⟨d1, k1, v1⟩ = 0
      · have HE : Hid (rqV (paR s) (paE s) = rqV ⟨d1, k1, v1⟩ 0) := by show _ = _; rw [HR.out.1, HR.out.2, if_pos hz, hz]
        rw [hz]
        clear hz HR
        go_wp2_with (first | (refine wpList_load_row rfl 23 (.tmp 5) rfl bq rfl 23 #[.int .i64 d1, .string k1, .string v1] (0, 0) _ HR6.out Tryd.underlying23 rfl rq_info ?_) | (refine wpList_store_row rfl 23 (.tmp 2) (.tmp 29) rfl w.heap.size #[.int .i64 d1, .string k1, .string v1] rfl rfl 23 _ HZ6.out rq_info rfl (rq_one _ _ _) ?_))
        refine bodyPost_ret (res_rq rfl _ _ w.heap.size ⟨d1, k1, v1⟩ rfl (rqB_row HZ6.out _)) rfl ⟨by rw [HE.out]; rfl, below_setRow HB6.out (Nat.le_refl _) _⟩
      · have HE : Hid (rqV (paR s) (paE s) = rqV Rq.zero (rqE ⟨d1, k1, v1⟩)) := by show _ = _; rw [HR.out.1, HR.out.2, if_neg hz]
        have g1 : (rqE ⟨d1, k1, v1⟩ != 0) = true := by simpa using hz
        clear hz HR
        generalize rqE ⟨d1, k1, v1⟩ = E at *
        go_wp2_with (first | (refine wpList_store_row rfl 23 (.tmp 2) (.tmp 27) rfl w.heap.size #[.int .i64 0, .string ⟨#[]⟩, .string ⟨#[]⟩] rfl rfl 23 _ HZ6.out rq_info rfl (rq_one _ _ _) ?_))
        refine bodyPost_ret (res_rq rfl _ _ w.heap.size Rq.zero rfl (rqB_row HZ6.out _)) rfl ⟨by rw [HE.out]; rfl, below_setRow HB6.out (Nat.le_refl _) _⟩
  · go_simp
    have HQ3 : Hid (Below W2.heap.size W2 (W2.alloc (.cells #[.int .i64 0, .string ⟨#[]⟩, .string ⟨#[]⟩] 23)).drew) := ((Below.refl _ _).alloc (Nat.le_refl _) _).drew
    have HN3 : Hid (RqB W2.heap.size Rq.zero (W2.alloc (.cells #[.int .i64 0, .string ⟨#[]⟩, .string ⟨#[]⟩] 23)).drew) := rq_new W2
    refine hK.out _ _ (HWS.out _ HQ3.out) (fun hHeld => ?_)
    clear hK K
    try simp [Act.put]
    generalize (W2.alloc (.cells #[.int .i64 0, .string ⟨#[]⟩, .string ⟨#[]⟩] 23)).drew = W3 at *
    refine wpAnyH_ready (rs := [5]) (by kernel_rfl) (by simp) ?_
    refine AllReadyH.cons rfl (fun K hK => ?_) AllReadyH.nil
    go_simp
    refine (HAK.out _ (HST.out.below HQ3.out)).mono ?_
    rintro e9 W4 ⟨rfl, hb⟩
    have HN4 := hide (HN3.out.below hb)
    have HQ4 : Hid (Below W2.heap.size W2 W4) := HQ3.out.trans (hb.mono HQ3.out.size)
    clear hb
    refine hK.out _ _ (HWS.out _ HQ4.out) (fun hHeld => ?_)
    clear hK K
    try simp [Act.put]
    refine wpAnyH_take (i := 6) (v := ?v50) rfl (by kernel_rfl) (by kernel_rfl) (by kernel_rfl) (fun _ _ _ h => h) (Or.inl ⟨by rfl, ?hy50⟩) hHeld ?rest50
    case hy50 => (intro w' hSw; skip; go_simp; try with_reducible rfl)
    try simp [Act.put]
    refine wpAnyH_take (i := 7) (v := ?v51) rfl (by kernel_rfl) (by kernel_rfl) (by kernel_rfl) (fun _ _ _ h => h) (Or.inl ⟨by rfl, ?hy51⟩) hHeld ?rest51
    case hy51 => (intro w' hSw; skip; go_simp; try with_reducible rfl)
    try simp [Act.put]
    refine wpAnyH_take (i := 8) (v := ?v52) rfl (by kernel_rfl) (by kernel_rfl) (by kernel_rfl) (fun _ _ _ h => h) (Or.inl ⟨by rfl, ?hy52⟩) hHeld ?rest52
    case hy52 => (intro w' hSw; skip; go_simp; try with_reducible rfl)
    try simp [Act.put]
    have HQ5 : Hid (Below W2.heap.size W2 (W4.setRow W2.heap.size #[.int .i64 d1, .string k1, .string v1])) := below_setRow HQ4.out (Nat.le_refl _) _
    have HRQ : Hid (RqB W2.heap.size ⟨d1, k1, v1⟩ (W4.setRow W2.heap.size #[.int .i64 d1, .string k1, .string v1])) := rqB_row HN4.out _
    refine wpAnyH_ready (rs := [10]) (by kernel_rfl) (by simp) ?_
    refine AllReadyH.cons rfl (fun K hK => ?_) AllReadyH.nil
    rw [if_pos (by simp [Region.wanted])]
    refine wp_store_row 23 (.tmp 5) (.tmp 17) rfl (W2.heap.size) #[.int .i64 d1, .string k1, .string v1] (by simp [Act.eval]) (by simp [Act.eval]) 23 _ HN4.out rq_info rfl (rq_one _ _ _) ?_
    refine hK.out _ _ (HWS.out _ HQ5.out) (fun hHeld => ?_)
    clear hK K
    try simp [Act.put]
    refine wpAnyH_take (i := 11) (v := ?v70) rfl (by kernel_rfl) (by kernel_rfl) (by kernel_rfl) (fun _ _ _ h => h) (Or.inl ⟨by rfl, ?hy70⟩) hHeld ?rest70
    case hy70 => (intro w' hSw; skip; go_simp; try with_reducible rfl)
    try simp [Act.put]
    refine wpAnyH_done (by kernel_rfl) (NoPanic.normal ?_) _
    generalize W4.setRow W2.heap.size #[.int .i64 d1, .string k1, .string v1] = WQ at *
    have HZQ : Hid (RqB w.heap.size Rq.zero WQ) := HZ2.out.below HQ5.out
    have HBQ : Hid (Below w.heap.size w WQ) := HB2.out.trans (HQ5.out.mono HB2.out.size)
    generalize W2.heap.size = bq at *
    rcases HCS.out with ⟨he, hR⟩ | ⟨he, hR, hk, hv⟩
    · obtain ⟨rfl, rfl, rfl, rfl⟩ := he
      have HR := hide hR
      clear hR
      go_wp2_with (first | (refine wpList_store_row rfl 23 (.tmp 2) (.tmp 21) rfl w.heap.size #[.int .i64 0, .string ⟨#[]⟩, .string ⟨#[]⟩] rfl rfl 23 _ HZQ.out rq_info rfl (rq_one _ _ _) ?_))
      refine bodyPost_ret (res_rq rfl _ _ w.heap.size Rq.zero rfl (rqB_row HZQ.out _)) rfl ⟨by rw [HR.out.1, HR.out.2]; rfl, below_setRow HBQ.out (Nat.le_refl _) _⟩
    · subst he
      have HR := hide hR
      have HCK := hide (fun W => qcheck_any ⟨d1, k1, v1⟩ W hk hv)
      clear hR hk hv
      simp only [rqs] at HCK
      go_wp2_with (first | (refine wpList_load_row rfl 23 (.tmp 5) rfl bq rfl 23 #[.int .i64 d1, .string k1, .string v1] (0, 0) _ HRQ.out Tryd.underlying23 rfl rq_info ?_))
      refine (HCK.out _).mono ?_
      rintro e9 W6 ⟨rfl, hb⟩
      have HZ6 : Hid (RqB w.heap.size Rq.zero W6) := HZQ.out.below hb
      have HR6 : Hid (RqB bq ⟨d1, k1, v1⟩ W6) := HRQ.out.below hb
      have HB6 := hide (HBQ.out.trans (hb.mono HBQ.out.size))
      clear hb
      by_cases hz : rqE ⟨d1, k1, v1⟩ = 0
      · have HE : Hid (rqV (paR s) (paE s) = rqV ⟨d1, k1, v1⟩ 0) := by show _ = _; rw [HR.out.1, HR.out.2, if_pos hz, hz]
        rw [hz]
        clear hz HR
        go_wp2_with (first | (refine wpList_load_row rfl 23 (.tmp 5) rfl bq rfl 23 #[.int .i64 d1, .string k1, .string v1] (0, 0) _ HR6.out Tryd.underlying23 rfl rq_info ?_) | (refine wpList_store_row rfl 23 (.tmp 2) (.tmp 29) rfl w.heap.size #[.int .i64 d1, .string k1, .string v1] rfl rfl 23 _ HZ6.out rq_info rfl (rq_one _ _ _) ?_))
        refine bodyPost_ret (res_rq rfl _ _ w.heap.size ⟨d1, k1, v1⟩ rfl (rqB_row HZ6.out _)) rfl ⟨by rw [HE.out]; rfl, below_setRow HB6.out (Nat.le_refl _) _⟩
      · have HE : Hid (rqV (paR s) (paE s) = rqV Rq.zero (rqE ⟨d1, k1, v1⟩)) := by show _ = _; rw [HR.out.1, HR.out.2, if_neg hz]
        have g1 : (rqE ⟨d1, k1, v1⟩ != 0) = true := by simpa using hz
        clear hz HR
        generalize rqE ⟨d1, k1, v1⟩ = E at *
        go_wp2_with (first | (refine wpList_store_row rfl 23 (.tmp 2) (.tmp 27) rfl w.heap.size #[.int .i64 0, .string ⟨#[]⟩, .string ⟨#[]⟩] rfl rfl 23 _ HZ6.out rq_info rfl (rq_one _ _ _) ?_))
        refine bodyPost_ret (res_rq rfl _ _ w.heap.size Rq.zero rfl (rqB_row HZ6.out _)) rfl ⟨by rw [HE.out]; rfl, below_setRow HB6.out (Nat.le_refl _) _⟩
end Go.Proofs.YtgcjcojmhfkbjaaDoor
