/- PlaceEven answers true at every input. -/
import Derived.Test.YtleknjjfmklkcaaPlEvenMath
import Derived.Lib.QuietBelow
import Derived.Deep.RegionHeld3
namespace Go.Proofs.Ytleknjjfmklkcaa
open Go.RowKit
set_option linter.unusedVariables false
/-- append to a row of one's own, one operation of a drawn region -/
theorem wp_append_row {P : Program} {o : Oper} {a : Act} {w : World} {K : Act → World → Prop} {Q : Exit → Act → World → Prop} (B : Nat) (s x : Operand) (t : TypeId)
    (ho : o.op = .call { callee := .builtin .append, args := #[s, x], argTypes := #[t, t] })
    (e : TypeId) (i : TypeInfo) (z : Value) (size bytes : Nat) (ht : P.underlying t = some (.slice e)) (hi : P.info? e = some i) (hz : i.zero = some z)
    (hsize : i.size = size) (hby : i.bytes = bytes) (hzs : z.cells.size = size) (hsz : 0 < size)
    (v : Value) (n : Nat) (xs : List Value) (hs : a.eval s = v) (hown : w.ownsRow B e size v n xs)
    (ad : Addr) (m c : Nat) (news : List Value) (hx : a.eval x = .slice (some ad) m c) (hl : news.length = m * size) (hnews : ∀ j u, news[j]? = some u → w.cell? (ad.add j) = some u) (h1 : ∀ u ∈ news, u.oneCell' = true)
    (h63 : n + m ≤ maxLen) (hbytes : (n + m) * bytes ≤ 140737488355328) (hB : B ≤ w.heap.size)
    (h : ∀ v' w', w'.ownsRow B e size v' (n + m) (xs ++ news) → w.grownBy w' v.ownBlock → K (a.put o.dst v') w') : o.wp P a w K Q := by
  obtain ⟨v', w', hr, q1, q2, -, q3⟩ := run_append_own_at (P := P) w B t o.type e i z size bytes ht hi hz hsize hby hzs hsz v n xs hown ad m c news hl hnews h1 h63 hbytes hB
  unfold Oper.wp execOp
  simp only [ho, resolve, invoke, builtin, Sem.run_bind, Sem.run_pure, Result.andThen_ok, List.map_toArray, List.map_cons, List.map_nil, hs, hx, hr]
  exact h v' w' q1 q2
theorem even_q (W : World) (d : Nat) (os : Array Obj) : Calls Try.prog 9 #[] (Go.Sort.grow (redrawn W d) os) fun e w'' => e = .returned (.bool true) ∧ ∃ p : Regrown, w'' = Go.Sort.grow (redrawn W p.d) p.os := (live_any _).regrown_of
/-- the cell that a round reads -/
def S1 (g o : Nat) (d : Int) (w : World) : Prop := w.cell? ⟨g, o, none⟩ = some (.int .i64 d)
set_option maxRecDepth 100000 in
set_option maxHeartbeats 8000000 in
theorem walkPlaceEven (many : Int) (w : World) (_ : (Lit.int .i64 many).wf = true) : Calls Try.prog 8 #[.int .i64 many] w fun e w' => e = .returned (.bool true) ∧ Below w.heap.size w w' := by
  by_cases h1 : many < 0
  · have hd : decide (many < 0) = true := by simpa using h1
    go_enter Try.func8, Try.ntmps8
    go_wp2_with fail
    refine (live_any _).mono ?_
    rintro e w1 ⟨rfl, hb⟩
    have HB1 := hide hb
    clear hb
    go_wp2_with fail
    try go_ret
    exact ⟨rfl, HB1.out⟩
  have hd : decide (many < 0) = false := by simpa using h1
  by_cases h2 : 60 < many
  · have hd2 : decide (60 < many) = true := by simpa using h2
    go_enter Try.func8, Try.ntmps8
    go_wp2_with fail
    refine (live_any _).mono ?_
    rintro e w1 ⟨rfl, hb⟩
    have HB1 := hide hb
    clear hb
    go_wp2_with fail
    try go_ret
    exact ⟨rfl, HB1.out⟩
  have hd2 : decide (60 < many) = false := by simpa using h2
  obtain ⟨n, rfl⟩ := Int.eq_ofNat_of_zero_le (show 0 ≤ many by omega)
  have hn : n ≤ 60 := by omega
  clear h1 h2
  obtain ⟨iL, hiL, hL0, hL1, hL2⟩ := info_parts loc_info
  obtain ⟨iV, hiV, hV0, hV1, hV2⟩ := info_parts vol_info
  have HIL := hide hiL
  have HL0 := hide hL0
  have HL1 := hide hL1
  have HL2 := hide hL2
  have HIV := hide hiV
  have HV0 := hide hV0
  have HV1 := hide hV1
  have HV2 := hide hV2
  clear hiL hL0 hL1 hL2 hiV hV0 hV1 hV2
  go_enter Try.func8, Try.ntmps8
  go_wp2_with fail
  clear hd hd2
  go_loopw [3, 4] (fun v y wr => ∃ (i : Nat) (ns : List Vol), i ≤ n ∧ y = .int .i64 i ∧ ns.length = i ∧ ns.map Vol.ls = (List.range i).map evLs ∧ VR w wr v ns) (fun _ y _ => n - (intOf y).toNat)
  case atStart => exact ⟨0, [], by omega, rfl, rfl, rfl, VR.nil (Below.refl _ _)⟩
  case round =>
    obtain ⟨i, ns, hi, rfl, hnl, hls, hvr⟩ := hrel
    obtain ⟨wo, hwo⟩ : ∃ wo, wo = wr := ⟨_, rfl⟩
    subst hwo
    have HNL := hide hnl
    have HLS := hide hls
    have HVR := hide hvr
    clear hnl hls hvr
    by_cases hlt : i < n
    · have hdi : decide ((i : Int) < (n : Int)) = true := by simp; omega
      go_wp2_with fail
      refine (all_any _).mono ?_
      rintro e w1 ⟨rfl, hI1, hb1⟩
      have HI1 := hide hI1
      have HVR1 := hide (HVR.out.below hb1)
      clear hI1 hb1
      go_wp2_with fail
      refine (choose_all i _ _ (by omega) HI1.out).mono ?_
      rintro e w2 ⟨g, o, c, rfl, hc9, -, hg, hcell, hb2⟩
      have HVR2 := hide (HVR1.out.below hb2)
      have HG := hide hcell
      have HST := hide (BX.start w2 (i : Int) 0 0)
      clear hcell hb2 HVR1 HI1
      go_wp2_with fail
      go_loopw [8] (fun y wq => ∃ (k : Nat) (u : Value), k ≤ 9 ∧ y = .int .i64 k ∧ BX w2 wq (i : Int) 0 0 u ((evLs i).take k)) (fun y _ => 9 - (intOf y).toNat)
      case atStart => exact ⟨0, _, by omega, rfl, HST.out⟩
      case round =>
        obtain ⟨k, u, hk, rfl, hbx⟩ := hrel
        have HBX := hide hbx
        clear hbx HST
        have hlen : ((evLs i).take k).length = k := by rw [List.length_take, evLs_len]; omega
        obtain ⟨av, cv, hu, hcv, hcm⟩ := HBX.out.form
        rw [hlen] at hu hcv
        subst hu
        have hwlt := HBX.out.lt
        by_cases hkl : k < 9
        · have hdk : decide ((k : Int) < 9) = true := by simp; omega
          have hki : (k : Int) < 9 := by omega
          have hk0 : (0 : Int) ≤ (k : Int) := by omega
          have ck := (HBX.out.bel.cell (p := ⟨g, o + k, none⟩) hg).trans (HG.out k hkl)
          have HTK : Hid ((evLs i).take (k + 1) = (evLs i).take k ++ [((((5 * i + k) % 12 : Nat) : Int), (0 : Int))]) := take_snoc (evLs_at hkl)
          generalize (((5 * i + k) % 12 : Nat) : Int) = d at *
          generalize hmse : (evLs i).take k = ms at *
          have HMSL := hide hlen
          clear hlen hmse
          have hS : S1 g (o + k) d wr := ck
          obtain ⟨-, -, -, b3, bf⟩ := HBX.out.cells
          have hW1 : Below wr.heap.size wr (wr.drew.alloc (.cells #[.int .i64 d, .int .i64 0] 45)) := ((Below.refl _ wr).drew).alloc (Nat.le_refl _) _
          have HBXd := hide (HBX.out.below (Below.refl _ wr).drew)
          have hb3d : wr.drew.cell? ⟨w2.heap.size, 3, none⟩ = some (.slice av k cv) := b3
          have hgl : g < wr.heap.size := Nat.lt_of_lt_of_le hg HBX.out.bel.size
          have HSW : Hid (S1 g (o + k) d (wr.drew.alloc (.cells #[.int .i64 d, .int .i64 0] 45))) := (hW1.cell (p := ⟨g, o + k, none⟩) hgl).trans ck
          have hbW : (wr.drew.alloc (.cells #[.int .i64 d, .int .i64 0] 45)).cell? ⟨w2.heap.size, 3, none⟩ = some (.slice av k cv) := (hW1.cell (p := ⟨w2.heap.size, 3, none⟩) hwlt).trans b3
          have hbV : (wr.alloc (.cells #[.int .i64 d, .int .i64 0] 45)).cell? ⟨w2.heap.size, 3, none⟩ = some (.slice av k cv) := hbW
          clear hW1
          go_wp2_with fail
          refine wp_region_noPanic ?_
          refine wp_region_held_drew (S := S1 g (o + k) d) (by kernel_rfl) hS (fun hHeld => ?_)
          refine wpAnyH_take (i := 0) (v := ?v1) rfl (by kernel_rfl) (by kernel_rfl) (by kernel_rfl) (fun _ _ _ h => h) (Or.inl ⟨by rfl, ?hy1⟩) hHeld ?rest1
          case hy1 => (intro w' hSw; unfold S1 at hSw; go_simp; try with_reducible rfl)
          try simp [Act.put]
          refine wpAnyH_take (i := 2) (v := ?v2) rfl (by kernel_rfl) (by kernel_rfl) (by kernel_rfl) (fun _ _ _ h => h) (Or.inl ⟨by rfl, ?hy2⟩) hHeld ?rest2
          case hy2 => (intro w' hSw; unfold S1 at hSw; go_simp; try with_reducible rfl)
          try simp [Act.put]
          refine wpAnyH_take (i := 3) (v := ?v3) rfl (by kernel_rfl) (by kernel_rfl) (by kernel_rfl) (fun _ _ _ h => h) (Or.inl ⟨by rfl, ?hy3⟩) hHeld ?rest3
          case hy3 => (intro w' hSw; unfold S1 at hSw; go_simp; try with_reducible rfl)
          try simp [Act.put]
          refine wpAnyH_take (i := 4) (v := ?v4) rfl (by kernel_rfl) (by kernel_rfl) (by kernel_rfl) (fun _ _ _ h => h) (Or.inl ⟨by rfl, ?hy4⟩) hHeld ?rest4
          case hy4 => (intro w' hSw; unfold S1 at hSw; go_simp; try with_reducible rfl)
          try simp [Act.put]
          refine wpAnyH_take (i := 5) (v := ?v5) rfl (by kernel_rfl) (by kernel_rfl) (by kernel_rfl) (fun _ _ _ h => h) (Or.inl ⟨by rfl, ?hy5⟩) hHeld ?rest5
          case hy5 => (intro w' hSw; unfold S1 at hSw; go_simp; try with_reducible rfl)
          try simp [Act.put]
          refine wpAnyH_take (i := 6) (v := ?v6) rfl (by kernel_rfl) (by kernel_rfl) (by kernel_rfl) (fun _ _ _ h => h) (Or.inl ⟨by rfl, ?hy6⟩) hHeld ?rest6
          case hy6 => (intro w' hSw; unfold S1 at hSw; go_simp; try with_reducible rfl)
          try simp [Act.put]
          refine wpAnyH_ready (rs := [1, 7]) (by kernel_rfl) (by simp) ?_
          refine AllReadyH.cons rfl (fun K hK => ?first) (AllReadyH.cons rfl (fun K hK => ?second) AllReadyH.nil)
          case first =>
            go_simp
            refine hK.out _ _ hS (fun hHeld => ?_)
            clear hK K
            try simp [Act.put]
            refine wpAnyH_ready (rs := [7]) (by kernel_rfl) (by simp) ?_
            refine AllReadyH.cons rfl (fun K hK => ?_) AllReadyH.nil
            go_simp
            refine hK.out _ _ HSW.out (fun hHeld => ?_)
            clear hK K
            try simp [Act.put]
            refine wpAnyH_ready (rs := [8]) (by kernel_rfl) (by simp) ?_
            refine AllReadyH.cons rfl (fun K hK => ?_) AllReadyH.nil
            rw [if_pos (by simp [Region.wanted])]
            refine wp_append_row (w2.heap.size + 1) (.tmp 44) (.tmp 50) 34 rfl 45 iL (.agg #[.int .i64 0, .int .i64 0]) 2 16 Try.underlying34 HIL.out HL0.out HL1.out HL2.out rfl (by decide) (.slice av k cv) k (lcV ms) (by simp [Act.eval]) (by have := HBXd.out.row; rw [HMSL.out] at this; exact this.alloc _) ⟨wr.heap.size, 0, none⟩ 1 1 [.int .i64 d, .int .i64 0] (by simp [Act.eval]) rfl (cell_two_new wr.drew _ _ _) (by simp [Value.oneCell']) (by unfold maxLen; omega) (by omega) (by show _ ≤ (wr.alloc _).heap.size; rw [World.size_alloc]; omega) ?_
            intro v' w3 hown hgr
            obtain ⟨g', cap', rfl⟩ := ownsRow_succ hown
            obtain ⟨hbxm, hbl3⟩ := HBXd.out.mid hgr
            have cst : w3.cell? ⟨w2.heap.size, 3, none⟩ = some (.slice av k cv) := cell_of_block hbxm
            have fst : w3.frozen? ⟨w2.heap.size, 3, none⟩ = false := free_of_block hbxm
            have HN3 := hide (HBXd.out.step (y := (d, 0)) (by rw [HMSL.out]; exact hown) hgr)
            have hS3 : S1 g (o + k) d w3 := (hbl3.cell (p := ⟨g, o + k, none⟩) hg).trans ((HBX.out.bel.cell (p := ⟨g, o + k, none⟩) hg).symm.trans ck)
            have HS4 : Hid (∀ v, S1 g (o + k) d (w3.setCell ⟨w2.heap.size, 3, none⟩ v)) := fun v => (World.cell?_of_block (a := ⟨g, o + k, none⟩) (Below.heap_setCell _ _ _ _ (by show g ≠ w2.heap.size; omega))).trans hS3
            clear hown hgr hbxm hbl3
            refine hK.out _ _ hS3 (fun hHeld => ?_)
            clear hK K
            try simp [Act.put]
            refine wpAnyH_take (i := 9) (v := ?v101) rfl (by kernel_rfl) (by kernel_rfl) (by kernel_rfl) (fun _ _ _ h => h) (Or.inl ⟨by rfl, ?hy101⟩) hHeld ?rest101
            case hy101 => (intro w' hSw; unfold S1 at hSw; go_simp; try with_reducible rfl)
            try simp [Act.put]
            refine wpAnyH_ready (rs := [10]) (by kernel_rfl) (by simp) ?_
            refine AllReadyH.cons rfl (fun K hK => ?_) AllReadyH.nil
            go_simp
            refine hK.out _ _ (HS4.out _) (fun hHeld => ?_)
            clear hK K
            try simp [Act.put]
            refine wpAnyH_done (by kernel_rfl) (NoPanic.normal ?_) _
            go_wp2_with fail
            all_goals first | exact ⟨⟨k + 1, _, by omega, by go_num, by rw [HTK.out]; exact HN3.out⟩, by simp [intOf]; omega⟩ | (go_roundw; (case rel => exact ⟨k + 1, _, by omega, by go_num, by rw [HTK.out]; exact HN3.out⟩); (case measure => simp [intOf]; omega))
          case second =>
            go_simp
            refine hK.out _ _ HSW.out (fun hHeld => ?_)
            clear hK K
            try simp [Act.put]
            refine wpAnyH_ready (rs := [1]) (by kernel_rfl) (by simp) ?_
            refine AllReadyH.cons rfl (fun K hK => ?_) AllReadyH.nil
            go_simp
            refine hK.out _ _ HSW.out (fun hHeld => ?_)
            clear hK K
            try simp [Act.put]
            refine wpAnyH_ready (rs := [8]) (by kernel_rfl) (by simp) ?_
            refine AllReadyH.cons rfl (fun K hK => ?_) AllReadyH.nil
            rw [if_pos (by simp [Region.wanted])]
            refine wp_append_row (w2.heap.size + 1) (.tmp 44) (.tmp 50) 34 rfl 45 iL (.agg #[.int .i64 0, .int .i64 0]) 2 16 Try.underlying34 HIL.out HL0.out HL1.out HL2.out rfl (by decide) (.slice av k cv) k (lcV ms) (by simp [Act.eval]) (by have := HBXd.out.row; rw [HMSL.out] at this; exact this.alloc _) ⟨wr.heap.size, 0, none⟩ 1 1 [.int .i64 d, .int .i64 0] (by simp [Act.eval]) rfl (cell_two_new wr.drew _ _ _) (by simp [Value.oneCell']) (by unfold maxLen; omega) (by omega) (by show _ ≤ (wr.alloc _).heap.size; rw [World.size_alloc]; omega) ?_
            intro v' w3 hown hgr
            obtain ⟨g', cap', rfl⟩ := ownsRow_succ hown
            obtain ⟨hbxm, hbl3⟩ := HBXd.out.mid hgr
            have cst : w3.cell? ⟨w2.heap.size, 3, none⟩ = some (.slice av k cv) := cell_of_block hbxm
            have fst : w3.frozen? ⟨w2.heap.size, 3, none⟩ = false := free_of_block hbxm
            have HN3 := hide (HBXd.out.step (y := (d, 0)) (by rw [HMSL.out]; exact hown) hgr)
            have hS3 : S1 g (o + k) d w3 := (hbl3.cell (p := ⟨g, o + k, none⟩) hg).trans ((HBX.out.bel.cell (p := ⟨g, o + k, none⟩) hg).symm.trans ck)
            have HS4 : Hid (∀ v, S1 g (o + k) d (w3.setCell ⟨w2.heap.size, 3, none⟩ v)) := fun v => (World.cell?_of_block (a := ⟨g, o + k, none⟩) (Below.heap_setCell _ _ _ _ (by show g ≠ w2.heap.size; omega))).trans hS3
            clear hown hgr hbxm hbl3
            refine hK.out _ _ hS3 (fun hHeld => ?_)
            clear hK K
            try simp [Act.put]
            refine wpAnyH_take (i := 9) (v := ?v201) rfl (by kernel_rfl) (by kernel_rfl) (by kernel_rfl) (fun _ _ _ h => h) (Or.inl ⟨by rfl, ?hy201⟩) hHeld ?rest201
            case hy201 => (intro w' hSw; unfold S1 at hSw; go_simp; try with_reducible rfl)
            try simp [Act.put]
            refine wpAnyH_ready (rs := [10]) (by kernel_rfl) (by simp) ?_
            refine AllReadyH.cons rfl (fun K hK => ?_) AllReadyH.nil
            go_simp
            refine hK.out _ _ (HS4.out _) (fun hHeld => ?_)
            clear hK K
            try simp [Act.put]
            refine wpAnyH_done (by kernel_rfl) (NoPanic.normal ?_) _
            go_wp2_with fail
            all_goals first | exact ⟨⟨k + 1, _, by omega, by go_num, by rw [HTK.out]; exact HN3.out⟩, by simp [intOf]; omega⟩ | (go_roundw; (case rel => exact ⟨k + 1, _, by omega, by go_num, by rw [HTK.out]; exact HN3.out⟩); (case measure => simp [intOf]; omega))
        · have hdk : decide ((k : Int) < 9) = false := by simp; omega
          obtain rfl : k = 9 := by omega
          have hT : (evLs i).take 9 = evLs i := List.take_of_length_le (by rw [evLs_len]; omega)
          rw [hT] at HBX
          obtain ⟨b0, b1, b2, b3, bf⟩ := HBX.out.cells
          have HVR3 := hide (HVR2.out.below HBX.out.bel)
          have hsz3 := HVR3.out.row.2.size
          have hrow := HBX.out.row
          rw [evLs_len] at hrow
          have HROW : Hid (wr.ownsRow w.heap.size 45 2 (.slice av 9 cv) 9 (lcV (evLs i))) := own_mono hrow (by have := HVR2.out.row.2.size; omega)
          have HLS3 : Hid ((ns ++ [(⟨(i : Int), 0, 0, av, 9, cv, evLs i⟩ : Vol)]).map Vol.ls = (List.range (i + 1)).map evLs) := by
            unfold Hid
            rw [List.map_append, HLS.out, List.range_succ, List.map_append]; rfl
          have hns : ns.length ≤ 60 := by have := HNL.out; omega
          clear hrow hT hlen
          go_wp2_with (first | (at_builtin; refine wpList_append_own _ rfl (.tmp 53) (.tmp 55) 33 rfl w.heap.size 36 iV (.agg #[.int .i64 0, .int .i64 0, .int .i64 0, .slice none 0 0]) 4 48 Try.underlying33 HIV.out HV0.out HV1.out HV2.out rfl (by decide) _ _ _ rfl (HVR3.out.row.1.alloc _) ⟨wr.heap.size, 0, none⟩ 1 1 (volC ⟨(i : Int), 0, 0, av, 9, cv, evLs i⟩) rfl rfl (cell_four_new _ _ _) (by simp [Value.oneCell', volC]) (by unfold maxLen; omega) (by omega) (by simp only [World.size_alloc]; omega) ?_; intro v' w3 hown hgr hnil; clear hnil; have HN3 := hide (HVR3.out.step (x := ⟨(i : Int), 0, 0, av, 9, cv, evLs i⟩) (evLs_len i) (by show 9 ≤ 1000; omega) HROW.out hown hgr); clear hown hgr))
          all_goals first | exact ⟨⟨i + 1, _, by omega, by go_num, by rw [List.length_append]; have := HNL.out; simp; omega, HLS3.out, HN3.out⟩, by simp [intOf]; omega⟩ | (go_roundw; (case rel => exact ⟨i + 1, _, by omega, by go_num, by rw [List.length_append]; have := HNL.out; simp; omega, HLS3.out, HN3.out⟩); (case measure => simp [intOf]; omega))
    · have hdi : decide ((i : Int) < (n : Int)) = false := by simp; omega
      obtain rfl : i = n := by omega
      obtain ⟨an, cn, hve, hvn⟩ := HVR.out.at
      rw [HNL.out] at hve
      subst hve
      have HVN := hide hvn
      clear hvn
      have HB0 := hide HVR.out.row.2
      have hall : allN (ns.map Vol.ls) ≤ 4611686018427387904 := by
        rw [HLS.out]
        unfold allN
        rw [List.map_map]
        have : ∀ q ∈ (List.range i).map (List.length ∘ evLs), q ≤ 9 := fun q hq => by
          obtain ⟨x, -, rfl⟩ := List.mem_map.1 hq
          exact Nat.le_of_eq (evLs_len x)
        have hsum : ∀ (l : List Nat), (∀ q ∈ l, q ≤ 9) → l.sum ≤ 9 * l.length := by
          intro l
          induction l with
          | nil => intro _; simp
          | cons a l ih =>
            intro h
            have h1 := ih fun q hq => h q (by simp [hq])
            have h2 := h a (by simp)
            simp only [List.sum_cons, List.length_cons]
            omega
        have := hsum _ this
        simp only [List.length_map, List.length_range] at this
        omega
      have HALL := hide hall
      have HLD := hide (load_any an i cn ns wo HNL.out (by omega) HVN.out HALL.out)
      rw [HLS.out] at HLD
      clear hall
      go_wp2_with fail
      refine HLD.out.mono ?_
      rintro e w1 ⟨g, rfl, -, hc1, hb1⟩
      have HB1 : Hid (Below w.heap.size w w1) := HB0.out.trans (hb1.mono HB0.out.size)
      have HC1 : Hid (CntAt w1 g (rcO 0 i)) := hc1.congr fun d _ => ldV_ev i d
      have HVN1 := hide (HVN.out.below hb1)
      clear hc1 hb1 HLD
      go_wp2_with fail
      refine (all_any _).mono ?_
      rintro e w2 ⟨rfl, hI2, hb2⟩
      have HB2 : Hid (Below w.heap.size w w2) := HB1.out.trans (hb2.mono HB1.out.size)
      have HC2 : Hid (CntAt w2 g (rcO 0 i)) := FnAt.below HC1.out hb2 HC1.out.lt
      have HEV := hide (even_any an (some ⟨w1.heap.size, 0, none⟩) i cn 12 12 all12 ns w2 HNL.out (by omega) (HVN1.out.below hb2) HALL.out rfl (by omega) hI2)
      clear hI2 hb2
      have hB : evB all12 = true := by decide
      have hM : ∃ m : Nat, m < 12 ∧ evM (ns.map Vol.ls) all12 = (m : Int) := by
        obtain ⟨q, hq, e⟩ := mostT_in (ldV (ns.map Vol.ls)) (l := all12) (by decide) all12.length
        have := live_at live_all12 hq
        rw [← e] at this
        refine ⟨(mostT (ldV (ns.map Vol.ls)) all12 all12.length).toNat, by omega, ?_⟩
        unfold evM; rw [if_pos hB]; omega
      have hX : ∃ m : Nat, m < 12 ∧ evL (ns.map Vol.ls) all12 = (m : Int) := by
        obtain ⟨q, hq, e⟩ := leastT_in (ldV (ns.map Vol.ls)) (l := all12) (by decide) all12.length
        have := live_at live_all12 hq
        rw [← e] at this
        refine ⟨(leastT (ldV (ns.map Vol.ls)) all12 all12.length).toNat, by omega, ?_⟩
        unfold evL; rw [if_pos hB]; omega
      obtain ⟨m, hm12, hm⟩ := hM
      obtain ⟨x, hx12, hx⟩ := hX
      unfold Evened at HEV
      rw [hm, hx] at HEV
      clear hm hx hB
      generalize evU (ns.map Vol.ls) all12 = U at *
      have p1 : decide ((m : Int) < 0) = false := by simp
      have p2 : decide ((11 : Int) < (m : Int)) = false := by simp; omega
      have p3 : decide ((x : Int) < 0) = false := by simp
      have p4 : decide ((11 : Int) < (x : Int)) = false := by simp; omega
      go_wp2_with fail
      refine HEV.out.mono ?_
      rintro e w3 ⟨rfl, hb3⟩
      have HB3 : Hid (Below w.heap.size w w3) := HB2.out.trans (hb3.mono HB2.out.size)
      have HC3 : Hid (CntAt w3 g (rcO 0 i)) := FnAt.below HC2.out hb3 HC2.out.lt
      clear hb3
      go_wp2_with fail
      go_loop [13, 14] (fun u y => ∃ q : Nat, q ≤ 12 ∧ y = .int .i64 q ∧ u = .int .i64 ((smN (rcO 0 i) q : Nat) : Int)) (fun _ y => 12 - (intOf y).toNat)
      case atStart => exact ⟨0, by omega, rfl, rfl⟩
      case round =>
        obtain ⟨q, hq, rfl, rfl⟩ := hrel
        by_cases hql : q < 12
        · have hdq : decide ((q : Int) < 12) = true := by simp; omega
          have hqi : (q : Int) < 12 := by omega
          have cq := HC3.out.cell hql
          have hbq : smN (rcO 0 i) q + rcO 0 i q ≤ 10000 := by
            have hle : ∀ k, smN (rcO 0 i) k ≤ 540 * k := by
              intro k
              induction k with
              | zero => simp [smN]
              | succ k ih => rw [smN_succ]; have := rcO_le 0 k i; omega
            have h1 := hle q
            have h2 := rcO_le 0 q i
            omega
          have HSM := hide (smN_succ (rcO 0 i) q)
          generalize smN (rcO 0 i) q = A at *
          generalize rcO 0 i q = B at *
          have hw : IntKind.i64.wrap ((A : Int) + (B : Int)) = (A : Int) + (B : Int) := wrap_in (by omega) (by omega)
          go_wp2_with fail
          go_round
          case rel => exact ⟨q + 1, by omega, by go_num, by rw [HSM.out]; go_num⟩
          case measure => simp [intOf]; omega
        · have hdq : decide ((q : Int) < 12) = false := by simp; omega
          obtain rfl : q = 12 := by omega
          have q1 := HC3.out.cell hm12
          have q2 := HC3.out.cell hx12
          have hnear := rc_near i hm12 hx12
          have hb1 := rcO_le 0 m i
          have hb2 := rcO_le 0 x i
          rw [rc_sum]
          generalize rcO 0 i m = Fm at *
          generalize rcO 0 i x = Fx at *
          have s0 : IntKind.i64.wrap (9 * (i : Int)) = 9 * (i : Int) := wrap_in (by omega) (by omega)
          have s1 : IntKind.i64.wrap ((Fm : Int) - (Fx : Int)) = (Fm : Int) - (Fx : Int) := by rw [IntKind.wrap_i64]; omega
          have t1 : decide ((Fm : Int) - (Fx : Int) ≤ 9) = true := by simp; omega
          have hmi : (m : Int) < 12 := by omega
          have hxi : (x : Int) < 12 := by omega
          have hm0 : (0 : Int) ≤ (m : Int) := by omega
          have hx0 : (0 : Int) ≤ (x : Int) := by omega
          have hcast : ((9 * i : Nat) : Int) = 9 * (i : Int) := by omega
          rw [hcast]
          clear hnear hb1 hb2 hcast
          go_wp2_with fail
          have r1 := cell_regrown q1
          have r2 := cell_regrown q2
          have rl := even_q w3
          clear q1 q2
          refine wp_region_quiet_below (by kernel_rfl) (by kernel_rfl) ?_
          repeat (quiet_step (first | (with_reducible exact rl _ _)))
          refine wpQuiet_nil ?_
          intro _ hw'
          obtain ⟨pq, hw''⟩ := hw'
          subst hw''
          have HQ := hide (HB3.out.trans ((below_regrown w3 pq.d pq.os).mono HB3.out.size))
          generalize Go.Sort.grow (redrawn w3 pq.d) pq.os = WQ at *
          go_wp2_with fail
          try go_ret
          exact ⟨rfl, HQ.out⟩
end Go.Proofs.Ytleknjjfmklkcaa
