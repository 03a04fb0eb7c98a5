/- What record.takenVolume answers. -/
import Derived.Test.YtaiafbihcfbglaaRcRd
namespace Go.Proofs.Ytaiafbihcfbglaa
open Go.RowKit
set_option linter.unusedVariables false
theorem vol_info : (Try.prog.info? 29).map (·.size) = some 4 := by kernel_rfl
set_option maxRecDepth 100000 in
set_option maxHeartbeats 16000000 in
theorem takenVol_any (C : Prop) (bp : Nat) (s : ByteArray) (w : World) (hR : RdC C w bp 131 s) (hs : s.size ≤ 1000000000000000) (hC : C → clnV s) : Calls Try.prog 82 #[.pointer (some ⟨bp, 0, none⟩)] w fun e w' => ∃ a c, e = .returned (.agg (vlc (rN s : Nat) (rN (rR s) : Nat) (rN (rR (rR s)) : Nat) a 9 c)) ∧ LocsAt w' a (lcsT 9 (rR (rR (rR s)))) ∧ (∀ b o, a = some ⟨b, o, none⟩ → w.heap.size ≤ b ∧ LocB w' b) ∧ RdC C w' bp 131 (lcsR 9 (rR (rR (rR s)))) ∧ Ba bp w w' := by
  have hbp := hR.lt
  have l1 := rR_size s
  have l2 := rR_size (rR s)
  have l3 := rR_size (rR (rR s))
  have x1 : Hid (∀ W, RdC C W bp 131 s → Calls Try.prog 81 #[.pointer (some ⟨bp, 0, none⟩)] W fun r w' => r = .returned (.int .i64 (rN s : Nat)) ∧ RdC C w' bp 131 (rR s) ∧ But bp W w') := fun W h => rnum_c C bp s W h hs fun c => (hC c).1
  have x2 : Hid (∀ W, RdC C W bp 131 (rR s) → Calls Try.prog 81 #[.pointer (some ⟨bp, 0, none⟩)] W fun r w' => r = .returned (.int .i64 (rN (rR s) : Nat)) ∧ RdC C w' bp 131 (rR (rR s)) ∧ But bp W w') := fun W h => rnum_c C bp _ W h (by omega) fun c => (hC c).2.1
  have x3 : Hid (∀ W, RdC C W bp 131 (rR (rR s)) → Calls Try.prog 81 #[.pointer (some ⟨bp, 0, none⟩)] W fun r w' => r = .returned (.int .i64 (rN (rR (rR s)) : Nat)) ∧ RdC C w' bp 131 (rR (rR (rR s))) ∧ But bp W w') := fun W h => rnum_c C bp _ W h (by omega) fun c => (hC c).2.2.1
  have hcl : Hid (C → ∀ i, i < 9 → rE (lcsR i (rR (rR (rR s)))) = 0 ∧ rE (rR (lcsR i (rR (rR (rR s))))) = 0) := fun c => (hC c).2.2.2
  have hs3 : (rR (rR (rR s))).size ≤ 1000000000000000 := by omega
  clear hC l1 l2 l3
  generalize rR (rR (rR s)) = s3 at *
  generalize rN (rR (rR s)) = n3 at *
  generalize rR (rR s) = s2 at *
  generalize rN (rR s) = n2 at *
  generalize rR s = s1 at *
  generalize rN s = n1 at *
  have HZ1 : Hid ((w.alloc (.cells #[.int .i64 0, .int .i64 0, .int .i64 0, .slice none 0 0] 29)).heap[w.heap.size]? = some (.cells #[.int .i64 0, .int .i64 0, .int .i64 0, .slice none 0 0] 29 (0, 0))) := heap_alloc_new _ _
  have HR1 := hide (hR.below ((Below.refl _ _).alloc (Nat.le_refl _) (.cells #[.int .i64 0, .int .i64 0, .int .i64 0, .slice none 0 0] 29)))
  have HA1 := hide ((Ba.refl bp w).alloc (.cells #[.int .i64 0, .int .i64 0, .int .i64 0, .slice none 0 0] 29))
  have HS1 : Hid ((w.alloc (.cells #[.int .i64 0, .int .i64 0, .int .i64 0, .slice none 0 0] 29)).heap.size = w.heap.size + 1) := World.size_alloc _ _
  have hzp : w.heap.size ≠ bp := by omega
  obtain ⟨iL, hiL, hL0, hL1, hL2⟩ := info_parts loc_info
  have HIL := hide hiL
  have HL0 := hide hL0
  have HL1 := hide hL1
  have HL2 := hide hL2
  clear hR hs hiL hL0 hL1 hL2
  go_enter Try.func82, Try.ntmps82
  go_upto_region 1 with fail
  generalize w.alloc (.cells #[.int .i64 0, .int .i64 0, .int .i64 0, .slice none 0 0] 29) = W1 at *
  go_wp2_with fail
  refine (x1.out W1 HR1.out).mono ?_
  rintro e u1 ⟨rfl, hr1, hb1⟩
  have R1 := hide hr1
  have B1 := hide hb1
  clear hr1 hb1
  go_wp2_with fail
  refine (x2.out u1 R1.out).mono ?_
  rintro e u2 ⟨rfl, hr1, hb1⟩
  have R2 := hide hr1
  have B2 := hide (B1.out.trans hb1)
  clear hr1 hb1 R1 B1
  go_wp2_with fail
  refine (x3.out u2 R2.out).mono ?_
  rintro e u3 ⟨rfl, hr1, hb1⟩
  have R3 := hide hr1
  have B3 := hide (B2.out.trans hb1)
  clear hr1 hb1 R2 B2
  have hsz : u3.heap.size = w.heap.size + 1 := by rw [B3.out.size, HS1.out]
  have Z3 := hide ((B3.out.block w.heap.size hzp).trans HZ1.out)
  have A3 := hide (HA1.out.trans B3.out.ba)
  have V4 : Hid (Vb w bp (w.heap.size + 1) (n1 : Int) (n2 : Int) (n3 : Int) (.slice none 0 0) [] (u3.alloc (.cells #[.int .i64 (n1 : Int), .int .i64 (n2 : Int), .int .i64 (n3 : Int), .slice none 0 0] 29))) :=
    ⟨by rw [← hsz]; exact heap_alloc_new _ _, World.ownsRow_nil _ _ _ _, A3.out.alloc _, by omega, hbp⟩
  have R4 := hide (R3.out.below ((Below.refl _ _).alloc (Nat.le_refl _) (.cells #[.int .i64 (n1 : Int), .int .i64 (n2 : Int), .int .i64 (n3 : Int), .slice none 0 0] 29)))
  have Z4 := hide ((Below.heap_alloc _ (.cells #[.int .i64 (n1 : Int), .int .i64 (n2 : Int), .int .i64 (n3 : Int), .slice none 0 0] 29) _ (lt_of_block Z3.out)).trans Z3.out)
  clear HZ1 HR1 HA1 HS1 R3 B3 Z3 A3 x1 x2 x3
  have hsz2 := hsz
  go_wp2_with fail
  go_loopw [11] (fun y wr => ∃ (k : Nat) (v : Value), k ≤ 9 ∧ y = .int .i64 k ∧ Vb w bp (w.heap.size + 1) (n1 : Int) (n2 : Int) (n3 : Int) v (lcsT k s3) wr ∧ RdC C wr bp 131 (lcsR k s3) ∧ wr.heap[w.heap.size]? = some (.cells #[.int .i64 0, .int .i64 0, .int .i64 0, .slice none 0 0] 29 (0, 0))) (fun y _ => 9 - (intOf y).toNat)
  case atStart => exact ⟨0, _, by omega, rfl, V4.out, R4.out, Z4.out⟩
  case round =>
    obtain ⟨k, v, hk, rfl, hv, hr, hz⟩ := hrel
    clear V4 R4 Z4
    have HLS : Hid ((lcsT k s3).length = k) := lcsT_len k s3
    obtain ⟨av, cap, rfl, hcap⟩ := own_form hv.row
    rw [HLS.out] at hv
    have V0 := hide hv
    have R0 := hide hr
    have Z0 := hide hz
    clear hv hr hz hcap
    by_cases hlt : k < 9
    · have hd : decide ((k : Int) < 9) = true := by simp; omega
      have hdi : (k : Int) < 9 := by omega
      have hz1 := lcsR_size k s3
      have hz2 := rR_size (lcsR k s3)
      have HA : Hid (∀ W, RdC C W bp 131 (lcsR k s3) → Calls Try.prog 81 #[.pointer (some ⟨bp, 0, none⟩)] W fun r w' => r = .returned (.int .i64 (rN (lcsR k s3) : Nat)) ∧ RdC C w' bp 131 (rR (lcsR k s3)) ∧ But bp W w') := fun W h => rnum_c C bp _ W h (by omega) fun c => (hcl.out c k hlt).1
      have HC : Hid (∀ W, RdC C W bp 131 (rR (lcsR k s3)) → Calls Try.prog 81 #[.pointer (some ⟨bp, 0, none⟩)] W fun r w' => r = .returned (.int .i64 (rN (rR (lcsR k s3)) : Nat)) ∧ RdC C w' bp 131 (rR (rR (lcsR k s3))) ∧ But bp W w') := fun W h => rnum_c C bp _ W h (by omega) fun c => (hcl.out c k hlt).2
      have HT : Hid (lcsT (k + 1) s3 = lcsT k s3 ++ [(((rN (lcsR k s3) : Nat) : Int), ((rN (rR (lcsR k s3)) : Nat) : Int))]) := rfl
      have HS3 : Hid (lcsR (k + 1) s3 = rR (rR (lcsR k s3))) := rfl
      clear hz1 hz2
      generalize rR (rR (lcsR k s3)) = S2 at *
      generalize rN (rR (lcsR k s3)) = nb at *
      generalize rR (lcsR k s3) = S1 at *
      generalize rN (lcsR k s3) = na at *
      generalize lcsT k s3 = ls at *
      generalize lcsR k s3 = S0 at *
      go_wp2_with fail
      refine wp_region_noPanic ?_
      refine wp_region_held_drew (S := fun _ => True) (by kernel_rfl) trivial (fun hHeld => ?_)
      have V1 : Hid (Vb w bp (w.heap.size + 1) (n1 : Int) (n2 : Int) (n3 : Int) (.slice av k cap) ls wr.drew) := V0.out.keep (ba_below (drew_below wr))
      have R1 : Hid (RdC C wr.drew bp 131 S0) := R0.out.below (drew_below wr)
      have Z1 : Hid (wr.drew.heap[w.heap.size]? = some (.cells #[.int .i64 0, .int .i64 0, .int .i64 0, .slice none 0 0] 29 (0, 0))) := Z0.out
      generalize wr.drew = wd at *
      refine wpAnyH_take (i := 0) (v := ?v1) rfl (by kernel_rfl) (by kernel_rfl) (by kernel_rfl) (fun _ _ _ h => h) (Or.inl ⟨by rfl, ?hy1⟩) hHeld ?rest1
      case hy1 => (intro w' hSw; go_simp; try with_reducible rfl)
      try simp [Act.put]
      refine wpAnyH_take (i := 2) (v := ?v2) rfl (by kernel_rfl) (by kernel_rfl) (by kernel_rfl) (fun _ _ _ h => h) (Or.inl ⟨by rfl, ?hy2⟩) hHeld ?rest2
      case hy2 => (intro w' hSw; go_simp; try with_reducible rfl)
      try simp [Act.put]
      refine wpAnyH_take (i := 4) (v := ?v3) rfl (by kernel_rfl) (by kernel_rfl) (by kernel_rfl) (fun _ _ _ h => h) (Or.inl ⟨by rfl, ?hy3⟩) hHeld ?rest3
      case hy3 => (intro w' hSw; go_simp; try with_reducible rfl)
      try simp [Act.put]
      refine wpAnyH_ready (rs := [1, 3]) (by kernel_rfl) (by simp) ?_
      refine AllReadyH.cons rfl (fun K hK => ?f4) (AllReadyH.cons rfl (fun K hK => ?g4) AllReadyH.nil)
      case f4 =>
        have cv5 : wd.cell? ⟨w.heap.size + 1, 3, none⟩ = some (.slice av k cap) := cell_of_block V1.out.box
        go_simp
        refine hK.out _ _ trivial (fun hHeld => ?_)
        clear hK K
        try simp [Act.put]
        clear cv5
        refine wpAnyH_ready (rs := [3]) (by kernel_rfl) (by simp) ?_
        refine AllReadyH.cons rfl (fun K hK => ?_) AllReadyH.nil
        go_simp
        refine (HA.out wd R1.out).mono ?_
        rintro e u6 ⟨rfl, hr, hb⟩
        have V6 := hide (V1.out.keep hb.ba)
        have R6 := hide hr
        have Z6 := hide ((hb.block w.heap.size hzp).trans Z1.out)
        clear hr hb
        refine hK.out _ _ trivial (fun hHeld => ?_)
        clear hK K
        try simp [Act.put]
        refine wpAnyH_ready (rs := [5]) (by kernel_rfl) (by simp) ?_
        refine AllReadyH.cons rfl (fun K hK => ?_) AllReadyH.nil
        go_simp
        refine (HC.out u6 R6.out).mono ?_
        rintro e u7 ⟨rfl, hr, hb⟩
        have V7 := hide (V6.out.keep hb.ba)
        have R7 := hide hr
        have Z7 := hide ((hb.block w.heap.size hzp).trans Z6.out)
        clear hr hb
        refine hK.out _ _ trivial (fun hHeld => ?_)
        clear hK K
        try simp [Act.put]
        refine wpAnyH_take (i := 6) (v := ?v8) rfl (by kernel_rfl) (by kernel_rfl) (by kernel_rfl) (fun _ _ _ h => h) (Or.inl ⟨by rfl, ?hy8⟩) hHeld ?rest8
        case hy8 => (intro w' hSw; go_simp; try with_reducible rfl)
        try simp [Act.put]
        refine wpAnyH_ready (rs := [7]) (by kernel_rfl) (by simp) ?_
        refine AllReadyH.cons rfl (fun K hK => ?_) AllReadyH.nil
        go_simp
        refine hK.out _ _ trivial (fun hHeld => ?_)
        clear hK K
        try simp [Act.put]
        refine wpAnyH_ready (rs := [8]) (by kernel_rfl) (by simp) ?_
        refine AllReadyH.cons rfl (fun K hK => ?_) AllReadyH.nil
        rw [if_pos (by simp [Region.wanted])]
        refine wp_append_row w.heap.size (.tmp 14) (.tmp 20) 27 rfl 92 iL (.agg #[.int .i64 0, .int .i64 0]) 2 16 Try.underlying27 HIL.out HL0.out HL1.out HL2.out rfl (by decide) (.slice av k cap) k (lcV ls) (by simp [Act.eval]) (by have q := V7.out.row; rw [HLS.out] at q; exact own_alloc q _) ⟨u7.heap.size, 0, none⟩ 1 1 [.int .i64 (na : Int), .int .i64 (nb : Int)] (by simp [Act.eval]) rfl (cell_two_new _ _ _ _) (by simp [Value.oneCell']) (by unfold maxLen; omega) (by omega) (by rw [World.size_alloc]; have := V7.out.ba.size; omega) ?_
        intro v' w3 hown hgr
        obtain ⟨a', c', rfl, _⟩ := own_form hown
        obtain ⟨hbx, hba, hkp, hrd⟩ := V7.out.mid hgr
        have cst : w3.cell? ⟨w.heap.size + 1, 3, none⟩ = some (.slice av k cap) := cell_of_block hbx
        have fst : w3.frozen? ⟨w.heap.size + 1, 3, none⟩ = false := free_of_block hbx
        have V9 := hide (V7.out.step (x := (na : Int)) (y := (nb : Int)) (by rw [HLS.out]; exact hown) hgr)
        have R9 : Hid (RdC C (w3.setCell ⟨w.heap.size + 1, 3, none⟩ (.slice a' (k + 1) c')) bp 131 S2) := (R7.out.keep hrd).away (by have := V7.out.rd; omega) _
        have Z9 : Hid ((w3.setCell ⟨w.heap.size + 1, 3, none⟩ (.slice a' (k + 1) c')).heap[w.heap.size]? = some (.cells #[.int .i64 0, .int .i64 0, .int .i64 0, .slice none 0 0] 29 (0, 0))) := (Below.heap_setCell _ _ _ _ (by show w.heap.size ≠ w.heap.size + 1; omega)).trans ((hkp w.heap.size (lt_of_block Z7.out) (fun cur q => by rw [Z7.out] at q; simp at q)).trans Z7.out)
        clear hown hgr hbx hba hkp hrd
        refine hK.out _ _ trivial (fun hHeld => ?_)
        clear hK K
        try simp [Act.put]
        refine wpAnyH_take (i := 9) (v := ?v11) rfl (by kernel_rfl) (by kernel_rfl) (by kernel_rfl) (fun _ _ _ h => h) (Or.inl ⟨by rfl, ?hy11⟩) hHeld ?rest11
        case hy11 => (intro w' hSw; go_simp; try with_reducible rfl)
        try simp [Act.put]
        refine wpAnyH_ready (rs := [10]) (by kernel_rfl) (by simp) ?_
        refine AllReadyH.cons rfl (fun K hK => ?_) AllReadyH.nil
        go_simp
        refine hK.out _ _ trivial (fun hHeld => ?_)
        clear hK K
        try simp [Act.put]
        refine wpAnyH_done (by kernel_rfl) (NoPanic.normal ?_) _
        go_wp2_with fail
        exact ⟨⟨k + 1, _, by omega, by go_num, by rw [HT.out]; exact V9.out, by rw [HS3.out]; exact R9.out, Z9.out⟩, by simp [intOf]; omega⟩
      case g4 =>
        go_simp
        refine (HA.out wd R1.out).mono ?_
        rintro e u12 ⟨rfl, hr, hb⟩
        have V12 := hide (V1.out.keep hb.ba)
        have R12 := hide hr
        have Z12 := hide ((hb.block w.heap.size hzp).trans Z1.out)
        clear hr hb
        refine hK.out _ _ trivial (fun hHeld => ?_)
        clear hK K
        try simp [Act.put]
        refine wpAnyH_ready (rs := [1, 5]) (by kernel_rfl) (by simp) ?_
        refine AllReadyH.cons rfl (fun K hK => ?f13) (AllReadyH.cons rfl (fun K hK => ?g13) AllReadyH.nil)
        case f13 =>
          have cv14 : u12.cell? ⟨w.heap.size + 1, 3, none⟩ = some (.slice av k cap) := cell_of_block V12.out.box
          go_simp
          refine hK.out _ _ trivial (fun hHeld => ?_)
          clear hK K
          try simp [Act.put]
          clear cv14
          refine wpAnyH_ready (rs := [5]) (by kernel_rfl) (by simp) ?_
          refine AllReadyH.cons rfl (fun K hK => ?_) AllReadyH.nil
          go_simp
          refine (HC.out u12 R12.out).mono ?_
          rintro e u15 ⟨rfl, hr, hb⟩
          have V15 := hide (V12.out.keep hb.ba)
          have R15 := hide hr
          have Z15 := hide ((hb.block w.heap.size hzp).trans Z12.out)
          clear hr hb
          refine hK.out _ _ trivial (fun hHeld => ?_)
          clear hK K
          try simp [Act.put]
          refine wpAnyH_take (i := 6) (v := ?v16) rfl (by kernel_rfl) (by kernel_rfl) (by kernel_rfl) (fun _ _ _ h => h) (Or.inl ⟨by rfl, ?hy16⟩) hHeld ?rest16
          case hy16 => (intro w' hSw; go_simp; try with_reducible rfl)
          try simp [Act.put]
          refine wpAnyH_ready (rs := [7]) (by kernel_rfl) (by simp) ?_
          refine AllReadyH.cons rfl (fun K hK => ?_) AllReadyH.nil
          go_simp
          refine hK.out _ _ trivial (fun hHeld => ?_)
          clear hK K
          try simp [Act.put]
          refine wpAnyH_ready (rs := [8]) (by kernel_rfl) (by simp) ?_
          refine AllReadyH.cons rfl (fun K hK => ?_) AllReadyH.nil
          rw [if_pos (by simp [Region.wanted])]
          refine wp_append_row w.heap.size (.tmp 14) (.tmp 20) 27 rfl 92 iL (.agg #[.int .i64 0, .int .i64 0]) 2 16 Try.underlying27 HIL.out HL0.out HL1.out HL2.out rfl (by decide) (.slice av k cap) k (lcV ls) (by simp [Act.eval]) (by have q := V15.out.row; rw [HLS.out] at q; exact own_alloc q _) ⟨u15.heap.size, 0, none⟩ 1 1 [.int .i64 (na : Int), .int .i64 (nb : Int)] (by simp [Act.eval]) rfl (cell_two_new _ _ _ _) (by simp [Value.oneCell']) (by unfold maxLen; omega) (by omega) (by rw [World.size_alloc]; have := V15.out.ba.size; omega) ?_
          intro v' w3 hown hgr
          obtain ⟨a', c', rfl, _⟩ := own_form hown
          obtain ⟨hbx, hba, hkp, hrd⟩ := V15.out.mid hgr
          have cst : w3.cell? ⟨w.heap.size + 1, 3, none⟩ = some (.slice av k cap) := cell_of_block hbx
          have fst : w3.frozen? ⟨w.heap.size + 1, 3, none⟩ = false := free_of_block hbx
          have V9 := hide (V15.out.step (x := (na : Int)) (y := (nb : Int)) (by rw [HLS.out]; exact hown) hgr)
          have R9 : Hid (RdC C (w3.setCell ⟨w.heap.size + 1, 3, none⟩ (.slice a' (k + 1) c')) bp 131 S2) := (R15.out.keep hrd).away (by have := V15.out.rd; omega) _
          have Z9 : Hid ((w3.setCell ⟨w.heap.size + 1, 3, none⟩ (.slice a' (k + 1) c')).heap[w.heap.size]? = some (.cells #[.int .i64 0, .int .i64 0, .int .i64 0, .slice none 0 0] 29 (0, 0))) := (Below.heap_setCell _ _ _ _ (by show w.heap.size ≠ w.heap.size + 1; omega)).trans ((hkp w.heap.size (lt_of_block Z15.out) (fun cur q => by rw [Z15.out] at q; simp at q)).trans Z15.out)
          clear hown hgr hbx hba hkp hrd
          refine hK.out _ _ trivial (fun hHeld => ?_)
          clear hK K
          try simp [Act.put]
          refine wpAnyH_take (i := 9) (v := ?v19) rfl (by kernel_rfl) (by kernel_rfl) (by kernel_rfl) (fun _ _ _ h => h) (Or.inl ⟨by rfl, ?hy19⟩) hHeld ?rest19
          case hy19 => (intro w' hSw; go_simp; try with_reducible rfl)
          try simp [Act.put]
          refine wpAnyH_ready (rs := [10]) (by kernel_rfl) (by simp) ?_
          refine AllReadyH.cons rfl (fun K hK => ?_) AllReadyH.nil
          go_simp
          refine hK.out _ _ trivial (fun hHeld => ?_)
          clear hK K
          try simp [Act.put]
          refine wpAnyH_done (by kernel_rfl) (NoPanic.normal ?_) _
          go_wp2_with fail
          exact ⟨⟨k + 1, _, by omega, by go_num, by rw [HT.out]; exact V9.out, by rw [HS3.out]; exact R9.out, Z9.out⟩, by simp [intOf]; omega⟩
        case g13 =>
          go_simp
          refine (HC.out u12 R12.out).mono ?_
          rintro e u20 ⟨rfl, hr, hb⟩
          have V20 := hide (V12.out.keep hb.ba)
          have R20 := hide hr
          have Z20 := hide ((hb.block w.heap.size hzp).trans Z12.out)
          clear hr hb
          refine hK.out _ _ trivial (fun hHeld => ?_)
          clear hK K
          try simp [Act.put]
          refine wpAnyH_take (i := 6) (v := ?v21) rfl (by kernel_rfl) (by kernel_rfl) (by kernel_rfl) (fun _ _ _ h => h) (Or.inl ⟨by rfl, ?hy21⟩) hHeld ?rest21
          case hy21 => (intro w' hSw; go_simp; try with_reducible rfl)
          try simp [Act.put]
          refine wpAnyH_ready (rs := [1, 7]) (by kernel_rfl) (by simp) ?_
          refine AllReadyH.cons rfl (fun K hK => ?f22) (AllReadyH.cons rfl (fun K hK => ?g22) AllReadyH.nil)
          case f22 =>
            have cv23 : u20.cell? ⟨w.heap.size + 1, 3, none⟩ = some (.slice av k cap) := cell_of_block V20.out.box
            go_simp
            refine hK.out _ _ trivial (fun hHeld => ?_)
            clear hK K
            try simp [Act.put]
            clear cv23
            refine wpAnyH_ready (rs := [7]) (by kernel_rfl) (by simp) ?_
            refine AllReadyH.cons rfl (fun K hK => ?_) AllReadyH.nil
            go_simp
            refine hK.out _ _ trivial (fun hHeld => ?_)
            clear hK K
            try simp [Act.put]
            refine wpAnyH_ready (rs := [8]) (by kernel_rfl) (by simp) ?_
            refine AllReadyH.cons rfl (fun K hK => ?_) AllReadyH.nil
            rw [if_pos (by simp [Region.wanted])]
            refine wp_append_row w.heap.size (.tmp 14) (.tmp 20) 27 rfl 92 iL (.agg #[.int .i64 0, .int .i64 0]) 2 16 Try.underlying27 HIL.out HL0.out HL1.out HL2.out rfl (by decide) (.slice av k cap) k (lcV ls) (by simp [Act.eval]) (by have q := V20.out.row; rw [HLS.out] at q; exact own_alloc q _) ⟨u20.heap.size, 0, none⟩ 1 1 [.int .i64 (na : Int), .int .i64 (nb : Int)] (by simp [Act.eval]) rfl (cell_two_new _ _ _ _) (by simp [Value.oneCell']) (by unfold maxLen; omega) (by omega) (by rw [World.size_alloc]; have := V20.out.ba.size; omega) ?_
            intro v' w3 hown hgr
            obtain ⟨a', c', rfl, _⟩ := own_form hown
            obtain ⟨hbx, hba, hkp, hrd⟩ := V20.out.mid hgr
            have cst : w3.cell? ⟨w.heap.size + 1, 3, none⟩ = some (.slice av k cap) := cell_of_block hbx
            have fst : w3.frozen? ⟨w.heap.size + 1, 3, none⟩ = false := free_of_block hbx
            have V9 := hide (V20.out.step (x := (na : Int)) (y := (nb : Int)) (by rw [HLS.out]; exact hown) hgr)
            have R9 : Hid (RdC C (w3.setCell ⟨w.heap.size + 1, 3, none⟩ (.slice a' (k + 1) c')) bp 131 S2) := (R20.out.keep hrd).away (by have := V20.out.rd; omega) _
            have Z9 : Hid ((w3.setCell ⟨w.heap.size + 1, 3, none⟩ (.slice a' (k + 1) c')).heap[w.heap.size]? = some (.cells #[.int .i64 0, .int .i64 0, .int .i64 0, .slice none 0 0] 29 (0, 0))) := (Below.heap_setCell _ _ _ _ (by show w.heap.size ≠ w.heap.size + 1; omega)).trans ((hkp w.heap.size (lt_of_block Z20.out) (fun cur q => by rw [Z20.out] at q; simp at q)).trans Z20.out)
            clear hown hgr hbx hba hkp hrd
            refine hK.out _ _ trivial (fun hHeld => ?_)
            clear hK K
            try simp [Act.put]
            refine wpAnyH_take (i := 9) (v := ?v26) rfl (by kernel_rfl) (by kernel_rfl) (by kernel_rfl) (fun _ _ _ h => h) (Or.inl ⟨by rfl, ?hy26⟩) hHeld ?rest26
            case hy26 => (intro w' hSw; go_simp; try with_reducible rfl)
            try simp [Act.put]
            refine wpAnyH_ready (rs := [10]) (by kernel_rfl) (by simp) ?_
            refine AllReadyH.cons rfl (fun K hK => ?_) AllReadyH.nil
            go_simp
            refine hK.out _ _ trivial (fun hHeld => ?_)
            clear hK K
            try simp [Act.put]
            refine wpAnyH_done (by kernel_rfl) (NoPanic.normal ?_) _
            go_wp2_with fail
            exact ⟨⟨k + 1, _, by omega, by go_num, by rw [HT.out]; exact V9.out, by rw [HS3.out]; exact R9.out, Z9.out⟩, by simp [intOf]; omega⟩
          case g22 =>
            go_simp
            refine hK.out _ _ trivial (fun hHeld => ?_)
            clear hK K
            try simp [Act.put]
            refine wpAnyH_ready (rs := [1]) (by kernel_rfl) (by simp) ?_
            refine AllReadyH.cons rfl (fun K hK => ?_) AllReadyH.nil
            have cv28 : (u20.alloc (.cells #[.int .i64 (na : Int), .int .i64 (nb : Int)] 92)).cell? ⟨w.heap.size + 1, 3, none⟩ = some (.slice av k cap) := cell_of_block ((Below.heap_alloc _ _ _ (lt_of_block V20.out.box)).trans V20.out.box)
            go_simp
            refine hK.out _ _ trivial (fun hHeld => ?_)
            clear hK K
            try simp [Act.put]
            clear cv28
            refine wpAnyH_ready (rs := [8]) (by kernel_rfl) (by simp) ?_
            refine AllReadyH.cons rfl (fun K hK => ?_) AllReadyH.nil
            rw [if_pos (by simp [Region.wanted])]
            refine wp_append_row w.heap.size (.tmp 14) (.tmp 20) 27 rfl 92 iL (.agg #[.int .i64 0, .int .i64 0]) 2 16 Try.underlying27 HIL.out HL0.out HL1.out HL2.out rfl (by decide) (.slice av k cap) k (lcV ls) (by simp [Act.eval]) (by have q := V20.out.row; rw [HLS.out] at q; exact own_alloc q _) ⟨u20.heap.size, 0, none⟩ 1 1 [.int .i64 (na : Int), .int .i64 (nb : Int)] (by simp [Act.eval]) rfl (cell_two_new _ _ _ _) (by simp [Value.oneCell']) (by unfold maxLen; omega) (by omega) (by rw [World.size_alloc]; have := V20.out.ba.size; omega) ?_
            intro v' w3 hown hgr
            obtain ⟨a', c', rfl, _⟩ := own_form hown
            obtain ⟨hbx, hba, hkp, hrd⟩ := V20.out.mid hgr
            have cst : w3.cell? ⟨w.heap.size + 1, 3, none⟩ = some (.slice av k cap) := cell_of_block hbx
            have fst : w3.frozen? ⟨w.heap.size + 1, 3, none⟩ = false := free_of_block hbx
            have V9 := hide (V20.out.step (x := (na : Int)) (y := (nb : Int)) (by rw [HLS.out]; exact hown) hgr)
            have R9 : Hid (RdC C (w3.setCell ⟨w.heap.size + 1, 3, none⟩ (.slice a' (k + 1) c')) bp 131 S2) := (R20.out.keep hrd).away (by have := V20.out.rd; omega) _
            have Z9 : Hid ((w3.setCell ⟨w.heap.size + 1, 3, none⟩ (.slice a' (k + 1) c')).heap[w.heap.size]? = some (.cells #[.int .i64 0, .int .i64 0, .int .i64 0, .slice none 0 0] 29 (0, 0))) := (Below.heap_setCell _ _ _ _ (by show w.heap.size ≠ w.heap.size + 1; omega)).trans ((hkp w.heap.size (lt_of_block Z20.out) (fun cur q => by rw [Z20.out] at q; simp at q)).trans Z20.out)
            clear hown hgr hbx hba hkp hrd
            refine hK.out _ _ trivial (fun hHeld => ?_)
            clear hK K
            try simp [Act.put]
            refine wpAnyH_take (i := 9) (v := ?v30) rfl (by kernel_rfl) (by kernel_rfl) (by kernel_rfl) (fun _ _ _ h => h) (Or.inl ⟨by rfl, ?hy30⟩) hHeld ?rest30
            case hy30 => (intro w' hSw; go_simp; try with_reducible rfl)
            try simp [Act.put]
            refine wpAnyH_ready (rs := [10]) (by kernel_rfl) (by simp) ?_
            refine AllReadyH.cons rfl (fun K hK => ?_) AllReadyH.nil
            go_simp
            refine hK.out _ _ trivial (fun hHeld => ?_)
            clear hK K
            try simp [Act.put]
            refine wpAnyH_done (by kernel_rfl) (NoPanic.normal ?_) _
            go_wp2_with fail
            exact ⟨⟨k + 1, _, by omega, by go_num, by rw [HT.out]; exact V9.out, by rw [HS3.out]; exact R9.out, Z9.out⟩, by simp [intOf]; omega⟩
    · have hd : decide ((k : Int) < 9) = false := by simp; omega
      have hdi : ¬ (k : Int) < 9 := by omega
      obtain rfl : k = 9 := by omega
      obtain ⟨a9, c9, e9, hl9, hge⟩ := V0.out.locs
      rw [HLS.out] at e9
      simp at e9
      obtain ⟨rfl, rfl⟩ := e9
      have HL9 := hide hl9
      have HG9 := hide hge
      clear hl9 hge
      have hb9 := V0.out.box
      have v0 : wr.cell? ⟨w.heap.size + 1, 0, none⟩ = some (.int .i64 (n1 : Int)) := cell_of_block hb9
      have v1 : wr.cell? ⟨w.heap.size + 1, 1, none⟩ = some (.int .i64 (n2 : Int)) := cell_of_block hb9
      have v2 : wr.cell? ⟨w.heap.size + 1, 2, none⟩ = some (.int .i64 (n3 : Int)) := cell_of_block hb9
      have v3 : wr.cell? ⟨w.heap.size + 1, 3, none⟩ = some (.slice av 9 cap) := cell_of_block hb9
      have RES : Hid ((wr.setRow w.heap.size (vlc (n1 : Int) (n2 : Int) (n3 : Int) av 9 cap)).heap[w.heap.size]? = some (.cells (vlc (n1 : Int) (n2 : Int) (n3 : Int) av 9 cap) 29 (0, 0))) := setRow_heap wr _ _ _ _ _ Z0.out
      have hbw := below_setRow (Below.refl w.heap.size wr) (Nat.le_refl _) (vlc (n1 : Int) (n2 : Int) (n3 : Int) av 9 cap)
      have R9 : Hid (RdC C (wr.setRow w.heap.size (vlc (n1 : Int) (n2 : Int) (n3 : Int) av 9 cap)) bp 131 (lcsR 9 s3)) := R0.out.keep (hbw.block bp hbp)
      have A9 : Hid (Ba bp w (wr.setRow w.heap.size (vlc (n1 : Int) (n2 : Int) (n3 : Int) av 9 cap))) := V0.out.ba.row (Nat.le_refl _) _
      have HL10 : Hid (LocsAt (wr.setRow w.heap.size (vlc (n1 : Int) (n2 : Int) (n3 : Int) av 9 cap)) av (lcsT 9 s3)) := by
        rcases HL9.out with h | ⟨b1, o1, ha, hlt1, hc⟩
        · exact .inl h
        · have hne : b1 ≠ w.heap.size := fun e => by
            have q := (V0.out.ne (k := b1) (by rw [ha]; rfl))
            obtain ⟨_, _, cur, hcur⟩ := q
            rw [e, Z0.out] at hcur
            simp at hcur
          have hbl : (wr.setRow w.heap.size (vlc (n1 : Int) (n2 : Int) (n3 : Int) av 9 cap)).heap[b1]? = wr.heap[b1]? := setRow_other _ _ _ _ hne
          exact .inr ⟨b1, o1, ha, Nat.lt_of_lt_of_le hlt1 hbw.size, fun i x hx => ⟨(World.cell?_of_block (a := ⟨b1, o1 + i * 2, none⟩) hbl).trans (hc i x hx).1, (World.cell?_of_block (a := ⟨b1, o1 + i * 2 + 1, none⟩) hbl).trans (hc i x hx).2⟩⟩
      have HG10 : Hid (∀ b o, av = some ⟨b, o, none⟩ → w.heap.size ≤ b ∧ LocB (wr.setRow w.heap.size (vlc (n1 : Int) (n2 : Int) (n3 : Int) av 9 cap)) b) := fun b o q => by
        obtain ⟨_, h2, cur, hcur⟩ := V0.out.ne (k := b) (by rw [q]; rfl)
        refine ⟨h2, cur, (setRow_other _ _ _ _ fun e => ?_).trans hcur⟩
        rw [e, Z0.out] at hcur
        simp at hcur
      clear hb9 hbw
      go_wp2_with (first | (refine wpList_store_row rfl 29 (.tmp 2) (.tmp 24) rfl w.heap.size (vlc (n1 : Int) (n2 : Int) (n3 : Int) av 9 cap) rfl rfl 29 #[.int .i64 0, .int .i64 0, .int .i64 0, .slice none 0 0] Z0.out vol_info rfl (by simp [vlc, Value.oneCell']) ?_))
      refine bodyPost_ret (results_cell_row rfl _ _ w.heap.size 29 (vlc (n1 : Int) (n2 : Int) (n3 : Int) av 9 cap) (0, 0) _ rfl RES.out Try.underlying29 rfl vol_info) rfl ⟨av, ⟨cap, rfl⟩, HL10.out, HG10.out, R9.out, A9.out⟩
end Go.Proofs.Ytaiafbihcfbglaa
