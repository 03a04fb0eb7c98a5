/- The law PinsScripts, walked. (Written by genps.py.) -/
import Derived.Test.YtghcekhlohgkaaaPnJoin
import Derived.Test.YtghcekhlohgkaaaPinsEachWalk
import Derived.Deep.Cut
namespace Go.Proofs.Ytghcekhlohgkaaa
open Go.RowKit
set_option linter.unusedVariables false
set_option maxRecDepth 100000 in
set_option maxHeartbeats 32000000 in
theorem scripts_is (av : Option Addr) (n c : Nat) (S : List OP) (w : World) (hl : S.length = n) (hv : OpsAt w av S) (hok : ∀ p ∈ S, LocsAt w p.x.a p.x.d.ls ∧ OkP (p.i, p.g) ∧ OkP p.x.d.pin ∧ p.x.d.ls.length ≤ 8796093022208) :
    Calls Try.prog 3 #[.slice av n c] w fun e w' => e = .returned (.bool true) ∧ Below w.heap.size w w' := by
  have HL := hide hl
  have HV := hide hv
  have HOK := hide hok
  clear hl hv hok
  by_cases hbig : ¬ n ≤ 40
  · have h1 : decide ((40 : Int) < (n : Int)) = true := by simp; omega
    go_enter Try.func3, Try.ntmps3
    go_wp2_with fail
    refine (live_any _).mono ?_
    rintro e w1 ⟨rfl, hb⟩
    have HB := hide hb
    clear hb
    go_wp2_with fail
    try go_ret
    exact ⟨rfl, HB.out⟩
  have hn : n ≤ 40 := by omega
  have h1 : decide ((40 : Int) < (n : Int)) = false := by simp; omega
  clear hbig
  have hbd : ∀ w : World, (Instr.build 30 #[]).run Try.prog w = .ok (.agg #[.slice none 0 0, .slice none 0 0]) w := fun w => run_build w 30 _ _ (by kernel_rfl)
  go_enter Try.func3, Try.ntmps3
  go_wp2_with fail
  refine (l_new w).mono ?_
  rintro e w1 ⟨b, rfl, hp, hb⟩
  have HJ1 : Hid (Jn none w.heap.size b w1.heap.size 0 (cnt []) [] [] [] [] (w1.alloc (.cells #[.slice none 0 0, .slice none 0 0] 30))) := by unfold Hid; rw [cnt_nil]; exact Jn.start hp hb
  have HB1 := hide (hb.trans (((Below.refl _ w1).alloc (Nat.le_refl _) (.cells #[.slice none 0 0, .slice none 0 0] 30)).mono hb.size))
  clear hp hb
  go_wp2_with fail
  generalize w1.heap.size = kb at *
  generalize (w1.alloc (.cells #[.slice none 0 0, .slice none 0 0] 30)) = w2 at *
  go_loopw [5] (fun y5 wr => ∃ k : Nat, k ≤ n ∧ y5 = .int .i64 k ∧ ∃ (Q : List (Int × Int)) (L : List VD), Jn none w.heap.size b kb k (cnt Q) L Q L [] wr ∧ Q.length ≤ k ∧ L.length ≤ k ∧ Good L ∧ (∀ y ∈ L, y.ls.length ≤ 20) ∧ Below w.heap.size w wr) (fun y5 _ => n - (intOf y5).toNat)
  case atStart => exact ⟨0, by omega, rfl, [], [], HJ1.out, by simp, by simp, fun x hx => by simp at hx, fun x hx => by simp at hx, HB1.out⟩
  case round =>
    obtain ⟨k, hk, rfl, Q, L, hj, hql, hlen, hgd, hls, hb⟩ := hrel
    have HJ := hide hj
    have HB := hide hb
    have HQL0 := hide hql
    have HLEN0 := hide hlen
    have HGD0 := hide hgd
    have HLS0 := hide hls
    clear hj hb hql hlen hgd hls
    by_cases hlt : k < n
    · have hd : decide ((k : Int) < (n : Int)) = true := by simp; omega
      have hdi : (k : Int) < (n : Int) := by omega
      have hd0 : (0 : Int) ≤ (k : Int) := by omega
      obtain ⟨p, hp⟩ : ∃ p, S[k]? = some p := ⟨_, List.getElem?_eq_getElem (by have := HL.out; omega)⟩
      obtain ⟨b1, o1, rfl, hb1, hc⟩ := HV.out.nth hp
      obtain ⟨g1, g2, g3, g4⟩ := HOK.out p (List.mem_of_getElem? hp)
      have hcc : ∀ j v, (opC p)[j]? = some v → wr.cell? ⟨b1, o1 + k * 7 + j, none⟩ = some v := fun j v hj => (HB.out.cell (p := ⟨b1, o1 + k * 7 + j, none⟩) hb1).trans (hc j v hj)
      have d0 := hcc 0 _ rfl
      have d1 := hcc 1 _ rfl
      have d2 := hcc 2 _ rfl
      have d3 := hcc 3 _ rfl
      have d4 := hcc 4 _ rfl
      have d5 := hcc 5 _ rfl
      have d6 := hcc 6 _ rfl
      obtain ⟨pd, pi, pg, ⟨x, xa, xc⟩⟩ := p
      simp only [Nat.add_zero] at d0 d1 d2 d3 d4 d5 d6 g1 g2 g3 g4
      obtain ⟨m, hm⟩ : ∃ m, x.ls.length = m := ⟨_, rfl⟩
      rw [hm] at d6 g4
      have hba : Below wr.heap.size wr (wr.alloc (.cells #[.int .i64 pd, .int .i64 pi, .int .i64 pg, .int .i64 x.id, .int .i64 x.gen, .int .i64 x.len, .slice xa m xc] 35)) := (Below.refl _ _).alloc (Nat.le_refl _) _
      have HJA := hide (HJ.out.guard hba wr.heap.size (Nat.le_refl _) (by rw [World.size_alloc]; omega))
      have HBA := hide (HB.out.trans (hba.mono HB.out.size))
      have HXK := hide (LocsK.came g1)
      have HG2 := hide g2
      have HG3 := hide g3
      have HM := hide hm
      clear hp hc hcc g1 g2 g3 hm hba g4
      by_cases hm20 : ¬ m ≤ 20
      · have h2 : decide ((20 : Int) < (m : Int)) = true := by simp; omega
        go_wp2_with fail
        refine (live_any _).mono ?_
        rintro e w3 ⟨rfl, hb3⟩
        have HB3 := hide (HBA.out.trans (hb3.mono HBA.out.size))
        clear hb3
        go_wp2_with fail
        try go_ret
        exact ⟨rfl, HB3.out⟩
      have h2 : decide ((20 : Int) < (m : Int)) = false := by simp; omega
      have hm2 : m ≤ 20 := by omega
      clear hm20
      by_cases q0 : pd = 0
      · have hq0 : (pd == 0) = true := by simpa using q0
        subst q0
        go_wp2_with fail
        obtain ⟨w5, hw5⟩ : ∃ w5, w5 = (wr.alloc (.cells #[.int .i64 0, .int .i64 pi, .int .i64 pg, .int .i64 x.id, .int .i64 x.gen, .int .i64 x.len, .slice xa m xc] 35)).drew := ⟨_, rfl⟩
        have HJ5 := hide (show Jn (some wr.heap.size) w.heap.size b kb k (cnt Q) L Q L [] w5 by rw [hw5]; exact HJA.out.below ((Below.refl _ _).drew))
        have HB5 := hide (show Below w.heap.size w w5 by rw [hw5]; exact HBA.out.drew)
        have HK5 := hide (show w5.heap[wr.heap.size]? = some (.cells #[.int .i64 0, .int .i64 pi, .int .i64 pg, .int .i64 x.id, .int .i64 x.gen, .int .i64 x.len, .slice xa m xc] 35 (0, 0)) by rw [hw5]; exact heap_alloc_new wr _)
        refine wp_region_noPanic ?_
        refine wp_region_held_drew (S := fun w' => w'.heap[wr.heap.size]? = some (.cells #[.int .i64 0, .int .i64 pi, .int .i64 pg, .int .i64 x.id, .int .i64 x.gen, .int .i64 x.len, .slice xa m xc] 35 (0, 0))) (by kernel_rfl) (by rw [← hw5]; exact HK5.out) (fun hHeld => ?_)
        rw [← hw5] at hHeld ⊢
        clear hw5
        refine wpAnyH_take (i := 0) (v := ?v100) rfl (by kernel_rfl) (by kernel_rfl) (by kernel_rfl) (fun _ _ _ h => h) (Or.inl ⟨by rfl, ?hy100⟩) hHeld ?rest100
        case hy100 => (intro w' hSw; obtain ⟨s0, s1, s2, s3, s4, s5, s6⟩ := op7 hSw; go_simp; try with_reducible rfl)
        try simp [Act.put]
        refine wpAnyH_take (i := 1) (v := ?v101) rfl (by kernel_rfl) (by kernel_rfl) (by kernel_rfl) (fun _ _ _ h => h) (Or.inl ⟨by rfl, ?hy101⟩) hHeld ?rest101
        case hy101 => (intro w' hSw; obtain ⟨s0, s1, s2, s3, s4, s5, s6⟩ := op7 hSw; go_simp; try with_reducible rfl)
        try simp [Act.put]
        refine wpAnyH_take (i := 2) (v := ?v102) rfl (by kernel_rfl) (by kernel_rfl) (by kernel_rfl) (fun _ _ _ h => h) (Or.inl ⟨by rfl, ?hy102⟩) hHeld ?rest102
        case hy102 => (intro w' hSw; obtain ⟨s0, s1, s2, s3, s4, s5, s6⟩ := op7 hSw; go_simp; try with_reducible rfl)
        try simp [Act.put]
        refine wpAnyH_take (i := 3) (v := ?v103) rfl (by kernel_rfl) (by kernel_rfl) (by kernel_rfl) (fun _ _ _ h => h) (Or.inl ⟨by rfl, ?hy103⟩) hHeld ?rest103
        case hy103 => (intro w' hSw; obtain ⟨s0, s1, s2, s3, s4, s5, s6⟩ := op7 hSw; go_simp; try with_reducible rfl)
        try simp [Act.put]
        refine wpAnyH_take (i := 4) (v := ?v104) rfl (by kernel_rfl) (by kernel_rfl) (by kernel_rfl) (fun _ _ _ h => h) (Or.inl ⟨by rfl, ?hy104⟩) hHeld ?rest104
        case hy104 => (intro w' hSw; obtain ⟨s0, s1, s2, s3, s4, s5, s6⟩ := op7 hSw; go_simp; try with_reducible rfl)
        try simp [Act.put]
        refine wpAnyH_take (i := 6) (v := ?v105) rfl (by kernel_rfl) (by kernel_rfl) (by kernel_rfl) (fun _ _ _ h => h) (Or.inl ⟨by rfl, ?hy105⟩) hHeld ?rest105
        case hy105 => (intro w' hSw; obtain ⟨s0, s1, s2, s3, s4, s5, s6⟩ := op7 hSw; go_simp; try with_reducible rfl)
        try simp [Act.put]
        refine wpAnyH_take (i := 7) (v := ?v106) rfl (by kernel_rfl) (by kernel_rfl) (by kernel_rfl) (fun _ _ _ h => h) (Or.inl ⟨by rfl, ?hy106⟩) hHeld ?rest106
        case hy106 => (intro w' hSw; obtain ⟨s0, s1, s2, s3, s4, s5, s6⟩ := op7 hSw; go_simp; try with_reducible rfl)
        try simp [Act.put]
        refine wpAnyH_take (i := 8) (v := ?v107) rfl (by kernel_rfl) (by kernel_rfl) (by kernel_rfl) (fun _ _ _ h => h) (Or.inl ⟨by rfl, ?hy107⟩) hHeld ?rest107
        case hy107 => (intro w' hSw; obtain ⟨s0, s1, s2, s3, s4, s5, s6⟩ := op7 hSw; go_simp; try with_reducible rfl)
        try simp [Act.put]
        refine wpAnyH_take (i := 9) (v := ?v108) rfl (by kernel_rfl) (by kernel_rfl) (by kernel_rfl) (fun _ _ _ h => h) (Or.inl ⟨by rfl, ?hy108⟩) hHeld ?rest108
        case hy108 => (intro w' hSw; obtain ⟨s0, s1, s2, s3, s4, s5, s6⟩ := op7 hSw; go_simp; try with_reducible rfl)
        try simp [Act.put]
        refine wpAnyH_take (i := 10) (v := ?v109) rfl (by kernel_rfl) (by kernel_rfl) (by kernel_rfl) (fun _ _ _ h => h) (Or.inl ⟨by rfl, ?hy109⟩) hHeld ?rest109
        case hy109 => (intro w' hSw; obtain ⟨s0, s1, s2, s3, s4, s5, s6⟩ := op7 hSw; go_simp; try with_reducible rfl)
        try simp [Act.put]
        refine wpAnyH_ready (rs := [5]) (by kernel_rfl) (by simp) ?_
        refine AllReadyH.cons rfl (fun K hK => ?_) AllReadyH.nil
        go_simp
        refine (j_pin HJ5.out pi pg HG2.out (by omega)).mono ?_
        rintro e w6 ⟨rfl, hj6, hb6, hk6⟩
        have HJ6 := hide hj6
        have HB6 := hide (HB5.out.trans hb6)
        have HK6 := hide ((hk6 _ rfl).trans HK5.out)
        clear hj6 hb6 hk6
        refine hK.out _ _ HK6.out (fun hHeld => ?_)
        clear hK K
        try simp [Act.put]
        refine wpAnyH_ready (rs := [11]) (by kernel_rfl) (by simp) ?_
        refine AllReadyH.cons rfl (fun K hK => ?_) AllReadyH.nil
        go_simp
        refine (jk_pin HJ6.out pi pg (by have := HQL0.out; omega)).mono ?_
        rintro e w8 ⟨rfl, hj8, hb8, hk8⟩
        rw [← cnt_snoc] at hj8
        have HJ8 := hide hj8
        have HB8 := hide (HB6.out.trans hb8)
        have HK8 := hide ((hk8 _ rfl).trans HK6.out)
        clear hj8 hb8 hk8
        refine hK.out _ _ HK8.out (fun hHeld => ?_)
        clear hK K
        try simp [Act.put]
        refine wpAnyH_take (i := 12) (v := ?v110) rfl (by kernel_rfl) (by kernel_rfl) (by kernel_rfl) (fun _ _ _ h => h) (Or.inl ⟨by rfl, ?hy110⟩) hHeld ?rest110
        case hy110 => (intro w' hSw; obtain ⟨s0, s1, s2, s3, s4, s5, s6⟩ := op7 hSw; go_simp; try with_reducible rfl)
        try simp [Act.put]
        refine wpAnyH_take (i := 13) (v := ?v111) rfl (by kernel_rfl) (by kernel_rfl) (by kernel_rfl) (fun _ _ _ h => h) (Or.inl ⟨by rfl, ?hy111⟩) hHeld ?rest111
        case hy111 => (intro w' hSw; obtain ⟨s0, s1, s2, s3, s4, s5, s6⟩ := op7 hSw; go_simp; try with_reducible rfl)
        try simp [Act.put]
        refine wpAnyH_done (by kernel_rfl) (NoPanic.normal ?_) _
        have HQL : Hid (List.length (Q ++ [(pi, pg)]) ≤ k + 1) := by have h1 := HQL0.out; show _ ≤ _; rw [List.length_append]; simp; omega
        have HLEN : Hid (List.length (L) ≤ k + 1) := by have := HLEN0.out; show _ ≤ _; omega
        have HGD : Hid (Good (L)) := HGD0.out
        have HLS : Hid (∀ y ∈ (L), y.ls.length ≤ 20) := HLS0.out
        obtain ⟨am, cm, hcw, hvm, hkl⟩ := HJ8.out.cw
        obtain ⟨mn, hmn⟩ : ∃ mn, List.length (L) = mn := ⟨_, rfl⟩
        rw [hmn] at hcw
        have HMN := hide hmn
        obtain ⟨cq, hcq⟩ : ∃ cq, cnt (Q ++ [(pi, pg)]) (pi, pg) = cq := ⟨_, rfl⟩
        obtain ⟨cx, hcx⟩ : ∃ cx, cnt (Q ++ [(pi, pg)]) (x.id, x.gen) = cx := ⟨_, rfl⟩
        have HCQ := hide hcq
        have HCX := hide hcx
        have hle40 : mn ≤ 41 := by have := HLEN.out; have := HMN.out; omega
        have HKL := hide (show kb < w8.drew.heap.size from hkl)
        have HVM := hide (show VosAt w.heap.size w8.drew am (L) from hvm.below ((Below.refl _ _).drew))
        have HJ9 := hide (HJ8.out.below ((Below.refl _ w8).drew))
        have HB9 := hide (HB8.out.drew)
        have HK9 : Hid (w8.drew.heap[wr.heap.size]? = some (.cells #[.int .i64 0, .int .i64 pi, .int .i64 pg, .int .i64 x.id, .int .i64 x.gen, .int .i64 x.len, .slice xa m xc] 35 (0, 0)) ∧ w8.drew.cell? ⟨kb, 1, none⟩ = some (.slice am mn cm)) := ⟨HK8.out, hcw⟩
        clear hcw hvm hkl hmn hcq hcx
        go_wp2_with fail
        refine wp_region_noPanic ?_
        refine wp_region_held_drew (S := fun w' => w'.heap[wr.heap.size]? = some (.cells #[.int .i64 0, .int .i64 pi, .int .i64 pg, .int .i64 x.id, .int .i64 x.gen, .int .i64 x.len, .slice xa m xc] 35 (0, 0)) ∧ w'.cell? ⟨kb, 1, none⟩ = some (.slice am mn cm)) (by kernel_rfl) HK9.out (fun hHeld => ?_)
        obtain ⟨w9, hw9⟩ : ∃ w9, w9 = w8.drew := ⟨_, rfl⟩
        rw [← hw9] at HKL HVM HJ9 HB9 HK9 hHeld ⊢
        clear hw9
        refine wpAnyH_take (i := 0) (v := ?v112) rfl (by kernel_rfl) (by kernel_rfl) (by kernel_rfl) (fun _ _ _ h => h) (Or.inl ⟨by rfl, ?hy112⟩) hHeld ?rest112
        case hy112 => (intro w' hSw; obtain ⟨s8, sc⟩ := hSw; obtain ⟨s0, s1, s2, s3, s4, s5, s6⟩ := op7 s8; go_simp; try with_reducible rfl)
        try simp [Act.put]
        refine wpAnyH_take (i := 1) (v := ?v113) rfl (by kernel_rfl) (by kernel_rfl) (by kernel_rfl) (fun _ _ _ h => h) (Or.inl ⟨by rfl, ?hy113⟩) hHeld ?rest113
        case hy113 => (intro w' hSw; obtain ⟨s8, sc⟩ := hSw; obtain ⟨s0, s1, s2, s3, s4, s5, s6⟩ := op7 s8; go_simp; try with_reducible rfl)
        try simp [Act.put]
        refine wpAnyH_take (i := 2) (v := ?v114) rfl (by kernel_rfl) (by kernel_rfl) (by kernel_rfl) (fun _ _ _ h => h) (Or.inl ⟨by rfl, ?hy114⟩) hHeld ?rest114
        case hy114 => (intro w' hSw; obtain ⟨s8, sc⟩ := hSw; obtain ⟨s0, s1, s2, s3, s4, s5, s6⟩ := op7 s8; go_simp; try with_reducible rfl)
        try simp [Act.put]
        refine wpAnyH_take (i := 3) (v := ?v115) rfl (by kernel_rfl) (by kernel_rfl) (by kernel_rfl) (fun _ _ _ h => h) (Or.inl ⟨by rfl, ?hy115⟩) hHeld ?rest115
        case hy115 => (intro w' hSw; obtain ⟨s8, sc⟩ := hSw; obtain ⟨s0, s1, s2, s3, s4, s5, s6⟩ := op7 s8; go_simp; try with_reducible rfl)
        try simp [Act.put]
        refine wpAnyH_take (i := 5) (v := ?v116) rfl (by kernel_rfl) (by kernel_rfl) (by kernel_rfl) (fun _ _ _ h => h) (Or.inl ⟨by rfl, ?hy116⟩) hHeld ?rest116
        case hy116 => (intro w' hSw; obtain ⟨s8, sc⟩ := hSw; obtain ⟨s0, s1, s2, s3, s4, s5, s6⟩ := op7 s8; go_simp; try with_reducible rfl)
        try simp [Act.put]
        refine wpAnyH_take (i := 6) (v := ?v117) rfl (by kernel_rfl) (by kernel_rfl) (by kernel_rfl) (fun _ _ _ h => h) (Or.inl ⟨by rfl, ?hy117⟩) hHeld ?rest117
        case hy117 => (intro w' hSw; obtain ⟨s8, sc⟩ := hSw; obtain ⟨s0, s1, s2, s3, s4, s5, s6⟩ := op7 s8; go_simp; try with_reducible rfl)
        try simp [Act.put]
        refine wpAnyH_take (i := 7) (v := ?v118) rfl (by kernel_rfl) (by kernel_rfl) (by kernel_rfl) (fun _ _ _ h => h) (Or.inl ⟨by rfl, ?hy118⟩) hHeld ?rest118
        case hy118 => (intro w' hSw; obtain ⟨s8, sc⟩ := hSw; obtain ⟨s0, s1, s2, s3, s4, s5, s6⟩ := op7 s8; go_simp; try with_reducible rfl)
        try simp [Act.put]
        refine wpAnyH_take (i := 8) (v := ?v119) rfl (by kernel_rfl) (by kernel_rfl) (by kernel_rfl) (fun _ _ _ h => h) (Or.inl ⟨by rfl, ?hy119⟩) hHeld ?rest119
        case hy119 => (intro w' hSw; obtain ⟨s8, sc⟩ := hSw; obtain ⟨s0, s1, s2, s3, s4, s5, s6⟩ := op7 s8; go_simp; try with_reducible rfl)
        try simp [Act.put]
        refine wpAnyH_ready (rs := [4]) (by kernel_rfl) (by simp) ?_
        refine AllReadyH.cons rfl (fun K hK => ?_) AllReadyH.nil
        go_simp
        refine (j_waits HJ9.out (fun y hy => (HGD.out y hy).2) (by have := HMN.out; omega)).mono ?_
        rintro e wa ⟨aw, cw, rfl, hvw, hba⟩
        have HJA := hide (HJ9.out.below hba)
        have HBA := hide (HB9.out.trans (hba.mono HB9.out.size))
        have HVA := hide (HVM.out.below hba)
        have HVW := hide hvw
        have HKA := hide (And.intro ((hba.block _ (lt_of_block HK9.out.1)).trans HK9.out.1) ((hba.cell (p := ⟨kb, 1, none⟩) HKL.out).trans HK9.out.2))
        have HKLA := hide (Nat.lt_of_lt_of_le HKL.out hba.size)
        rw [HMN.out]
        clear hvw hba
        refine hK.out _ _ HKA.out (fun hHeld => ?_)
        clear hK K
        try simp [Act.put]
        refine wpAnyH_ready (rs := [9]) (by kernel_rfl) (by simp) ?_
        refine AllReadyH.cons rfl (fun K hK => ?_) AllReadyH.nil
        go_simp
        refine (vosame_any w.heap.size aw am cw cm mn mn (L) (L) wa HMN.out HMN.out (by omega) (by omega) HVW.out HVA.out (fun y hy => by have := HLS.out y hy; omega) (fun y hy => by have := HLS.out y hy; omega)).mono ?_
        rintro e wb ⟨rfl, hbb⟩
        have HJB := hide (HJA.out.below hbb)
        have HBB := hide (HBA.out.trans (hbb.mono HBA.out.size))
        have HKB := hide (And.intro ((hbb.block _ (lt_of_block HKA.out.1)).trans HKA.out.1) ((hbb.cell (p := ⟨kb, 1, none⟩) HKLA.out).trans HKA.out.2))
        have hdd : decide (((L) : List VD) = (L)) = true := by simp
        rw [hdd]
        clear hbb hdd
        refine hK.out _ _ HKB.out (fun hHeld => ?_)
        clear hK K
        try simp [Act.put]
        refine wpAnyH_take (i := 10) (v := ?v120) rfl (by kernel_rfl) (by kernel_rfl) (by kernel_rfl) (fun _ _ _ h => h) (Or.inl ⟨by rfl, ?hy120⟩) hHeld ?rest120
        case hy120 => (intro w' hSw; obtain ⟨s8, sc⟩ := hSw; obtain ⟨s0, s1, s2, s3, s4, s5, s6⟩ := op7 s8; go_simp; try with_reducible rfl)
        try simp [Act.put]
        refine wpAnyH_take (i := 11) (v := ?v121) rfl (by kernel_rfl) (by kernel_rfl) (by kernel_rfl) (fun _ _ _ h => h) (Or.inl ⟨by rfl, ?hy121⟩) hHeld ?rest121
        case hy121 => (intro w' hSw; obtain ⟨s8, sc⟩ := hSw; obtain ⟨s0, s1, s2, s3, s4, s5, s6⟩ := op7 s8; go_simp; try with_reducible rfl)
        try simp [Act.put]
        refine wpAnyH_take (i := 12) (v := ?v122) rfl (by kernel_rfl) (by kernel_rfl) (by kernel_rfl) (fun _ _ _ h => h) (Or.inl ⟨by rfl, ?hy122⟩) hHeld ?rest122
        case hy122 => (intro w' hSw; obtain ⟨s8, sc⟩ := hSw; obtain ⟨s0, s1, s2, s3, s4, s5, s6⟩ := op7 s8; go_simp; try with_reducible rfl)
        try simp [Act.put]
        refine wpAnyH_take (i := 13) (v := ?v123) rfl (by kernel_rfl) (by kernel_rfl) (by kernel_rfl) (fun _ _ _ h => h) (Or.inl ⟨by rfl, ?hy123⟩) hHeld ?rest123
        case hy123 => (intro w' hSw; obtain ⟨s8, sc⟩ := hSw; obtain ⟨s0, s1, s2, s3, s4, s5, s6⟩ := op7 s8; go_simp; try with_reducible rfl)
        try simp [Act.put]
        refine wpAnyH_take (i := 14) (v := ?v124) rfl (by kernel_rfl) (by kernel_rfl) (by kernel_rfl) (fun _ _ _ h => h) (Or.inl ⟨by rfl, ?hy124⟩) hHeld ?rest124
        case hy124 => (intro w' hSw; obtain ⟨s8, sc⟩ := hSw; obtain ⟨s0, s1, s2, s3, s4, s5, s6⟩ := op7 s8; go_simp; try with_reducible rfl)
        try simp [Act.put]
        refine wpAnyH_take (i := 15) (v := ?v125) rfl (by kernel_rfl) (by kernel_rfl) (by kernel_rfl) (fun _ _ _ h => h) (Or.inl ⟨by rfl, ?hy125⟩) hHeld ?rest125
        case hy125 => (intro w' hSw; obtain ⟨s8, sc⟩ := hSw; obtain ⟨s0, s1, s2, s3, s4, s5, s6⟩ := op7 s8; go_simp; try with_reducible rfl)
        try simp [Act.put]
        refine wpAnyH_take (i := 16) (v := ?v126) rfl (by kernel_rfl) (by kernel_rfl) (by kernel_rfl) (fun _ _ _ h => h) (Or.inl ⟨by rfl, ?hy126⟩) hHeld ?rest126
        case hy126 => (intro w' hSw; obtain ⟨s8, sc⟩ := hSw; obtain ⟨s0, s1, s2, s3, s4, s5, s6⟩ := op7 s8; go_simp; try with_reducible rfl)
        try simp [Act.put]
        refine wpAnyH_take (i := 17) (v := ?v127) rfl (by kernel_rfl) (by kernel_rfl) (by kernel_rfl) (fun _ _ _ h => h) (Or.inl ⟨by rfl, ?hy127⟩) hHeld ?rest127
        case hy127 => (intro w' hSw; obtain ⟨s8, sc⟩ := hSw; obtain ⟨s0, s1, s2, s3, s4, s5, s6⟩ := op7 s8; go_simp; try with_reducible rfl)
        try simp [Act.put]
        refine wpAnyH_take (i := 19) (v := ?v128) rfl (by kernel_rfl) (by kernel_rfl) (by kernel_rfl) (fun _ _ _ h => h) (Or.inl ⟨by rfl, ?hy128⟩) hHeld ?rest128
        case hy128 => (intro w' hSw; obtain ⟨s8, sc⟩ := hSw; obtain ⟨s0, s1, s2, s3, s4, s5, s6⟩ := op7 s8; go_simp; try with_reducible rfl)
        try simp [Act.put]
        refine wpAnyH_take (i := 20) (v := ?v129) rfl (by kernel_rfl) (by kernel_rfl) (by kernel_rfl) (fun _ _ _ h => h) (Or.inl ⟨by rfl, ?hy129⟩) hHeld ?rest129
        case hy129 => (intro w' hSw; obtain ⟨s8, sc⟩ := hSw; obtain ⟨s0, s1, s2, s3, s4, s5, s6⟩ := op7 s8; go_simp; try with_reducible rfl)
        try simp [Act.put]
        refine wpAnyH_take (i := 21) (v := ?v130) rfl (by kernel_rfl) (by kernel_rfl) (by kernel_rfl) (fun _ _ _ h => h) (Or.inl ⟨by rfl, ?hy130⟩) hHeld ?rest130
        case hy130 => (intro w' hSw; obtain ⟨s8, sc⟩ := hSw; obtain ⟨s0, s1, s2, s3, s4, s5, s6⟩ := op7 s8; go_simp; try with_reducible rfl)
        try simp [Act.put]
        refine wpAnyH_take (i := 22) (v := ?v131) rfl (by kernel_rfl) (by kernel_rfl) (by kernel_rfl) (fun _ _ _ h => h) (Or.inl ⟨by rfl, ?hy131⟩) hHeld ?rest131
        case hy131 => (intro w' hSw; obtain ⟨s8, sc⟩ := hSw; obtain ⟨s0, s1, s2, s3, s4, s5, s6⟩ := op7 s8; go_simp; try with_reducible rfl)
        try simp [Act.put]
        refine wpAnyH_take (i := 23) (v := ?v132) rfl (by kernel_rfl) (by kernel_rfl) (by kernel_rfl) (fun _ _ _ h => h) (Or.inl ⟨by rfl, ?hy132⟩) hHeld ?rest132
        case hy132 => (intro w' hSw; obtain ⟨s8, sc⟩ := hSw; obtain ⟨s0, s1, s2, s3, s4, s5, s6⟩ := op7 s8; go_simp; try with_reducible rfl)
        try simp [Act.put]
        refine wpAnyH_ready (rs := [18]) (by kernel_rfl) (by simp) ?_
        refine AllReadyH.cons rfl (fun K hK => ?_) AllReadyH.nil
        go_simp
        refine (j_count HJB.out pi pg HG2.out).mono ?_
        rintro e w' ⟨rfl, rfl⟩
        rw [HCQ.out]
        refine hK.out _ _ HKB.out (fun hHeld => ?_)
        clear hK K
        try simp [Act.put]
        refine wpAnyH_ready (rs := [24]) (by kernel_rfl) (by simp) ?_
        refine AllReadyH.cons rfl (fun K hK => ?_) AllReadyH.nil
        go_simp
        refine (jk_count HJB.out pi pg (by have := HQL.out; omega)).mono ?_
        rintro e w' ⟨rfl, rfl⟩
        rw [HCQ.out]
        refine hK.out _ _ HKB.out (fun hHeld => ?_)
        clear hK K
        try simp [Act.put]
        refine wpAnyH_take (i := 25) (v := ?v133) rfl (by kernel_rfl) (by kernel_rfl) (by kernel_rfl) (fun _ _ _ h => h) (Or.inl ⟨by rfl, ?hy133⟩) hHeld ?rest133
        case hy133 => (intro w' hSw; obtain ⟨s8, sc⟩ := hSw; obtain ⟨s0, s1, s2, s3, s4, s5, s6⟩ := op7 s8; go_simp; try with_reducible rfl)
        try simp [Act.put]
        refine wpAnyH_take (i := 26) (v := ?v134) rfl (by kernel_rfl) (by kernel_rfl) (by kernel_rfl) (fun _ _ _ h => h) (Or.inl ⟨by rfl, ?hy134⟩) hHeld ?rest134
        case hy134 => (intro w' hSw; obtain ⟨s8, sc⟩ := hSw; obtain ⟨s0, s1, s2, s3, s4, s5, s6⟩ := op7 s8; go_simp; try with_reducible rfl)
        try simp [Act.put]
        refine wpAnyH_take (i := 27) (v := ?v135) rfl (by kernel_rfl) (by kernel_rfl) (by kernel_rfl) (fun _ _ _ h => h) (Or.inl ⟨by rfl, ?hy135⟩) hHeld ?rest135
        case hy135 => (intro w' hSw; obtain ⟨s8, sc⟩ := hSw; obtain ⟨s0, s1, s2, s3, s4, s5, s6⟩ := op7 s8; go_simp; try with_reducible rfl)
        try simp [Act.put]
        refine wpAnyH_take (i := 28) (v := ?v136) rfl (by kernel_rfl) (by kernel_rfl) (by kernel_rfl) (fun _ _ _ h => h) (Or.inl ⟨by rfl, ?hy136⟩) hHeld ?rest136
        case hy136 => (intro w' hSw; obtain ⟨s8, sc⟩ := hSw; obtain ⟨s0, s1, s2, s3, s4, s5, s6⟩ := op7 s8; go_simp; try with_reducible rfl)
        try simp [Act.put]
        refine wpAnyH_take (i := 29) (v := ?v137) rfl (by kernel_rfl) (by kernel_rfl) (by kernel_rfl) (fun _ _ _ h => h) (Or.inl ⟨by rfl, ?hy137⟩) hHeld ?rest137
        case hy137 => (intro w' hSw; obtain ⟨s8, sc⟩ := hSw; obtain ⟨s0, s1, s2, s3, s4, s5, s6⟩ := op7 s8; go_simp; try with_reducible rfl)
        try simp [Act.put]
        refine wpAnyH_take (i := 30) (v := ?v138) rfl (by kernel_rfl) (by kernel_rfl) (by kernel_rfl) (fun _ _ _ h => h) (Or.inl ⟨by rfl, ?hy138⟩) hHeld ?rest138
        case hy138 => (intro w' hSw; obtain ⟨s8, sc⟩ := hSw; obtain ⟨s0, s1, s2, s3, s4, s5, s6⟩ := op7 s8; go_simp; try with_reducible rfl)
        try simp [Act.put]
        refine wpAnyH_take (i := 31) (v := ?v139) rfl (by kernel_rfl) (by kernel_rfl) (by kernel_rfl) (fun _ _ _ h => h) (Or.inl ⟨by rfl, ?hy139⟩) hHeld ?rest139
        case hy139 => (intro w' hSw; obtain ⟨s8, sc⟩ := hSw; obtain ⟨s0, s1, s2, s3, s4, s5, s6⟩ := op7 s8; go_simp; try with_reducible rfl)
        try simp [Act.put]
        refine wpAnyH_take (i := 32) (v := ?v140) rfl (by kernel_rfl) (by kernel_rfl) (by kernel_rfl) (fun _ _ _ h => h) (Or.inl ⟨by rfl, ?hy140⟩) hHeld ?rest140
        case hy140 => (intro w' hSw; obtain ⟨s8, sc⟩ := hSw; obtain ⟨s0, s1, s2, s3, s4, s5, s6⟩ := op7 s8; go_simp; try with_reducible rfl)
        try simp [Act.put]
        refine wpAnyH_take (i := 33) (v := ?v141) rfl (by kernel_rfl) (by kernel_rfl) (by kernel_rfl) (fun _ _ _ h => h) (Or.inl ⟨by rfl, ?hy141⟩) hHeld ?rest141
        case hy141 => (intro w' hSw; obtain ⟨s8, sc⟩ := hSw; obtain ⟨s0, s1, s2, s3, s4, s5, s6⟩ := op7 s8; go_simp; try with_reducible rfl)
        try simp [Act.put]
        refine wpAnyH_take (i := 34) (v := ?v142) rfl (by kernel_rfl) (by kernel_rfl) (by kernel_rfl) (fun _ _ _ h => h) (Or.inl ⟨by rfl, ?hy142⟩) hHeld ?rest142
        case hy142 => (intro w' hSw; obtain ⟨s8, sc⟩ := hSw; obtain ⟨s0, s1, s2, s3, s4, s5, s6⟩ := op7 s8; go_simp; try with_reducible rfl)
        try simp [Act.put]
        refine wpAnyH_take (i := 36) (v := ?v143) rfl (by kernel_rfl) (by kernel_rfl) (by kernel_rfl) (fun _ _ _ h => h) (Or.inl ⟨by rfl, ?hy143⟩) hHeld ?rest143
        case hy143 => (intro w' hSw; obtain ⟨s8, sc⟩ := hSw; obtain ⟨s0, s1, s2, s3, s4, s5, s6⟩ := op7 s8; go_simp; try with_reducible rfl)
        try simp [Act.put]
        refine wpAnyH_take (i := 37) (v := ?v144) rfl (by kernel_rfl) (by kernel_rfl) (by kernel_rfl) (fun _ _ _ h => h) (Or.inl ⟨by rfl, ?hy144⟩) hHeld ?rest144
        case hy144 => (intro w' hSw; obtain ⟨s8, sc⟩ := hSw; obtain ⟨s0, s1, s2, s3, s4, s5, s6⟩ := op7 s8; go_simp; try with_reducible rfl)
        try simp [Act.put]
        refine wpAnyH_take (i := 38) (v := ?v145) rfl (by kernel_rfl) (by kernel_rfl) (by kernel_rfl) (fun _ _ _ h => h) (Or.inl ⟨by rfl, ?hy145⟩) hHeld ?rest145
        case hy145 => (intro w' hSw; obtain ⟨s8, sc⟩ := hSw; obtain ⟨s0, s1, s2, s3, s4, s5, s6⟩ := op7 s8; go_simp; try with_reducible rfl)
        try simp [Act.put]
        refine wpAnyH_take (i := 39) (v := ?v146) rfl (by kernel_rfl) (by kernel_rfl) (by kernel_rfl) (fun _ _ _ h => h) (Or.inl ⟨by rfl, ?hy146⟩) hHeld ?rest146
        case hy146 => (intro w' hSw; obtain ⟨s8, sc⟩ := hSw; obtain ⟨s0, s1, s2, s3, s4, s5, s6⟩ := op7 s8; go_simp; try with_reducible rfl)
        try simp [Act.put]
        refine wpAnyH_take (i := 40) (v := ?v147) rfl (by kernel_rfl) (by kernel_rfl) (by kernel_rfl) (fun _ _ _ h => h) (Or.inl ⟨by rfl, ?hy147⟩) hHeld ?rest147
        case hy147 => (intro w' hSw; obtain ⟨s8, sc⟩ := hSw; obtain ⟨s0, s1, s2, s3, s4, s5, s6⟩ := op7 s8; go_simp; try with_reducible rfl)
        try simp [Act.put]
        refine wpAnyH_take (i := 41) (v := ?v148) rfl (by kernel_rfl) (by kernel_rfl) (by kernel_rfl) (fun _ _ _ h => h) (Or.inl ⟨by rfl, ?hy148⟩) hHeld ?rest148
        case hy148 => (intro w' hSw; obtain ⟨s8, sc⟩ := hSw; obtain ⟨s0, s1, s2, s3, s4, s5, s6⟩ := op7 s8; go_simp; try with_reducible rfl)
        try simp [Act.put]
        refine wpAnyH_take (i := 42) (v := ?v149) rfl (by kernel_rfl) (by kernel_rfl) (by kernel_rfl) (fun _ _ _ h => h) (Or.inl ⟨by rfl, ?hy149⟩) hHeld ?rest149
        case hy149 => (intro w' hSw; obtain ⟨s8, sc⟩ := hSw; obtain ⟨s0, s1, s2, s3, s4, s5, s6⟩ := op7 s8; go_simp; try with_reducible rfl)
        try simp [Act.put]
        refine wpAnyH_ready (rs := [35]) (by kernel_rfl) (by simp) ?_
        refine AllReadyH.cons rfl (fun K hK => ?_) AllReadyH.nil
        go_simp
        refine (j_count HJB.out x.id x.gen HG3.out).mono ?_
        rintro e w' ⟨rfl, rfl⟩
        rw [HCX.out]
        refine hK.out _ _ HKB.out (fun hHeld => ?_)
        clear hK K
        try simp [Act.put]
        refine wpAnyH_ready (rs := [43]) (by kernel_rfl) (by simp) ?_
        refine AllReadyH.cons rfl (fun K hK => ?_) AllReadyH.nil
        go_simp
        refine (jk_count HJB.out x.id x.gen (by have := HQL.out; omega)).mono ?_
        rintro e w' ⟨rfl, rfl⟩
        rw [HCX.out]
        refine hK.out _ _ HKB.out (fun hHeld => ?_)
        clear hK K
        try simp [Act.put]
        refine wpAnyH_take (i := 44) (v := ?v150) rfl (by kernel_rfl) (by kernel_rfl) (by kernel_rfl) (fun _ _ _ h => h) (Or.inl ⟨by rfl, ?hy150⟩) hHeld ?rest150
        case hy150 => (intro w' hSw; obtain ⟨s8, sc⟩ := hSw; obtain ⟨s0, s1, s2, s3, s4, s5, s6⟩ := op7 s8; go_simp; try with_reducible rfl)
        try simp [Act.put]
        refine wpAnyH_take (i := 45) (v := ?v151) rfl (by kernel_rfl) (by kernel_rfl) (by kernel_rfl) (fun _ _ _ h => h) (Or.inl ⟨by rfl, ?hy151⟩) hHeld ?rest151
        case hy151 => (intro w' hSw; obtain ⟨s8, sc⟩ := hSw; obtain ⟨s0, s1, s2, s3, s4, s5, s6⟩ := op7 s8; go_simp; try with_reducible rfl)
        try simp [Act.put]
        refine wpAnyH_done (by kernel_rfl) (NoPanic.normal ?_) _
        go_wp2_with fail
        exact ⟨⟨k + 1, by omega, by go_num, Q ++ [(pi, pg)], L, (HJB.out.free).mono (by omega), HQL.out, HLEN.out, HGD.out, HLS.out, HBB.out⟩, by simp [intOf]; omega⟩
      have hq0 : (pd == 0) = false := by simpa using q0
      clear q0
      by_cases q1 : pd = 1
      · have hq1 : (pd == 1) = true := by simpa using q1
        subst q1
        go_wp2_with fail
        obtain ⟨w5, hw5⟩ : ∃ w5, w5 = (wr.alloc (.cells #[.int .i64 1, .int .i64 pi, .int .i64 pg, .int .i64 x.id, .int .i64 x.gen, .int .i64 x.len, .slice xa m xc] 35)).drew := ⟨_, rfl⟩
        have HJ5 := hide (show Jn (some wr.heap.size) w.heap.size b kb k (cnt Q) L Q L [] w5 by rw [hw5]; exact HJA.out.below ((Below.refl _ _).drew))
        have HB5 := hide (show Below w.heap.size w w5 by rw [hw5]; exact HBA.out.drew)
        have HK5 := hide (show w5.heap[wr.heap.size]? = some (.cells #[.int .i64 1, .int .i64 pi, .int .i64 pg, .int .i64 x.id, .int .i64 x.gen, .int .i64 x.len, .slice xa m xc] 35 (0, 0)) by rw [hw5]; exact heap_alloc_new wr _)
        refine wp_region_noPanic ?_
        refine wp_region_held_drew (S := fun w' => w'.heap[wr.heap.size]? = some (.cells #[.int .i64 1, .int .i64 pi, .int .i64 pg, .int .i64 x.id, .int .i64 x.gen, .int .i64 x.len, .slice xa m xc] 35 (0, 0))) (by kernel_rfl) (by rw [← hw5]; exact HK5.out) (fun hHeld => ?_)
        rw [← hw5] at hHeld ⊢
        clear hw5
        refine wpAnyH_take (i := 0) (v := ?v152) rfl (by kernel_rfl) (by kernel_rfl) (by kernel_rfl) (fun _ _ _ h => h) (Or.inl ⟨by rfl, ?hy152⟩) hHeld ?rest152
        case hy152 => (intro w' hSw; obtain ⟨s0, s1, s2, s3, s4, s5, s6⟩ := op7 hSw; go_simp; try with_reducible rfl)
        try simp [Act.put]
        refine wpAnyH_take (i := 1) (v := ?v153) rfl (by kernel_rfl) (by kernel_rfl) (by kernel_rfl) (fun _ _ _ h => h) (Or.inl ⟨by rfl, ?hy153⟩) hHeld ?rest153
        case hy153 => (intro w' hSw; obtain ⟨s0, s1, s2, s3, s4, s5, s6⟩ := op7 hSw; go_simp; try with_reducible rfl)
        try simp [Act.put]
        refine wpAnyH_take (i := 2) (v := ?v154) rfl (by kernel_rfl) (by kernel_rfl) (by kernel_rfl) (fun _ _ _ h => h) (Or.inl ⟨by rfl, ?hy154⟩) hHeld ?rest154
        case hy154 => (intro w' hSw; obtain ⟨s0, s1, s2, s3, s4, s5, s6⟩ := op7 hSw; go_simp; try with_reducible rfl)
        try simp [Act.put]
        refine wpAnyH_take (i := 3) (v := ?v155) rfl (by kernel_rfl) (by kernel_rfl) (by kernel_rfl) (fun _ _ _ h => h) (Or.inl ⟨by rfl, ?hy155⟩) hHeld ?rest155
        case hy155 => (intro w' hSw; obtain ⟨s0, s1, s2, s3, s4, s5, s6⟩ := op7 hSw; go_simp; try with_reducible rfl)
        try simp [Act.put]
        refine wpAnyH_take (i := 4) (v := ?v156) rfl (by kernel_rfl) (by kernel_rfl) (by kernel_rfl) (fun _ _ _ h => h) (Or.inl ⟨by rfl, ?hy156⟩) hHeld ?rest156
        case hy156 => (intro w' hSw; obtain ⟨s0, s1, s2, s3, s4, s5, s6⟩ := op7 hSw; go_simp; try with_reducible rfl)
        try simp [Act.put]
        refine wpAnyH_take (i := 6) (v := ?v157) rfl (by kernel_rfl) (by kernel_rfl) (by kernel_rfl) (fun _ _ _ h => h) (Or.inl ⟨by rfl, ?hy157⟩) hHeld ?rest157
        case hy157 => (intro w' hSw; obtain ⟨s0, s1, s2, s3, s4, s5, s6⟩ := op7 hSw; go_simp; try with_reducible rfl)
        try simp [Act.put]
        refine wpAnyH_take (i := 7) (v := ?v158) rfl (by kernel_rfl) (by kernel_rfl) (by kernel_rfl) (fun _ _ _ h => h) (Or.inl ⟨by rfl, ?hy158⟩) hHeld ?rest158
        case hy158 => (intro w' hSw; obtain ⟨s0, s1, s2, s3, s4, s5, s6⟩ := op7 hSw; go_simp; try with_reducible rfl)
        try simp [Act.put]
        refine wpAnyH_take (i := 8) (v := ?v159) rfl (by kernel_rfl) (by kernel_rfl) (by kernel_rfl) (fun _ _ _ h => h) (Or.inl ⟨by rfl, ?hy159⟩) hHeld ?rest159
        case hy159 => (intro w' hSw; obtain ⟨s0, s1, s2, s3, s4, s5, s6⟩ := op7 hSw; go_simp; try with_reducible rfl)
        try simp [Act.put]
        refine wpAnyH_take (i := 9) (v := ?v160) rfl (by kernel_rfl) (by kernel_rfl) (by kernel_rfl) (fun _ _ _ h => h) (Or.inl ⟨by rfl, ?hy160⟩) hHeld ?rest160
        case hy160 => (intro w' hSw; obtain ⟨s0, s1, s2, s3, s4, s5, s6⟩ := op7 hSw; go_simp; try with_reducible rfl)
        try simp [Act.put]
        refine wpAnyH_take (i := 10) (v := ?v161) rfl (by kernel_rfl) (by kernel_rfl) (by kernel_rfl) (fun _ _ _ h => h) (Or.inl ⟨by rfl, ?hy161⟩) hHeld ?rest161
        case hy161 => (intro w' hSw; obtain ⟨s0, s1, s2, s3, s4, s5, s6⟩ := op7 hSw; go_simp; try with_reducible rfl)
        try simp [Act.put]
        refine wpAnyH_ready (rs := [5]) (by kernel_rfl) (by simp) ?_
        refine AllReadyH.cons rfl (fun K hK => ?_) AllReadyH.nil
        go_simp
        refine (j_unpin HJ5.out pi pg HG2.out (by omega)).mono ?_
        rintro e w6 ⟨rfl, hj6, hb6, hk6⟩
        have HJ6 := hide hj6
        have HB6 := hide (HB5.out.trans hb6)
        have HK6 := hide ((hk6 _ rfl).trans HK5.out)
        clear hj6 hb6 hk6
        refine hK.out _ _ HK6.out (fun hHeld => ?_)
        clear hK K
        try simp [Act.put]
        refine wpAnyH_ready (rs := [11]) (by kernel_rfl) (by simp) ?_
        refine AllReadyH.cons rfl (fun K hK => ?_) AllReadyH.nil
        go_simp
        refine (jk_unpin HJ6.out pi pg (by have := HQL0.out; omega)).mono ?_
        rintro e w8 ⟨rfl, hj8, hb8, hk8⟩
        rw [← cnt_erase] at hj8
        have HJ8 := hide hj8
        have HB8 := hide (HB6.out.trans hb8)
        have HK8 := hide ((hk8 _ rfl).trans HK6.out)
        clear hj8 hb8 hk8
        refine hK.out _ _ HK8.out (fun hHeld => ?_)
        clear hK K
        try simp [Act.put]
        refine wpAnyH_take (i := 12) (v := ?v162) rfl (by kernel_rfl) (by kernel_rfl) (by kernel_rfl) (fun _ _ _ h => h) (Or.inl ⟨by rfl, ?hy162⟩) hHeld ?rest162
        case hy162 => (intro w' hSw; obtain ⟨s0, s1, s2, s3, s4, s5, s6⟩ := op7 hSw; go_simp; try with_reducible rfl)
        try simp [Act.put]
        refine wpAnyH_take (i := 13) (v := ?v163) rfl (by kernel_rfl) (by kernel_rfl) (by kernel_rfl) (fun _ _ _ h => h) (Or.inl ⟨by rfl, ?hy163⟩) hHeld ?rest163
        case hy163 => (intro w' hSw; obtain ⟨s0, s1, s2, s3, s4, s5, s6⟩ := op7 hSw; go_simp; try with_reducible rfl)
        try simp [Act.put]
        refine wpAnyH_done (by kernel_rfl) (NoPanic.normal ?_) _
        have HQL : Hid (List.length (Q.erase (pi, pg)) ≤ k + 1) := by have h1 := HQL0.out; have h2 := List.length_erase_le (a := (pi, pg)) (l := Q); show _ ≤ _; omega
        have HLEN : Hid (List.length (L) ≤ k + 1) := by have := HLEN0.out; show _ ≤ _; omega
        have HGD : Hid (Good (L)) := HGD0.out
        have HLS : Hid (∀ y ∈ (L), y.ls.length ≤ 20) := HLS0.out
        obtain ⟨am, cm, hcw, hvm, hkl⟩ := HJ8.out.cw
        obtain ⟨mn, hmn⟩ : ∃ mn, List.length (L) = mn := ⟨_, rfl⟩
        rw [hmn] at hcw
        have HMN := hide hmn
        obtain ⟨cq, hcq⟩ : ∃ cq, cnt (Q.erase (pi, pg)) (pi, pg) = cq := ⟨_, rfl⟩
        obtain ⟨cx, hcx⟩ : ∃ cx, cnt (Q.erase (pi, pg)) (x.id, x.gen) = cx := ⟨_, rfl⟩
        have HCQ := hide hcq
        have HCX := hide hcx
        have hle40 : mn ≤ 41 := by have := HLEN.out; have := HMN.out; omega
        have HKL := hide (show kb < w8.drew.heap.size from hkl)
        have HVM := hide (show VosAt w.heap.size w8.drew am (L) from hvm.below ((Below.refl _ _).drew))
        have HJ9 := hide (HJ8.out.below ((Below.refl _ w8).drew))
        have HB9 := hide (HB8.out.drew)
        have HK9 : Hid (w8.drew.heap[wr.heap.size]? = some (.cells #[.int .i64 1, .int .i64 pi, .int .i64 pg, .int .i64 x.id, .int .i64 x.gen, .int .i64 x.len, .slice xa m xc] 35 (0, 0)) ∧ w8.drew.cell? ⟨kb, 1, none⟩ = some (.slice am mn cm)) := ⟨HK8.out, hcw⟩
        clear hcw hvm hkl hmn hcq hcx
        go_wp2_with fail
        refine wp_region_noPanic ?_
        refine wp_region_held_drew (S := fun w' => w'.heap[wr.heap.size]? = some (.cells #[.int .i64 1, .int .i64 pi, .int .i64 pg, .int .i64 x.id, .int .i64 x.gen, .int .i64 x.len, .slice xa m xc] 35 (0, 0)) ∧ w'.cell? ⟨kb, 1, none⟩ = some (.slice am mn cm)) (by kernel_rfl) HK9.out (fun hHeld => ?_)
        obtain ⟨w9, hw9⟩ : ∃ w9, w9 = w8.drew := ⟨_, rfl⟩
        rw [← hw9] at HKL HVM HJ9 HB9 HK9 hHeld ⊢
        clear hw9
        refine wpAnyH_take (i := 0) (v := ?v164) rfl (by kernel_rfl) (by kernel_rfl) (by kernel_rfl) (fun _ _ _ h => h) (Or.inl ⟨by rfl, ?hy164⟩) hHeld ?rest164
        case hy164 => (intro w' hSw; obtain ⟨s8, sc⟩ := hSw; obtain ⟨s0, s1, s2, s3, s4, s5, s6⟩ := op7 s8; go_simp; try with_reducible rfl)
        try simp [Act.put]
        refine wpAnyH_take (i := 1) (v := ?v165) rfl (by kernel_rfl) (by kernel_rfl) (by kernel_rfl) (fun _ _ _ h => h) (Or.inl ⟨by rfl, ?hy165⟩) hHeld ?rest165
        case hy165 => (intro w' hSw; obtain ⟨s8, sc⟩ := hSw; obtain ⟨s0, s1, s2, s3, s4, s5, s6⟩ := op7 s8; go_simp; try with_reducible rfl)
        try simp [Act.put]
        refine wpAnyH_take (i := 2) (v := ?v166) rfl (by kernel_rfl) (by kernel_rfl) (by kernel_rfl) (fun _ _ _ h => h) (Or.inl ⟨by rfl, ?hy166⟩) hHeld ?rest166
        case hy166 => (intro w' hSw; obtain ⟨s8, sc⟩ := hSw; obtain ⟨s0, s1, s2, s3, s4, s5, s6⟩ := op7 s8; go_simp; try with_reducible rfl)
        try simp [Act.put]
        refine wpAnyH_take (i := 3) (v := ?v167) rfl (by kernel_rfl) (by kernel_rfl) (by kernel_rfl) (fun _ _ _ h => h) (Or.inl ⟨by rfl, ?hy167⟩) hHeld ?rest167
        case hy167 => (intro w' hSw; obtain ⟨s8, sc⟩ := hSw; obtain ⟨s0, s1, s2, s3, s4, s5, s6⟩ := op7 s8; go_simp; try with_reducible rfl)
        try simp [Act.put]
        refine wpAnyH_take (i := 5) (v := ?v168) rfl (by kernel_rfl) (by kernel_rfl) (by kernel_rfl) (fun _ _ _ h => h) (Or.inl ⟨by rfl, ?hy168⟩) hHeld ?rest168
        case hy168 => (intro w' hSw; obtain ⟨s8, sc⟩ := hSw; obtain ⟨s0, s1, s2, s3, s4, s5, s6⟩ := op7 s8; go_simp; try with_reducible rfl)
        try simp [Act.put]
        refine wpAnyH_take (i := 6) (v := ?v169) rfl (by kernel_rfl) (by kernel_rfl) (by kernel_rfl) (fun _ _ _ h => h) (Or.inl ⟨by rfl, ?hy169⟩) hHeld ?rest169
        case hy169 => (intro w' hSw; obtain ⟨s8, sc⟩ := hSw; obtain ⟨s0, s1, s2, s3, s4, s5, s6⟩ := op7 s8; go_simp; try with_reducible rfl)
        try simp [Act.put]
        refine wpAnyH_take (i := 7) (v := ?v170) rfl (by kernel_rfl) (by kernel_rfl) (by kernel_rfl) (fun _ _ _ h => h) (Or.inl ⟨by rfl, ?hy170⟩) hHeld ?rest170
        case hy170 => (intro w' hSw; obtain ⟨s8, sc⟩ := hSw; obtain ⟨s0, s1, s2, s3, s4, s5, s6⟩ := op7 s8; go_simp; try with_reducible rfl)
        try simp [Act.put]
        refine wpAnyH_take (i := 8) (v := ?v171) rfl (by kernel_rfl) (by kernel_rfl) (by kernel_rfl) (fun _ _ _ h => h) (Or.inl ⟨by rfl, ?hy171⟩) hHeld ?rest171
        case hy171 => (intro w' hSw; obtain ⟨s8, sc⟩ := hSw; obtain ⟨s0, s1, s2, s3, s4, s5, s6⟩ := op7 s8; go_simp; try with_reducible rfl)
        try simp [Act.put]
        refine wpAnyH_ready (rs := [4]) (by kernel_rfl) (by simp) ?_
        refine AllReadyH.cons rfl (fun K hK => ?_) AllReadyH.nil
        go_simp
        refine (j_waits HJ9.out (fun y hy => (HGD.out y hy).2) (by have := HMN.out; omega)).mono ?_
        rintro e wa ⟨aw, cw, rfl, hvw, hba⟩
        have HJA := hide (HJ9.out.below hba)
        have HBA := hide (HB9.out.trans (hba.mono HB9.out.size))
        have HVA := hide (HVM.out.below hba)
        have HVW := hide hvw
        have HKA := hide (And.intro ((hba.block _ (lt_of_block HK9.out.1)).trans HK9.out.1) ((hba.cell (p := ⟨kb, 1, none⟩) HKL.out).trans HK9.out.2))
        have HKLA := hide (Nat.lt_of_lt_of_le HKL.out hba.size)
        rw [HMN.out]
        clear hvw hba
        refine hK.out _ _ HKA.out (fun hHeld => ?_)
        clear hK K
        try simp [Act.put]
        refine wpAnyH_ready (rs := [9]) (by kernel_rfl) (by simp) ?_
        refine AllReadyH.cons rfl (fun K hK => ?_) AllReadyH.nil
        go_simp
        refine (vosame_any w.heap.size aw am cw cm mn mn (L) (L) wa HMN.out HMN.out (by omega) (by omega) HVW.out HVA.out (fun y hy => by have := HLS.out y hy; omega) (fun y hy => by have := HLS.out y hy; omega)).mono ?_
        rintro e wb ⟨rfl, hbb⟩
        have HJB := hide (HJA.out.below hbb)
        have HBB := hide (HBA.out.trans (hbb.mono HBA.out.size))
        have HKB := hide (And.intro ((hbb.block _ (lt_of_block HKA.out.1)).trans HKA.out.1) ((hbb.cell (p := ⟨kb, 1, none⟩) HKLA.out).trans HKA.out.2))
        have hdd : decide (((L) : List VD) = (L)) = true := by simp
        rw [hdd]
        clear hbb hdd
        refine hK.out _ _ HKB.out (fun hHeld => ?_)
        clear hK K
        try simp [Act.put]
        refine wpAnyH_take (i := 10) (v := ?v172) rfl (by kernel_rfl) (by kernel_rfl) (by kernel_rfl) (fun _ _ _ h => h) (Or.inl ⟨by rfl, ?hy172⟩) hHeld ?rest172
        case hy172 => (intro w' hSw; obtain ⟨s8, sc⟩ := hSw; obtain ⟨s0, s1, s2, s3, s4, s5, s6⟩ := op7 s8; go_simp; try with_reducible rfl)
        try simp [Act.put]
        refine wpAnyH_take (i := 11) (v := ?v173) rfl (by kernel_rfl) (by kernel_rfl) (by kernel_rfl) (fun _ _ _ h => h) (Or.inl ⟨by rfl, ?hy173⟩) hHeld ?rest173
        case hy173 => (intro w' hSw; obtain ⟨s8, sc⟩ := hSw; obtain ⟨s0, s1, s2, s3, s4, s5, s6⟩ := op7 s8; go_simp; try with_reducible rfl)
        try simp [Act.put]
        refine wpAnyH_take (i := 12) (v := ?v174) rfl (by kernel_rfl) (by kernel_rfl) (by kernel_rfl) (fun _ _ _ h => h) (Or.inl ⟨by rfl, ?hy174⟩) hHeld ?rest174
        case hy174 => (intro w' hSw; obtain ⟨s8, sc⟩ := hSw; obtain ⟨s0, s1, s2, s3, s4, s5, s6⟩ := op7 s8; go_simp; try with_reducible rfl)
        try simp [Act.put]
        refine wpAnyH_take (i := 13) (v := ?v175) rfl (by kernel_rfl) (by kernel_rfl) (by kernel_rfl) (fun _ _ _ h => h) (Or.inl ⟨by rfl, ?hy175⟩) hHeld ?rest175
        case hy175 => (intro w' hSw; obtain ⟨s8, sc⟩ := hSw; obtain ⟨s0, s1, s2, s3, s4, s5, s6⟩ := op7 s8; go_simp; try with_reducible rfl)
        try simp [Act.put]
        refine wpAnyH_take (i := 14) (v := ?v176) rfl (by kernel_rfl) (by kernel_rfl) (by kernel_rfl) (fun _ _ _ h => h) (Or.inl ⟨by rfl, ?hy176⟩) hHeld ?rest176
        case hy176 => (intro w' hSw; obtain ⟨s8, sc⟩ := hSw; obtain ⟨s0, s1, s2, s3, s4, s5, s6⟩ := op7 s8; go_simp; try with_reducible rfl)
        try simp [Act.put]
        refine wpAnyH_take (i := 15) (v := ?v177) rfl (by kernel_rfl) (by kernel_rfl) (by kernel_rfl) (fun _ _ _ h => h) (Or.inl ⟨by rfl, ?hy177⟩) hHeld ?rest177
        case hy177 => (intro w' hSw; obtain ⟨s8, sc⟩ := hSw; obtain ⟨s0, s1, s2, s3, s4, s5, s6⟩ := op7 s8; go_simp; try with_reducible rfl)
        try simp [Act.put]
        refine wpAnyH_take (i := 16) (v := ?v178) rfl (by kernel_rfl) (by kernel_rfl) (by kernel_rfl) (fun _ _ _ h => h) (Or.inl ⟨by rfl, ?hy178⟩) hHeld ?rest178
        case hy178 => (intro w' hSw; obtain ⟨s8, sc⟩ := hSw; obtain ⟨s0, s1, s2, s3, s4, s5, s6⟩ := op7 s8; go_simp; try with_reducible rfl)
        try simp [Act.put]
        refine wpAnyH_take (i := 17) (v := ?v179) rfl (by kernel_rfl) (by kernel_rfl) (by kernel_rfl) (fun _ _ _ h => h) (Or.inl ⟨by rfl, ?hy179⟩) hHeld ?rest179
        case hy179 => (intro w' hSw; obtain ⟨s8, sc⟩ := hSw; obtain ⟨s0, s1, s2, s3, s4, s5, s6⟩ := op7 s8; go_simp; try with_reducible rfl)
        try simp [Act.put]
        refine wpAnyH_take (i := 19) (v := ?v180) rfl (by kernel_rfl) (by kernel_rfl) (by kernel_rfl) (fun _ _ _ h => h) (Or.inl ⟨by rfl, ?hy180⟩) hHeld ?rest180
        case hy180 => (intro w' hSw; obtain ⟨s8, sc⟩ := hSw; obtain ⟨s0, s1, s2, s3, s4, s5, s6⟩ := op7 s8; go_simp; try with_reducible rfl)
        try simp [Act.put]
        refine wpAnyH_take (i := 20) (v := ?v181) rfl (by kernel_rfl) (by kernel_rfl) (by kernel_rfl) (fun _ _ _ h => h) (Or.inl ⟨by rfl, ?hy181⟩) hHeld ?rest181
        case hy181 => (intro w' hSw; obtain ⟨s8, sc⟩ := hSw; obtain ⟨s0, s1, s2, s3, s4, s5, s6⟩ := op7 s8; go_simp; try with_reducible rfl)
        try simp [Act.put]
        refine wpAnyH_take (i := 21) (v := ?v182) rfl (by kernel_rfl) (by kernel_rfl) (by kernel_rfl) (fun _ _ _ h => h) (Or.inl ⟨by rfl, ?hy182⟩) hHeld ?rest182
        case hy182 => (intro w' hSw; obtain ⟨s8, sc⟩ := hSw; obtain ⟨s0, s1, s2, s3, s4, s5, s6⟩ := op7 s8; go_simp; try with_reducible rfl)
        try simp [Act.put]
        refine wpAnyH_take (i := 22) (v := ?v183) rfl (by kernel_rfl) (by kernel_rfl) (by kernel_rfl) (fun _ _ _ h => h) (Or.inl ⟨by rfl, ?hy183⟩) hHeld ?rest183
        case hy183 => (intro w' hSw; obtain ⟨s8, sc⟩ := hSw; obtain ⟨s0, s1, s2, s3, s4, s5, s6⟩ := op7 s8; go_simp; try with_reducible rfl)
        try simp [Act.put]
        refine wpAnyH_take (i := 23) (v := ?v184) rfl (by kernel_rfl) (by kernel_rfl) (by kernel_rfl) (fun _ _ _ h => h) (Or.inl ⟨by rfl, ?hy184⟩) hHeld ?rest184
        case hy184 => (intro w' hSw; obtain ⟨s8, sc⟩ := hSw; obtain ⟨s0, s1, s2, s3, s4, s5, s6⟩ := op7 s8; go_simp; try with_reducible rfl)
        try simp [Act.put]
        refine wpAnyH_ready (rs := [18]) (by kernel_rfl) (by simp) ?_
        refine AllReadyH.cons rfl (fun K hK => ?_) AllReadyH.nil
        go_simp
        refine (j_count HJB.out pi pg HG2.out).mono ?_
        rintro e w' ⟨rfl, rfl⟩
        rw [HCQ.out]
        refine hK.out _ _ HKB.out (fun hHeld => ?_)
        clear hK K
        try simp [Act.put]
        refine wpAnyH_ready (rs := [24]) (by kernel_rfl) (by simp) ?_
        refine AllReadyH.cons rfl (fun K hK => ?_) AllReadyH.nil
        go_simp
        refine (jk_count HJB.out pi pg (by have := HQL.out; omega)).mono ?_
        rintro e w' ⟨rfl, rfl⟩
        rw [HCQ.out]
        refine hK.out _ _ HKB.out (fun hHeld => ?_)
        clear hK K
        try simp [Act.put]
        refine wpAnyH_take (i := 25) (v := ?v185) rfl (by kernel_rfl) (by kernel_rfl) (by kernel_rfl) (fun _ _ _ h => h) (Or.inl ⟨by rfl, ?hy185⟩) hHeld ?rest185
        case hy185 => (intro w' hSw; obtain ⟨s8, sc⟩ := hSw; obtain ⟨s0, s1, s2, s3, s4, s5, s6⟩ := op7 s8; go_simp; try with_reducible rfl)
        try simp [Act.put]
        refine wpAnyH_take (i := 26) (v := ?v186) rfl (by kernel_rfl) (by kernel_rfl) (by kernel_rfl) (fun _ _ _ h => h) (Or.inl ⟨by rfl, ?hy186⟩) hHeld ?rest186
        case hy186 => (intro w' hSw; obtain ⟨s8, sc⟩ := hSw; obtain ⟨s0, s1, s2, s3, s4, s5, s6⟩ := op7 s8; go_simp; try with_reducible rfl)
        try simp [Act.put]
        refine wpAnyH_take (i := 27) (v := ?v187) rfl (by kernel_rfl) (by kernel_rfl) (by kernel_rfl) (fun _ _ _ h => h) (Or.inl ⟨by rfl, ?hy187⟩) hHeld ?rest187
        case hy187 => (intro w' hSw; obtain ⟨s8, sc⟩ := hSw; obtain ⟨s0, s1, s2, s3, s4, s5, s6⟩ := op7 s8; go_simp; try with_reducible rfl)
        try simp [Act.put]
        refine wpAnyH_take (i := 28) (v := ?v188) rfl (by kernel_rfl) (by kernel_rfl) (by kernel_rfl) (fun _ _ _ h => h) (Or.inl ⟨by rfl, ?hy188⟩) hHeld ?rest188
        case hy188 => (intro w' hSw; obtain ⟨s8, sc⟩ := hSw; obtain ⟨s0, s1, s2, s3, s4, s5, s6⟩ := op7 s8; go_simp; try with_reducible rfl)
        try simp [Act.put]
        refine wpAnyH_take (i := 29) (v := ?v189) rfl (by kernel_rfl) (by kernel_rfl) (by kernel_rfl) (fun _ _ _ h => h) (Or.inl ⟨by rfl, ?hy189⟩) hHeld ?rest189
        case hy189 => (intro w' hSw; obtain ⟨s8, sc⟩ := hSw; obtain ⟨s0, s1, s2, s3, s4, s5, s6⟩ := op7 s8; go_simp; try with_reducible rfl)
        try simp [Act.put]
        refine wpAnyH_take (i := 30) (v := ?v190) rfl (by kernel_rfl) (by kernel_rfl) (by kernel_rfl) (fun _ _ _ h => h) (Or.inl ⟨by rfl, ?hy190⟩) hHeld ?rest190
        case hy190 => (intro w' hSw; obtain ⟨s8, sc⟩ := hSw; obtain ⟨s0, s1, s2, s3, s4, s5, s6⟩ := op7 s8; go_simp; try with_reducible rfl)
        try simp [Act.put]
        refine wpAnyH_take (i := 31) (v := ?v191) rfl (by kernel_rfl) (by kernel_rfl) (by kernel_rfl) (fun _ _ _ h => h) (Or.inl ⟨by rfl, ?hy191⟩) hHeld ?rest191
        case hy191 => (intro w' hSw; obtain ⟨s8, sc⟩ := hSw; obtain ⟨s0, s1, s2, s3, s4, s5, s6⟩ := op7 s8; go_simp; try with_reducible rfl)
        try simp [Act.put]
        refine wpAnyH_take (i := 32) (v := ?v192) rfl (by kernel_rfl) (by kernel_rfl) (by kernel_rfl) (fun _ _ _ h => h) (Or.inl ⟨by rfl, ?hy192⟩) hHeld ?rest192
        case hy192 => (intro w' hSw; obtain ⟨s8, sc⟩ := hSw; obtain ⟨s0, s1, s2, s3, s4, s5, s6⟩ := op7 s8; go_simp; try with_reducible rfl)
        try simp [Act.put]
        refine wpAnyH_take (i := 33) (v := ?v193) rfl (by kernel_rfl) (by kernel_rfl) (by kernel_rfl) (fun _ _ _ h => h) (Or.inl ⟨by rfl, ?hy193⟩) hHeld ?rest193
        case hy193 => (intro w' hSw; obtain ⟨s8, sc⟩ := hSw; obtain ⟨s0, s1, s2, s3, s4, s5, s6⟩ := op7 s8; go_simp; try with_reducible rfl)
        try simp [Act.put]
        refine wpAnyH_take (i := 34) (v := ?v194) rfl (by kernel_rfl) (by kernel_rfl) (by kernel_rfl) (fun _ _ _ h => h) (Or.inl ⟨by rfl, ?hy194⟩) hHeld ?rest194
        case hy194 => (intro w' hSw; obtain ⟨s8, sc⟩ := hSw; obtain ⟨s0, s1, s2, s3, s4, s5, s6⟩ := op7 s8; go_simp; try with_reducible rfl)
        try simp [Act.put]
        refine wpAnyH_take (i := 36) (v := ?v195) rfl (by kernel_rfl) (by kernel_rfl) (by kernel_rfl) (fun _ _ _ h => h) (Or.inl ⟨by rfl, ?hy195⟩) hHeld ?rest195
        case hy195 => (intro w' hSw; obtain ⟨s8, sc⟩ := hSw; obtain ⟨s0, s1, s2, s3, s4, s5, s6⟩ := op7 s8; go_simp; try with_reducible rfl)
        try simp [Act.put]
        refine wpAnyH_take (i := 37) (v := ?v196) rfl (by kernel_rfl) (by kernel_rfl) (by kernel_rfl) (fun _ _ _ h => h) (Or.inl ⟨by rfl, ?hy196⟩) hHeld ?rest196
        case hy196 => (intro w' hSw; obtain ⟨s8, sc⟩ := hSw; obtain ⟨s0, s1, s2, s3, s4, s5, s6⟩ := op7 s8; go_simp; try with_reducible rfl)
        try simp [Act.put]
        refine wpAnyH_take (i := 38) (v := ?v197) rfl (by kernel_rfl) (by kernel_rfl) (by kernel_rfl) (fun _ _ _ h => h) (Or.inl ⟨by rfl, ?hy197⟩) hHeld ?rest197
        case hy197 => (intro w' hSw; obtain ⟨s8, sc⟩ := hSw; obtain ⟨s0, s1, s2, s3, s4, s5, s6⟩ := op7 s8; go_simp; try with_reducible rfl)
        try simp [Act.put]
        refine wpAnyH_take (i := 39) (v := ?v198) rfl (by kernel_rfl) (by kernel_rfl) (by kernel_rfl) (fun _ _ _ h => h) (Or.inl ⟨by rfl, ?hy198⟩) hHeld ?rest198
        case hy198 => (intro w' hSw; obtain ⟨s8, sc⟩ := hSw; obtain ⟨s0, s1, s2, s3, s4, s5, s6⟩ := op7 s8; go_simp; try with_reducible rfl)
        try simp [Act.put]
        refine wpAnyH_take (i := 40) (v := ?v199) rfl (by kernel_rfl) (by kernel_rfl) (by kernel_rfl) (fun _ _ _ h => h) (Or.inl ⟨by rfl, ?hy199⟩) hHeld ?rest199
        case hy199 => (intro w' hSw; obtain ⟨s8, sc⟩ := hSw; obtain ⟨s0, s1, s2, s3, s4, s5, s6⟩ := op7 s8; go_simp; try with_reducible rfl)
        try simp [Act.put]
        refine wpAnyH_take (i := 41) (v := ?v200) rfl (by kernel_rfl) (by kernel_rfl) (by kernel_rfl) (fun _ _ _ h => h) (Or.inl ⟨by rfl, ?hy200⟩) hHeld ?rest200
        case hy200 => (intro w' hSw; obtain ⟨s8, sc⟩ := hSw; obtain ⟨s0, s1, s2, s3, s4, s5, s6⟩ := op7 s8; go_simp; try with_reducible rfl)
        try simp [Act.put]
        refine wpAnyH_take (i := 42) (v := ?v201) rfl (by kernel_rfl) (by kernel_rfl) (by kernel_rfl) (fun _ _ _ h => h) (Or.inl ⟨by rfl, ?hy201⟩) hHeld ?rest201
        case hy201 => (intro w' hSw; obtain ⟨s8, sc⟩ := hSw; obtain ⟨s0, s1, s2, s3, s4, s5, s6⟩ := op7 s8; go_simp; try with_reducible rfl)
        try simp [Act.put]
        refine wpAnyH_ready (rs := [35]) (by kernel_rfl) (by simp) ?_
        refine AllReadyH.cons rfl (fun K hK => ?_) AllReadyH.nil
        go_simp
        refine (j_count HJB.out x.id x.gen HG3.out).mono ?_
        rintro e w' ⟨rfl, rfl⟩
        rw [HCX.out]
        refine hK.out _ _ HKB.out (fun hHeld => ?_)
        clear hK K
        try simp [Act.put]
        refine wpAnyH_ready (rs := [43]) (by kernel_rfl) (by simp) ?_
        refine AllReadyH.cons rfl (fun K hK => ?_) AllReadyH.nil
        go_simp
        refine (jk_count HJB.out x.id x.gen (by have := HQL.out; omega)).mono ?_
        rintro e w' ⟨rfl, rfl⟩
        rw [HCX.out]
        refine hK.out _ _ HKB.out (fun hHeld => ?_)
        clear hK K
        try simp [Act.put]
        refine wpAnyH_take (i := 44) (v := ?v202) rfl (by kernel_rfl) (by kernel_rfl) (by kernel_rfl) (fun _ _ _ h => h) (Or.inl ⟨by rfl, ?hy202⟩) hHeld ?rest202
        case hy202 => (intro w' hSw; obtain ⟨s8, sc⟩ := hSw; obtain ⟨s0, s1, s2, s3, s4, s5, s6⟩ := op7 s8; go_simp; try with_reducible rfl)
        try simp [Act.put]
        refine wpAnyH_take (i := 45) (v := ?v203) rfl (by kernel_rfl) (by kernel_rfl) (by kernel_rfl) (fun _ _ _ h => h) (Or.inl ⟨by rfl, ?hy203⟩) hHeld ?rest203
        case hy203 => (intro w' hSw; obtain ⟨s8, sc⟩ := hSw; obtain ⟨s0, s1, s2, s3, s4, s5, s6⟩ := op7 s8; go_simp; try with_reducible rfl)
        try simp [Act.put]
        refine wpAnyH_done (by kernel_rfl) (NoPanic.normal ?_) _
        go_wp2_with fail
        exact ⟨⟨k + 1, by omega, by go_num, Q.erase (pi, pg), L, (HJB.out.free).mono (by omega), HQL.out, HLEN.out, HGD.out, HLS.out, HBB.out⟩, by simp [intOf]; omega⟩
      have hq1 : (pd == 1) = false := by simpa using q1
      clear q1
      by_cases q2 : pd = 2
      · have hq2 : (pd == 2) = true := by simpa using q2
        subst q2
        go_wp2_with fail
        obtain ⟨w5, hw5⟩ : ∃ w5, w5 = (wr.alloc (.cells #[.int .i64 2, .int .i64 pi, .int .i64 pg, .int .i64 x.id, .int .i64 x.gen, .int .i64 x.len, .slice xa m xc] 35)).drew := ⟨_, rfl⟩
        have HJ5 := hide (show Jn (some wr.heap.size) w.heap.size b kb k (cnt Q) L Q L [] w5 by rw [hw5]; exact HJA.out.below ((Below.refl _ _).drew))
        have HB5 := hide (show Below w.heap.size w w5 by rw [hw5]; exact HBA.out.drew)
        have HK5 := hide (show w5.heap[wr.heap.size]? = some (.cells #[.int .i64 2, .int .i64 pi, .int .i64 pg, .int .i64 x.id, .int .i64 x.gen, .int .i64 x.len, .slice xa m xc] 35 (0, 0)) by rw [hw5]; exact heap_alloc_new wr _)
        refine wp_region_noPanic ?_
        refine wp_region_held_drew (S := fun w' => w'.heap[wr.heap.size]? = some (.cells #[.int .i64 2, .int .i64 pi, .int .i64 pg, .int .i64 x.id, .int .i64 x.gen, .int .i64 x.len, .slice xa m xc] 35 (0, 0))) (by kernel_rfl) (by rw [← hw5]; exact HK5.out) (fun hHeld => ?_)
        rw [← hw5] at hHeld ⊢
        clear hw5
        refine wpAnyH_take (i := 0) (v := ?v204) rfl (by kernel_rfl) (by kernel_rfl) (by kernel_rfl) (fun _ _ _ h => h) (Or.inl ⟨by rfl, ?hy204⟩) hHeld ?rest204
        case hy204 => (intro w' hSw; obtain ⟨s0, s1, s2, s3, s4, s5, s6⟩ := op7 hSw; go_simp; try with_reducible rfl)
        try simp [Act.put]
        refine wpAnyH_take (i := 1) (v := ?v205) rfl (by kernel_rfl) (by kernel_rfl) (by kernel_rfl) (fun _ _ _ h => h) (Or.inl ⟨by rfl, ?hy205⟩) hHeld ?rest205
        case hy205 => (intro w' hSw; obtain ⟨s0, s1, s2, s3, s4, s5, s6⟩ := op7 hSw; go_simp; try with_reducible rfl)
        try simp [Act.put]
        refine wpAnyH_take (i := 2) (v := ?v206) rfl (by kernel_rfl) (by kernel_rfl) (by kernel_rfl) (fun _ _ _ h => h) (Or.inl ⟨by rfl, ?hy206⟩) hHeld ?rest206
        case hy206 => (intro w' hSw; obtain ⟨s0, s1, s2, s3, s4, s5, s6⟩ := op7 hSw; go_simp; try with_reducible rfl)
        try simp [Act.put]
        refine wpAnyH_take (i := 4) (v := ?v207) rfl (by kernel_rfl) (by kernel_rfl) (by kernel_rfl) (fun _ _ _ h => h) (Or.inl ⟨by rfl, ?hy207⟩) hHeld ?rest207
        case hy207 => (intro w' hSw; obtain ⟨s0, s1, s2, s3, s4, s5, s6⟩ := op7 hSw; go_simp; try with_reducible rfl)
        try simp [Act.put]
        refine wpAnyH_take (i := 5) (v := ?v208) rfl (by kernel_rfl) (by kernel_rfl) (by kernel_rfl) (fun _ _ _ h => h) (Or.inl ⟨by rfl, ?hy208⟩) hHeld ?rest208
        case hy208 => (intro w' hSw; obtain ⟨s0, s1, s2, s3, s4, s5, s6⟩ := op7 hSw; go_simp; try with_reducible rfl)
        try simp [Act.put]
        refine wpAnyH_take (i := 6) (v := ?v209) rfl (by kernel_rfl) (by kernel_rfl) (by kernel_rfl) (fun _ _ _ h => h) (Or.inl ⟨by rfl, ?hy209⟩) hHeld ?rest209
        case hy209 => (intro w' hSw; obtain ⟨s0, s1, s2, s3, s4, s5, s6⟩ := op7 hSw; go_simp; try with_reducible rfl)
        try simp [Act.put]
        refine wpAnyH_ready (rs := [3]) (by kernel_rfl) (by simp) ?_
        refine AllReadyH.cons rfl (fun K hK => ?_) AllReadyH.nil
        go_simp
        refine (j_retire HJ5.out x xa m xc HM.out (by omega) (HXK.out.at.below (HB5.out)) (by have := HLEN0.out; omega)).mono ?_
        rintro e w6 ⟨rfl, hj6, hb6, hk6⟩
        have HJ6 := hide hj6
        have HB6 := hide (HB5.out.trans hb6)
        have HK6 := hide ((hk6 _ rfl).trans HK5.out)
        clear hj6 hb6 hk6
        refine hK.out _ _ HK6.out (fun hHeld => ?_)
        clear hK K
        try simp [Act.put]
        refine wpAnyH_ready (rs := [7]) (by kernel_rfl) (by simp) ?_
        refine AllReadyH.cons rfl (fun K hK => ?_) AllReadyH.nil
        go_simp
        refine (jk_retire HJ6.out x xa m xc HM.out (HXK.out.below HB6.out) (by have := HLEN0.out; omega)).mono ?_
        rintro e w8 ⟨rfl, hj8, hb8, hk8⟩
        have HJ8 := hide hj8
        have HB8 := hide (HB6.out.trans hb8)
        have HK8 := hide ((hk8 _ rfl).trans HK6.out)
        clear hj8 hb8 hk8
        refine hK.out _ _ HK8.out (fun hHeld => ?_)
        clear hK K
        try simp [Act.put]
        refine wpAnyH_take (i := 8) (v := ?v210) rfl (by kernel_rfl) (by kernel_rfl) (by kernel_rfl) (fun _ _ _ h => h) (Or.inl ⟨by rfl, ?hy210⟩) hHeld ?rest210
        case hy210 => (intro w' hSw; obtain ⟨s0, s1, s2, s3, s4, s5, s6⟩ := op7 hSw; go_simp; try with_reducible rfl)
        try simp [Act.put]
        refine wpAnyH_take (i := 9) (v := ?v211) rfl (by kernel_rfl) (by kernel_rfl) (by kernel_rfl) (fun _ _ _ h => h) (Or.inl ⟨by rfl, ?hy211⟩) hHeld ?rest211
        case hy211 => (intro w' hSw; obtain ⟨s0, s1, s2, s3, s4, s5, s6⟩ := op7 hSw; go_simp; try with_reducible rfl)
        try simp [Act.put]
        refine wpAnyH_done (by kernel_rfl) (NoPanic.normal ?_) _
        have HQL : Hid (List.length (Q) ≤ k + 1) := by have := HQL0.out; show _ ≤ _; omega
        have HLEN : Hid (List.length (reL L x) ≤ k + 1) := by have h1 := HLEN0.out; have h2 := reL_le L x; show _ ≤ _; omega
        have HGD : Hid (Good (reL L x)) := HGD0.out.re ⟨HG3.out, by have := HM.out; omega⟩
        have HLS : Hid (∀ y ∈ (reL L x), y.ls.length ≤ 20) := fun y hy => by rcases mem_reL hy with q | rfl; exact HLS0.out y q; (have := HM.out; omega)
        obtain ⟨am, cm, hcw, hvm, hkl⟩ := HJ8.out.cw
        obtain ⟨mn, hmn⟩ : ∃ mn, List.length (reL L x) = mn := ⟨_, rfl⟩
        rw [hmn] at hcw
        have HMN := hide hmn
        obtain ⟨cq, hcq⟩ : ∃ cq, cnt (Q) (pi, pg) = cq := ⟨_, rfl⟩
        obtain ⟨cx, hcx⟩ : ∃ cx, cnt (Q) (x.id, x.gen) = cx := ⟨_, rfl⟩
        have HCQ := hide hcq
        have HCX := hide hcx
        have hle40 : mn ≤ 41 := by have := HLEN.out; have := HMN.out; omega
        have HKL := hide (show kb < w8.drew.heap.size from hkl)
        have HVM := hide (show VosAt w.heap.size w8.drew am (reL L x) from hvm.below ((Below.refl _ _).drew))
        have HJ9 := hide (HJ8.out.below ((Below.refl _ w8).drew))
        have HB9 := hide (HB8.out.drew)
        have HK9 : Hid (w8.drew.heap[wr.heap.size]? = some (.cells #[.int .i64 2, .int .i64 pi, .int .i64 pg, .int .i64 x.id, .int .i64 x.gen, .int .i64 x.len, .slice xa m xc] 35 (0, 0)) ∧ w8.drew.cell? ⟨kb, 1, none⟩ = some (.slice am mn cm)) := ⟨HK8.out, hcw⟩
        clear hcw hvm hkl hmn hcq hcx
        go_wp2_with fail
        refine wp_region_noPanic ?_
        refine wp_region_held_drew (S := fun w' => w'.heap[wr.heap.size]? = some (.cells #[.int .i64 2, .int .i64 pi, .int .i64 pg, .int .i64 x.id, .int .i64 x.gen, .int .i64 x.len, .slice xa m xc] 35 (0, 0)) ∧ w'.cell? ⟨kb, 1, none⟩ = some (.slice am mn cm)) (by kernel_rfl) HK9.out (fun hHeld => ?_)
        obtain ⟨w9, hw9⟩ : ∃ w9, w9 = w8.drew := ⟨_, rfl⟩
        rw [← hw9] at HKL HVM HJ9 HB9 HK9 hHeld ⊢
        clear hw9
        refine wpAnyH_take (i := 0) (v := ?v212) rfl (by kernel_rfl) (by kernel_rfl) (by kernel_rfl) (fun _ _ _ h => h) (Or.inl ⟨by rfl, ?hy212⟩) hHeld ?rest212
        case hy212 => (intro w' hSw; obtain ⟨s8, sc⟩ := hSw; obtain ⟨s0, s1, s2, s3, s4, s5, s6⟩ := op7 s8; go_simp; try with_reducible rfl)
        try simp [Act.put]
        refine wpAnyH_take (i := 1) (v := ?v213) rfl (by kernel_rfl) (by kernel_rfl) (by kernel_rfl) (fun _ _ _ h => h) (Or.inl ⟨by rfl, ?hy213⟩) hHeld ?rest213
        case hy213 => (intro w' hSw; obtain ⟨s8, sc⟩ := hSw; obtain ⟨s0, s1, s2, s3, s4, s5, s6⟩ := op7 s8; go_simp; try with_reducible rfl)
        try simp [Act.put]
        refine wpAnyH_take (i := 2) (v := ?v214) rfl (by kernel_rfl) (by kernel_rfl) (by kernel_rfl) (fun _ _ _ h => h) (Or.inl ⟨by rfl, ?hy214⟩) hHeld ?rest214
        case hy214 => (intro w' hSw; obtain ⟨s8, sc⟩ := hSw; obtain ⟨s0, s1, s2, s3, s4, s5, s6⟩ := op7 s8; go_simp; try with_reducible rfl)
        try simp [Act.put]
        refine wpAnyH_take (i := 3) (v := ?v215) rfl (by kernel_rfl) (by kernel_rfl) (by kernel_rfl) (fun _ _ _ h => h) (Or.inl ⟨by rfl, ?hy215⟩) hHeld ?rest215
        case hy215 => (intro w' hSw; obtain ⟨s8, sc⟩ := hSw; obtain ⟨s0, s1, s2, s3, s4, s5, s6⟩ := op7 s8; go_simp; try with_reducible rfl)
        try simp [Act.put]
        refine wpAnyH_take (i := 5) (v := ?v216) rfl (by kernel_rfl) (by kernel_rfl) (by kernel_rfl) (fun _ _ _ h => h) (Or.inl ⟨by rfl, ?hy216⟩) hHeld ?rest216
        case hy216 => (intro w' hSw; obtain ⟨s8, sc⟩ := hSw; obtain ⟨s0, s1, s2, s3, s4, s5, s6⟩ := op7 s8; go_simp; try with_reducible rfl)
        try simp [Act.put]
        refine wpAnyH_take (i := 6) (v := ?v217) rfl (by kernel_rfl) (by kernel_rfl) (by kernel_rfl) (fun _ _ _ h => h) (Or.inl ⟨by rfl, ?hy217⟩) hHeld ?rest217
        case hy217 => (intro w' hSw; obtain ⟨s8, sc⟩ := hSw; obtain ⟨s0, s1, s2, s3, s4, s5, s6⟩ := op7 s8; go_simp; try with_reducible rfl)
        try simp [Act.put]
        refine wpAnyH_take (i := 7) (v := ?v218) rfl (by kernel_rfl) (by kernel_rfl) (by kernel_rfl) (fun _ _ _ h => h) (Or.inl ⟨by rfl, ?hy218⟩) hHeld ?rest218
        case hy218 => (intro w' hSw; obtain ⟨s8, sc⟩ := hSw; obtain ⟨s0, s1, s2, s3, s4, s5, s6⟩ := op7 s8; go_simp; try with_reducible rfl)
        try simp [Act.put]
        refine wpAnyH_take (i := 8) (v := ?v219) rfl (by kernel_rfl) (by kernel_rfl) (by kernel_rfl) (fun _ _ _ h => h) (Or.inl ⟨by rfl, ?hy219⟩) hHeld ?rest219
        case hy219 => (intro w' hSw; obtain ⟨s8, sc⟩ := hSw; obtain ⟨s0, s1, s2, s3, s4, s5, s6⟩ := op7 s8; go_simp; try with_reducible rfl)
        try simp [Act.put]
        refine wpAnyH_ready (rs := [4]) (by kernel_rfl) (by simp) ?_
        refine AllReadyH.cons rfl (fun K hK => ?_) AllReadyH.nil
        go_simp
        refine (j_waits HJ9.out (fun y hy => (HGD.out y hy).2) (by have := HMN.out; omega)).mono ?_
        rintro e wa ⟨aw, cw, rfl, hvw, hba⟩
        have HJA := hide (HJ9.out.below hba)
        have HBA := hide (HB9.out.trans (hba.mono HB9.out.size))
        have HVA := hide (HVM.out.below hba)
        have HVW := hide hvw
        have HKA := hide (And.intro ((hba.block _ (lt_of_block HK9.out.1)).trans HK9.out.1) ((hba.cell (p := ⟨kb, 1, none⟩) HKL.out).trans HK9.out.2))
        have HKLA := hide (Nat.lt_of_lt_of_le HKL.out hba.size)
        rw [HMN.out]
        clear hvw hba
        refine hK.out _ _ HKA.out (fun hHeld => ?_)
        clear hK K
        try simp [Act.put]
        refine wpAnyH_ready (rs := [9]) (by kernel_rfl) (by simp) ?_
        refine AllReadyH.cons rfl (fun K hK => ?_) AllReadyH.nil
        go_simp
        refine (vosame_any w.heap.size aw am cw cm mn mn (reL L x) (reL L x) wa HMN.out HMN.out (by omega) (by omega) HVW.out HVA.out (fun y hy => by have := HLS.out y hy; omega) (fun y hy => by have := HLS.out y hy; omega)).mono ?_
        rintro e wb ⟨rfl, hbb⟩
        have HJB := hide (HJA.out.below hbb)
        have HBB := hide (HBA.out.trans (hbb.mono HBA.out.size))
        have HKB := hide (And.intro ((hbb.block _ (lt_of_block HKA.out.1)).trans HKA.out.1) ((hbb.cell (p := ⟨kb, 1, none⟩) HKLA.out).trans HKA.out.2))
        have hdd : decide (((reL L x) : List VD) = (reL L x)) = true := by simp
        rw [hdd]
        clear hbb hdd
        refine hK.out _ _ HKB.out (fun hHeld => ?_)
        clear hK K
        try simp [Act.put]
        refine wpAnyH_take (i := 10) (v := ?v220) rfl (by kernel_rfl) (by kernel_rfl) (by kernel_rfl) (fun _ _ _ h => h) (Or.inl ⟨by rfl, ?hy220⟩) hHeld ?rest220
        case hy220 => (intro w' hSw; obtain ⟨s8, sc⟩ := hSw; obtain ⟨s0, s1, s2, s3, s4, s5, s6⟩ := op7 s8; go_simp; try with_reducible rfl)
        try simp [Act.put]
        refine wpAnyH_take (i := 11) (v := ?v221) rfl (by kernel_rfl) (by kernel_rfl) (by kernel_rfl) (fun _ _ _ h => h) (Or.inl ⟨by rfl, ?hy221⟩) hHeld ?rest221
        case hy221 => (intro w' hSw; obtain ⟨s8, sc⟩ := hSw; obtain ⟨s0, s1, s2, s3, s4, s5, s6⟩ := op7 s8; go_simp; try with_reducible rfl)
        try simp [Act.put]
        refine wpAnyH_take (i := 12) (v := ?v222) rfl (by kernel_rfl) (by kernel_rfl) (by kernel_rfl) (fun _ _ _ h => h) (Or.inl ⟨by rfl, ?hy222⟩) hHeld ?rest222
        case hy222 => (intro w' hSw; obtain ⟨s8, sc⟩ := hSw; obtain ⟨s0, s1, s2, s3, s4, s5, s6⟩ := op7 s8; go_simp; try with_reducible rfl)
        try simp [Act.put]
        refine wpAnyH_take (i := 13) (v := ?v223) rfl (by kernel_rfl) (by kernel_rfl) (by kernel_rfl) (fun _ _ _ h => h) (Or.inl ⟨by rfl, ?hy223⟩) hHeld ?rest223
        case hy223 => (intro w' hSw; obtain ⟨s8, sc⟩ := hSw; obtain ⟨s0, s1, s2, s3, s4, s5, s6⟩ := op7 s8; go_simp; try with_reducible rfl)
        try simp [Act.put]
        refine wpAnyH_take (i := 14) (v := ?v224) rfl (by kernel_rfl) (by kernel_rfl) (by kernel_rfl) (fun _ _ _ h => h) (Or.inl ⟨by rfl, ?hy224⟩) hHeld ?rest224
        case hy224 => (intro w' hSw; obtain ⟨s8, sc⟩ := hSw; obtain ⟨s0, s1, s2, s3, s4, s5, s6⟩ := op7 s8; go_simp; try with_reducible rfl)
        try simp [Act.put]
        refine wpAnyH_take (i := 15) (v := ?v225) rfl (by kernel_rfl) (by kernel_rfl) (by kernel_rfl) (fun _ _ _ h => h) (Or.inl ⟨by rfl, ?hy225⟩) hHeld ?rest225
        case hy225 => (intro w' hSw; obtain ⟨s8, sc⟩ := hSw; obtain ⟨s0, s1, s2, s3, s4, s5, s6⟩ := op7 s8; go_simp; try with_reducible rfl)
        try simp [Act.put]
        refine wpAnyH_take (i := 16) (v := ?v226) rfl (by kernel_rfl) (by kernel_rfl) (by kernel_rfl) (fun _ _ _ h => h) (Or.inl ⟨by rfl, ?hy226⟩) hHeld ?rest226
        case hy226 => (intro w' hSw; obtain ⟨s8, sc⟩ := hSw; obtain ⟨s0, s1, s2, s3, s4, s5, s6⟩ := op7 s8; go_simp; try with_reducible rfl)
        try simp [Act.put]
        refine wpAnyH_take (i := 17) (v := ?v227) rfl (by kernel_rfl) (by kernel_rfl) (by kernel_rfl) (fun _ _ _ h => h) (Or.inl ⟨by rfl, ?hy227⟩) hHeld ?rest227
        case hy227 => (intro w' hSw; obtain ⟨s8, sc⟩ := hSw; obtain ⟨s0, s1, s2, s3, s4, s5, s6⟩ := op7 s8; go_simp; try with_reducible rfl)
        try simp [Act.put]
        refine wpAnyH_take (i := 19) (v := ?v228) rfl (by kernel_rfl) (by kernel_rfl) (by kernel_rfl) (fun _ _ _ h => h) (Or.inl ⟨by rfl, ?hy228⟩) hHeld ?rest228
        case hy228 => (intro w' hSw; obtain ⟨s8, sc⟩ := hSw; obtain ⟨s0, s1, s2, s3, s4, s5, s6⟩ := op7 s8; go_simp; try with_reducible rfl)
        try simp [Act.put]
        refine wpAnyH_take (i := 20) (v := ?v229) rfl (by kernel_rfl) (by kernel_rfl) (by kernel_rfl) (fun _ _ _ h => h) (Or.inl ⟨by rfl, ?hy229⟩) hHeld ?rest229
        case hy229 => (intro w' hSw; obtain ⟨s8, sc⟩ := hSw; obtain ⟨s0, s1, s2, s3, s4, s5, s6⟩ := op7 s8; go_simp; try with_reducible rfl)
        try simp [Act.put]
        refine wpAnyH_take (i := 21) (v := ?v230) rfl (by kernel_rfl) (by kernel_rfl) (by kernel_rfl) (fun _ _ _ h => h) (Or.inl ⟨by rfl, ?hy230⟩) hHeld ?rest230
        case hy230 => (intro w' hSw; obtain ⟨s8, sc⟩ := hSw; obtain ⟨s0, s1, s2, s3, s4, s5, s6⟩ := op7 s8; go_simp; try with_reducible rfl)
        try simp [Act.put]
        refine wpAnyH_take (i := 22) (v := ?v231) rfl (by kernel_rfl) (by kernel_rfl) (by kernel_rfl) (fun _ _ _ h => h) (Or.inl ⟨by rfl, ?hy231⟩) hHeld ?rest231
        case hy231 => (intro w' hSw; obtain ⟨s8, sc⟩ := hSw; obtain ⟨s0, s1, s2, s3, s4, s5, s6⟩ := op7 s8; go_simp; try with_reducible rfl)
        try simp [Act.put]
        refine wpAnyH_take (i := 23) (v := ?v232) rfl (by kernel_rfl) (by kernel_rfl) (by kernel_rfl) (fun _ _ _ h => h) (Or.inl ⟨by rfl, ?hy232⟩) hHeld ?rest232
        case hy232 => (intro w' hSw; obtain ⟨s8, sc⟩ := hSw; obtain ⟨s0, s1, s2, s3, s4, s5, s6⟩ := op7 s8; go_simp; try with_reducible rfl)
        try simp [Act.put]
        refine wpAnyH_ready (rs := [18]) (by kernel_rfl) (by simp) ?_
        refine AllReadyH.cons rfl (fun K hK => ?_) AllReadyH.nil
        go_simp
        refine (j_count HJB.out pi pg HG2.out).mono ?_
        rintro e w' ⟨rfl, rfl⟩
        rw [HCQ.out]
        refine hK.out _ _ HKB.out (fun hHeld => ?_)
        clear hK K
        try simp [Act.put]
        refine wpAnyH_ready (rs := [24]) (by kernel_rfl) (by simp) ?_
        refine AllReadyH.cons rfl (fun K hK => ?_) AllReadyH.nil
        go_simp
        refine (jk_count HJB.out pi pg (by have := HQL.out; omega)).mono ?_
        rintro e w' ⟨rfl, rfl⟩
        rw [HCQ.out]
        refine hK.out _ _ HKB.out (fun hHeld => ?_)
        clear hK K
        try simp [Act.put]
        refine wpAnyH_take (i := 25) (v := ?v233) rfl (by kernel_rfl) (by kernel_rfl) (by kernel_rfl) (fun _ _ _ h => h) (Or.inl ⟨by rfl, ?hy233⟩) hHeld ?rest233
        case hy233 => (intro w' hSw; obtain ⟨s8, sc⟩ := hSw; obtain ⟨s0, s1, s2, s3, s4, s5, s6⟩ := op7 s8; go_simp; try with_reducible rfl)
        try simp [Act.put]
        refine wpAnyH_take (i := 26) (v := ?v234) rfl (by kernel_rfl) (by kernel_rfl) (by kernel_rfl) (fun _ _ _ h => h) (Or.inl ⟨by rfl, ?hy234⟩) hHeld ?rest234
        case hy234 => (intro w' hSw; obtain ⟨s8, sc⟩ := hSw; obtain ⟨s0, s1, s2, s3, s4, s5, s6⟩ := op7 s8; go_simp; try with_reducible rfl)
        try simp [Act.put]
        refine wpAnyH_take (i := 27) (v := ?v235) rfl (by kernel_rfl) (by kernel_rfl) (by kernel_rfl) (fun _ _ _ h => h) (Or.inl ⟨by rfl, ?hy235⟩) hHeld ?rest235
        case hy235 => (intro w' hSw; obtain ⟨s8, sc⟩ := hSw; obtain ⟨s0, s1, s2, s3, s4, s5, s6⟩ := op7 s8; go_simp; try with_reducible rfl)
        try simp [Act.put]
        refine wpAnyH_take (i := 28) (v := ?v236) rfl (by kernel_rfl) (by kernel_rfl) (by kernel_rfl) (fun _ _ _ h => h) (Or.inl ⟨by rfl, ?hy236⟩) hHeld ?rest236
        case hy236 => (intro w' hSw; obtain ⟨s8, sc⟩ := hSw; obtain ⟨s0, s1, s2, s3, s4, s5, s6⟩ := op7 s8; go_simp; try with_reducible rfl)
        try simp [Act.put]
        refine wpAnyH_take (i := 29) (v := ?v237) rfl (by kernel_rfl) (by kernel_rfl) (by kernel_rfl) (fun _ _ _ h => h) (Or.inl ⟨by rfl, ?hy237⟩) hHeld ?rest237
        case hy237 => (intro w' hSw; obtain ⟨s8, sc⟩ := hSw; obtain ⟨s0, s1, s2, s3, s4, s5, s6⟩ := op7 s8; go_simp; try with_reducible rfl)
        try simp [Act.put]
        refine wpAnyH_take (i := 30) (v := ?v238) rfl (by kernel_rfl) (by kernel_rfl) (by kernel_rfl) (fun _ _ _ h => h) (Or.inl ⟨by rfl, ?hy238⟩) hHeld ?rest238
        case hy238 => (intro w' hSw; obtain ⟨s8, sc⟩ := hSw; obtain ⟨s0, s1, s2, s3, s4, s5, s6⟩ := op7 s8; go_simp; try with_reducible rfl)
        try simp [Act.put]
        refine wpAnyH_take (i := 31) (v := ?v239) rfl (by kernel_rfl) (by kernel_rfl) (by kernel_rfl) (fun _ _ _ h => h) (Or.inl ⟨by rfl, ?hy239⟩) hHeld ?rest239
        case hy239 => (intro w' hSw; obtain ⟨s8, sc⟩ := hSw; obtain ⟨s0, s1, s2, s3, s4, s5, s6⟩ := op7 s8; go_simp; try with_reducible rfl)
        try simp [Act.put]
        refine wpAnyH_take (i := 32) (v := ?v240) rfl (by kernel_rfl) (by kernel_rfl) (by kernel_rfl) (fun _ _ _ h => h) (Or.inl ⟨by rfl, ?hy240⟩) hHeld ?rest240
        case hy240 => (intro w' hSw; obtain ⟨s8, sc⟩ := hSw; obtain ⟨s0, s1, s2, s3, s4, s5, s6⟩ := op7 s8; go_simp; try with_reducible rfl)
        try simp [Act.put]
        refine wpAnyH_take (i := 33) (v := ?v241) rfl (by kernel_rfl) (by kernel_rfl) (by kernel_rfl) (fun _ _ _ h => h) (Or.inl ⟨by rfl, ?hy241⟩) hHeld ?rest241
        case hy241 => (intro w' hSw; obtain ⟨s8, sc⟩ := hSw; obtain ⟨s0, s1, s2, s3, s4, s5, s6⟩ := op7 s8; go_simp; try with_reducible rfl)
        try simp [Act.put]
        refine wpAnyH_take (i := 34) (v := ?v242) rfl (by kernel_rfl) (by kernel_rfl) (by kernel_rfl) (fun _ _ _ h => h) (Or.inl ⟨by rfl, ?hy242⟩) hHeld ?rest242
        case hy242 => (intro w' hSw; obtain ⟨s8, sc⟩ := hSw; obtain ⟨s0, s1, s2, s3, s4, s5, s6⟩ := op7 s8; go_simp; try with_reducible rfl)
        try simp [Act.put]
        refine wpAnyH_take (i := 36) (v := ?v243) rfl (by kernel_rfl) (by kernel_rfl) (by kernel_rfl) (fun _ _ _ h => h) (Or.inl ⟨by rfl, ?hy243⟩) hHeld ?rest243
        case hy243 => (intro w' hSw; obtain ⟨s8, sc⟩ := hSw; obtain ⟨s0, s1, s2, s3, s4, s5, s6⟩ := op7 s8; go_simp; try with_reducible rfl)
        try simp [Act.put]
        refine wpAnyH_take (i := 37) (v := ?v244) rfl (by kernel_rfl) (by kernel_rfl) (by kernel_rfl) (fun _ _ _ h => h) (Or.inl ⟨by rfl, ?hy244⟩) hHeld ?rest244
        case hy244 => (intro w' hSw; obtain ⟨s8, sc⟩ := hSw; obtain ⟨s0, s1, s2, s3, s4, s5, s6⟩ := op7 s8; go_simp; try with_reducible rfl)
        try simp [Act.put]
        refine wpAnyH_take (i := 38) (v := ?v245) rfl (by kernel_rfl) (by kernel_rfl) (by kernel_rfl) (fun _ _ _ h => h) (Or.inl ⟨by rfl, ?hy245⟩) hHeld ?rest245
        case hy245 => (intro w' hSw; obtain ⟨s8, sc⟩ := hSw; obtain ⟨s0, s1, s2, s3, s4, s5, s6⟩ := op7 s8; go_simp; try with_reducible rfl)
        try simp [Act.put]
        refine wpAnyH_take (i := 39) (v := ?v246) rfl (by kernel_rfl) (by kernel_rfl) (by kernel_rfl) (fun _ _ _ h => h) (Or.inl ⟨by rfl, ?hy246⟩) hHeld ?rest246
        case hy246 => (intro w' hSw; obtain ⟨s8, sc⟩ := hSw; obtain ⟨s0, s1, s2, s3, s4, s5, s6⟩ := op7 s8; go_simp; try with_reducible rfl)
        try simp [Act.put]
        refine wpAnyH_take (i := 40) (v := ?v247) rfl (by kernel_rfl) (by kernel_rfl) (by kernel_rfl) (fun _ _ _ h => h) (Or.inl ⟨by rfl, ?hy247⟩) hHeld ?rest247
        case hy247 => (intro w' hSw; obtain ⟨s8, sc⟩ := hSw; obtain ⟨s0, s1, s2, s3, s4, s5, s6⟩ := op7 s8; go_simp; try with_reducible rfl)
        try simp [Act.put]
        refine wpAnyH_take (i := 41) (v := ?v248) rfl (by kernel_rfl) (by kernel_rfl) (by kernel_rfl) (fun _ _ _ h => h) (Or.inl ⟨by rfl, ?hy248⟩) hHeld ?rest248
        case hy248 => (intro w' hSw; obtain ⟨s8, sc⟩ := hSw; obtain ⟨s0, s1, s2, s3, s4, s5, s6⟩ := op7 s8; go_simp; try with_reducible rfl)
        try simp [Act.put]
        refine wpAnyH_take (i := 42) (v := ?v249) rfl (by kernel_rfl) (by kernel_rfl) (by kernel_rfl) (fun _ _ _ h => h) (Or.inl ⟨by rfl, ?hy249⟩) hHeld ?rest249
        case hy249 => (intro w' hSw; obtain ⟨s8, sc⟩ := hSw; obtain ⟨s0, s1, s2, s3, s4, s5, s6⟩ := op7 s8; go_simp; try with_reducible rfl)
        try simp [Act.put]
        refine wpAnyH_ready (rs := [35]) (by kernel_rfl) (by simp) ?_
        refine AllReadyH.cons rfl (fun K hK => ?_) AllReadyH.nil
        go_simp
        refine (j_count HJB.out x.id x.gen HG3.out).mono ?_
        rintro e w' ⟨rfl, rfl⟩
        rw [HCX.out]
        refine hK.out _ _ HKB.out (fun hHeld => ?_)
        clear hK K
        try simp [Act.put]
        refine wpAnyH_ready (rs := [43]) (by kernel_rfl) (by simp) ?_
        refine AllReadyH.cons rfl (fun K hK => ?_) AllReadyH.nil
        go_simp
        refine (jk_count HJB.out x.id x.gen (by have := HQL.out; omega)).mono ?_
        rintro e w' ⟨rfl, rfl⟩
        rw [HCX.out]
        refine hK.out _ _ HKB.out (fun hHeld => ?_)
        clear hK K
        try simp [Act.put]
        refine wpAnyH_take (i := 44) (v := ?v250) rfl (by kernel_rfl) (by kernel_rfl) (by kernel_rfl) (fun _ _ _ h => h) (Or.inl ⟨by rfl, ?hy250⟩) hHeld ?rest250
        case hy250 => (intro w' hSw; obtain ⟨s8, sc⟩ := hSw; obtain ⟨s0, s1, s2, s3, s4, s5, s6⟩ := op7 s8; go_simp; try with_reducible rfl)
        try simp [Act.put]
        refine wpAnyH_take (i := 45) (v := ?v251) rfl (by kernel_rfl) (by kernel_rfl) (by kernel_rfl) (fun _ _ _ h => h) (Or.inl ⟨by rfl, ?hy251⟩) hHeld ?rest251
        case hy251 => (intro w' hSw; obtain ⟨s8, sc⟩ := hSw; obtain ⟨s0, s1, s2, s3, s4, s5, s6⟩ := op7 s8; go_simp; try with_reducible rfl)
        try simp [Act.put]
        refine wpAnyH_done (by kernel_rfl) (NoPanic.normal ?_) _
        go_wp2_with fail
        exact ⟨⟨k + 1, by omega, by go_num, Q, reL L x, (HJB.out.free).mono (by omega), HQL.out, HLEN.out, HGD.out, HLS.out, HBB.out⟩, by simp [intOf]; omega⟩
      have hq2 : (pd == 2) = false := by simpa using q2
      clear q2
      go_wp2_with fail
      refine (j_reap HJA.out (by have := HLEN0.out; omega) (fun y hy => (HGD0.out y hy).1)).mono ?_
      rintro e w6 ⟨a6, c6, rfl, -, hj6, hb6, hk6⟩
      have HJ6 := hide hj6
      have HB6 := hide (HBA.out.trans hb6)
      have HK6 := hide ((hk6 _ rfl).trans (heap_alloc_new wr _))
      clear hj6 hb6 hk6
      go_wp2_with fail
      refine (jk_reap HJ6.out (by have := HLEN0.out; omega) (by have := HQL0.out; omega)).mono ?_
      rintro e w7 ⟨a7, c7, rfl, hv7, hj7, hb7, hk7⟩
      have HJ7 := hide hj7
      have HB7 := hide (HB6.out.trans hb7)
      have HK7 := hide ((hk7 _ rfl).trans HK6.out)
      have HV7 := hide hv7
      have HV6 := hide (hj7.at0 (a := a6) (m := (rpO (cnt Q) L).length) (c := c6) (N := rpO (cnt Q) L) (by simp))
      obtain ⟨on, hon⟩ : ∃ on, (rpO (cnt Q) L).length = on := ⟨_, rfl⟩
      have hon2 : on ≤ 41 := by have h1 := rp_len (cnt Q) L; have := HLEN0.out; omega
      have HON := hide hon
      rw [hon]
      clear hj7 hb7 hv7 hon hk7
      go_wp2_with fail
      refine (vosame_any w.heap.size a6 a7 c6 c7 on on (rpO (cnt Q) L) (rpO (cnt Q) L) w7 HON.out HON.out (by omega) (by omega) HV6.out HV7.out (fun y hy => by have := HLS0.out y (mem_rpO hy); omega) (fun y hy => by have := HLS0.out y (mem_rpO hy); omega)).mono ?_
      rintro e w8 ⟨rfl, hb8⟩
      have hdd : decide (rpO (cnt Q) L = rpO (cnt Q) L) = true := by simp
      rw [hdd]
      have HJ8 := hide (HJ7.out.drop.below hb8)
      have HB8 := hide (HB7.out.trans (hb8.mono HB7.out.size))
      have HK8 := hide ((hb8.block _ (lt_of_block HK7.out)).trans HK7.out)
      clear hb8 hdd
      go_upto_region 20 with fail
      have HQL : Hid (List.length (Q) ≤ k + 1) := by have := HQL0.out; show _ ≤ _; omega
      have HLEN : Hid (List.length (rpL (cnt Q) L) ≤ k + 1) := by have h1 := HLEN0.out; have h2 := rp_len (cnt Q) L; show _ ≤ _; omega
      have HGD : Hid (Good (rpL (cnt Q) L)) := HGD0.out.rp _
      have HLS : Hid (∀ y ∈ (rpL (cnt Q) L), y.ls.length ≤ 20) := fun y hy => HLS0.out y (mem_rpL hy)
      obtain ⟨am, cm, hcw, hvm, hkl⟩ := HJ8.out.cw
      obtain ⟨mn, hmn⟩ : ∃ mn, List.length (rpL (cnt Q) L) = mn := ⟨_, rfl⟩
      rw [hmn] at hcw
      have HMN := hide hmn
      obtain ⟨cq, hcq⟩ : ∃ cq, cnt (Q) (pi, pg) = cq := ⟨_, rfl⟩
      obtain ⟨cx, hcx⟩ : ∃ cx, cnt (Q) (x.id, x.gen) = cx := ⟨_, rfl⟩
      have HCQ := hide hcq
      have HCX := hide hcx
      have hle40 : mn ≤ 41 := by have := HLEN.out; have := HMN.out; omega
      have HKL := hide (show kb < w8.drew.heap.size from hkl)
      have HVM := hide (show VosAt w.heap.size w8.drew am (rpL (cnt Q) L) from hvm.below ((Below.refl _ _).drew))
      have HJ9 := hide (HJ8.out.below ((Below.refl _ w8).drew))
      have HB9 := hide (HB8.out.drew)
      have HK9 : Hid (w8.drew.heap[wr.heap.size]? = some (.cells #[.int .i64 pd, .int .i64 pi, .int .i64 pg, .int .i64 x.id, .int .i64 x.gen, .int .i64 x.len, .slice xa m xc] 35 (0, 0)) ∧ w8.drew.cell? ⟨kb, 1, none⟩ = some (.slice am mn cm)) := ⟨HK8.out, hcw⟩
      clear hcw hvm hkl hmn hcq hcx
      go_wp2_with fail
      refine wp_region_noPanic ?_
      refine wp_region_held_drew (S := fun w' => w'.heap[wr.heap.size]? = some (.cells #[.int .i64 pd, .int .i64 pi, .int .i64 pg, .int .i64 x.id, .int .i64 x.gen, .int .i64 x.len, .slice xa m xc] 35 (0, 0)) ∧ w'.cell? ⟨kb, 1, none⟩ = some (.slice am mn cm)) (by kernel_rfl) HK9.out (fun hHeld => ?_)
      obtain ⟨w9, hw9⟩ : ∃ w9, w9 = w8.drew := ⟨_, rfl⟩
      rw [← hw9] at HKL HVM HJ9 HB9 HK9 hHeld ⊢
      clear hw9
      refine wpAnyH_take (i := 0) (v := ?v252) rfl (by kernel_rfl) (by kernel_rfl) (by kernel_rfl) (fun _ _ _ h => h) (Or.inl ⟨by rfl, ?hy252⟩) hHeld ?rest252
      case hy252 => (intro w' hSw; obtain ⟨s8, sc⟩ := hSw; obtain ⟨s0, s1, s2, s3, s4, s5, s6⟩ := op7 s8; go_simp; try with_reducible rfl)
      try simp [Act.put]
      refine wpAnyH_take (i := 1) (v := ?v253) rfl (by kernel_rfl) (by kernel_rfl) (by kernel_rfl) (fun _ _ _ h => h) (Or.inl ⟨by rfl, ?hy253⟩) hHeld ?rest253
      case hy253 => (intro w' hSw; obtain ⟨s8, sc⟩ := hSw; obtain ⟨s0, s1, s2, s3, s4, s5, s6⟩ := op7 s8; go_simp; try with_reducible rfl)
      try simp [Act.put]
      refine wpAnyH_take (i := 2) (v := ?v254) rfl (by kernel_rfl) (by kernel_rfl) (by kernel_rfl) (fun _ _ _ h => h) (Or.inl ⟨by rfl, ?hy254⟩) hHeld ?rest254
      case hy254 => (intro w' hSw; obtain ⟨s8, sc⟩ := hSw; obtain ⟨s0, s1, s2, s3, s4, s5, s6⟩ := op7 s8; go_simp; try with_reducible rfl)
      try simp [Act.put]
      refine wpAnyH_take (i := 3) (v := ?v255) rfl (by kernel_rfl) (by kernel_rfl) (by kernel_rfl) (fun _ _ _ h => h) (Or.inl ⟨by rfl, ?hy255⟩) hHeld ?rest255
      case hy255 => (intro w' hSw; obtain ⟨s8, sc⟩ := hSw; obtain ⟨s0, s1, s2, s3, s4, s5, s6⟩ := op7 s8; go_simp; try with_reducible rfl)
      try simp [Act.put]
      refine wpAnyH_take (i := 5) (v := ?v256) rfl (by kernel_rfl) (by kernel_rfl) (by kernel_rfl) (fun _ _ _ h => h) (Or.inl ⟨by rfl, ?hy256⟩) hHeld ?rest256
      case hy256 => (intro w' hSw; obtain ⟨s8, sc⟩ := hSw; obtain ⟨s0, s1, s2, s3, s4, s5, s6⟩ := op7 s8; go_simp; try with_reducible rfl)
      try simp [Act.put]
      refine wpAnyH_take (i := 6) (v := ?v257) rfl (by kernel_rfl) (by kernel_rfl) (by kernel_rfl) (fun _ _ _ h => h) (Or.inl ⟨by rfl, ?hy257⟩) hHeld ?rest257
      case hy257 => (intro w' hSw; obtain ⟨s8, sc⟩ := hSw; obtain ⟨s0, s1, s2, s3, s4, s5, s6⟩ := op7 s8; go_simp; try with_reducible rfl)
      try simp [Act.put]
      refine wpAnyH_take (i := 7) (v := ?v258) rfl (by kernel_rfl) (by kernel_rfl) (by kernel_rfl) (fun _ _ _ h => h) (Or.inl ⟨by rfl, ?hy258⟩) hHeld ?rest258
      case hy258 => (intro w' hSw; obtain ⟨s8, sc⟩ := hSw; obtain ⟨s0, s1, s2, s3, s4, s5, s6⟩ := op7 s8; go_simp; try with_reducible rfl)
      try simp [Act.put]
      refine wpAnyH_take (i := 8) (v := ?v259) rfl (by kernel_rfl) (by kernel_rfl) (by kernel_rfl) (fun _ _ _ h => h) (Or.inl ⟨by rfl, ?hy259⟩) hHeld ?rest259
      case hy259 => (intro w' hSw; obtain ⟨s8, sc⟩ := hSw; obtain ⟨s0, s1, s2, s3, s4, s5, s6⟩ := op7 s8; go_simp; try with_reducible rfl)
      try simp [Act.put]
      refine wpAnyH_ready (rs := [4]) (by kernel_rfl) (by simp) ?_
      refine AllReadyH.cons rfl (fun K hK => ?_) AllReadyH.nil
      go_simp
      refine (j_waits HJ9.out (fun y hy => (HGD.out y hy).2) (by have := HMN.out; omega)).mono ?_
      rintro e wa ⟨aw, cw, rfl, hvw, hba⟩
      have HJA := hide (HJ9.out.below hba)
      have HBA := hide (HB9.out.trans (hba.mono HB9.out.size))
      have HVA := hide (HVM.out.below hba)
      have HVW := hide hvw
      have HKA := hide (And.intro ((hba.block _ (lt_of_block HK9.out.1)).trans HK9.out.1) ((hba.cell (p := ⟨kb, 1, none⟩) HKL.out).trans HK9.out.2))
      have HKLA := hide (Nat.lt_of_lt_of_le HKL.out hba.size)
      rw [HMN.out]
      clear hvw hba
      refine hK.out _ _ HKA.out (fun hHeld => ?_)
      clear hK K
      try simp [Act.put]
      refine wpAnyH_ready (rs := [9]) (by kernel_rfl) (by simp) ?_
      refine AllReadyH.cons rfl (fun K hK => ?_) AllReadyH.nil
      go_simp
      refine (vosame_any w.heap.size aw am cw cm mn mn (rpL (cnt Q) L) (rpL (cnt Q) L) wa HMN.out HMN.out (by omega) (by omega) HVW.out HVA.out (fun y hy => by have := HLS.out y hy; omega) (fun y hy => by have := HLS.out y hy; omega)).mono ?_
      rintro e wb ⟨rfl, hbb⟩
      have HJB := hide (HJA.out.below hbb)
      have HBB := hide (HBA.out.trans (hbb.mono HBA.out.size))
      have HKB := hide (And.intro ((hbb.block _ (lt_of_block HKA.out.1)).trans HKA.out.1) ((hbb.cell (p := ⟨kb, 1, none⟩) HKLA.out).trans HKA.out.2))
      have hdd : decide (((rpL (cnt Q) L) : List VD) = (rpL (cnt Q) L)) = true := by simp
      rw [hdd]
      clear hbb hdd
      refine hK.out _ _ HKB.out (fun hHeld => ?_)
      clear hK K
      try simp [Act.put]
      refine wpAnyH_take (i := 10) (v := ?v260) rfl (by kernel_rfl) (by kernel_rfl) (by kernel_rfl) (fun _ _ _ h => h) (Or.inl ⟨by rfl, ?hy260⟩) hHeld ?rest260
      case hy260 => (intro w' hSw; obtain ⟨s8, sc⟩ := hSw; obtain ⟨s0, s1, s2, s3, s4, s5, s6⟩ := op7 s8; go_simp; try with_reducible rfl)
      try simp [Act.put]
      refine wpAnyH_take (i := 11) (v := ?v261) rfl (by kernel_rfl) (by kernel_rfl) (by kernel_rfl) (fun _ _ _ h => h) (Or.inl ⟨by rfl, ?hy261⟩) hHeld ?rest261
      case hy261 => (intro w' hSw; obtain ⟨s8, sc⟩ := hSw; obtain ⟨s0, s1, s2, s3, s4, s5, s6⟩ := op7 s8; go_simp; try with_reducible rfl)
      try simp [Act.put]
      refine wpAnyH_take (i := 12) (v := ?v262) rfl (by kernel_rfl) (by kernel_rfl) (by kernel_rfl) (fun _ _ _ h => h) (Or.inl ⟨by rfl, ?hy262⟩) hHeld ?rest262
      case hy262 => (intro w' hSw; obtain ⟨s8, sc⟩ := hSw; obtain ⟨s0, s1, s2, s3, s4, s5, s6⟩ := op7 s8; go_simp; try with_reducible rfl)
      try simp [Act.put]
      refine wpAnyH_take (i := 13) (v := ?v263) rfl (by kernel_rfl) (by kernel_rfl) (by kernel_rfl) (fun _ _ _ h => h) (Or.inl ⟨by rfl, ?hy263⟩) hHeld ?rest263
      case hy263 => (intro w' hSw; obtain ⟨s8, sc⟩ := hSw; obtain ⟨s0, s1, s2, s3, s4, s5, s6⟩ := op7 s8; go_simp; try with_reducible rfl)
      try simp [Act.put]
      refine wpAnyH_take (i := 14) (v := ?v264) rfl (by kernel_rfl) (by kernel_rfl) (by kernel_rfl) (fun _ _ _ h => h) (Or.inl ⟨by rfl, ?hy264⟩) hHeld ?rest264
      case hy264 => (intro w' hSw; obtain ⟨s8, sc⟩ := hSw; obtain ⟨s0, s1, s2, s3, s4, s5, s6⟩ := op7 s8; go_simp; try with_reducible rfl)
      try simp [Act.put]
      refine wpAnyH_take (i := 15) (v := ?v265) rfl (by kernel_rfl) (by kernel_rfl) (by kernel_rfl) (fun _ _ _ h => h) (Or.inl ⟨by rfl, ?hy265⟩) hHeld ?rest265
      case hy265 => (intro w' hSw; obtain ⟨s8, sc⟩ := hSw; obtain ⟨s0, s1, s2, s3, s4, s5, s6⟩ := op7 s8; go_simp; try with_reducible rfl)
      try simp [Act.put]
      refine wpAnyH_take (i := 16) (v := ?v266) rfl (by kernel_rfl) (by kernel_rfl) (by kernel_rfl) (fun _ _ _ h => h) (Or.inl ⟨by rfl, ?hy266⟩) hHeld ?rest266
      case hy266 => (intro w' hSw; obtain ⟨s8, sc⟩ := hSw; obtain ⟨s0, s1, s2, s3, s4, s5, s6⟩ := op7 s8; go_simp; try with_reducible rfl)
      try simp [Act.put]
      refine wpAnyH_take (i := 17) (v := ?v267) rfl (by kernel_rfl) (by kernel_rfl) (by kernel_rfl) (fun _ _ _ h => h) (Or.inl ⟨by rfl, ?hy267⟩) hHeld ?rest267
      case hy267 => (intro w' hSw; obtain ⟨s8, sc⟩ := hSw; obtain ⟨s0, s1, s2, s3, s4, s5, s6⟩ := op7 s8; go_simp; try with_reducible rfl)
      try simp [Act.put]
      refine wpAnyH_take (i := 19) (v := ?v268) rfl (by kernel_rfl) (by kernel_rfl) (by kernel_rfl) (fun _ _ _ h => h) (Or.inl ⟨by rfl, ?hy268⟩) hHeld ?rest268
      case hy268 => (intro w' hSw; obtain ⟨s8, sc⟩ := hSw; obtain ⟨s0, s1, s2, s3, s4, s5, s6⟩ := op7 s8; go_simp; try with_reducible rfl)
      try simp [Act.put]
      refine wpAnyH_take (i := 20) (v := ?v269) rfl (by kernel_rfl) (by kernel_rfl) (by kernel_rfl) (fun _ _ _ h => h) (Or.inl ⟨by rfl, ?hy269⟩) hHeld ?rest269
      case hy269 => (intro w' hSw; obtain ⟨s8, sc⟩ := hSw; obtain ⟨s0, s1, s2, s3, s4, s5, s6⟩ := op7 s8; go_simp; try with_reducible rfl)
      try simp [Act.put]
      refine wpAnyH_take (i := 21) (v := ?v270) rfl (by kernel_rfl) (by kernel_rfl) (by kernel_rfl) (fun _ _ _ h => h) (Or.inl ⟨by rfl, ?hy270⟩) hHeld ?rest270
      case hy270 => (intro w' hSw; obtain ⟨s8, sc⟩ := hSw; obtain ⟨s0, s1, s2, s3, s4, s5, s6⟩ := op7 s8; go_simp; try with_reducible rfl)
      try simp [Act.put]
      refine wpAnyH_take (i := 22) (v := ?v271) rfl (by kernel_rfl) (by kernel_rfl) (by kernel_rfl) (fun _ _ _ h => h) (Or.inl ⟨by rfl, ?hy271⟩) hHeld ?rest271
      case hy271 => (intro w' hSw; obtain ⟨s8, sc⟩ := hSw; obtain ⟨s0, s1, s2, s3, s4, s5, s6⟩ := op7 s8; go_simp; try with_reducible rfl)
      try simp [Act.put]
      refine wpAnyH_take (i := 23) (v := ?v272) rfl (by kernel_rfl) (by kernel_rfl) (by kernel_rfl) (fun _ _ _ h => h) (Or.inl ⟨by rfl, ?hy272⟩) hHeld ?rest272
      case hy272 => (intro w' hSw; obtain ⟨s8, sc⟩ := hSw; obtain ⟨s0, s1, s2, s3, s4, s5, s6⟩ := op7 s8; go_simp; try with_reducible rfl)
      try simp [Act.put]
      refine wpAnyH_ready (rs := [18]) (by kernel_rfl) (by simp) ?_
      refine AllReadyH.cons rfl (fun K hK => ?_) AllReadyH.nil
      go_simp
      refine (j_count HJB.out pi pg HG2.out).mono ?_
      rintro e w' ⟨rfl, rfl⟩
      rw [HCQ.out]
      refine hK.out _ _ HKB.out (fun hHeld => ?_)
      clear hK K
      try simp [Act.put]
      refine wpAnyH_ready (rs := [24]) (by kernel_rfl) (by simp) ?_
      refine AllReadyH.cons rfl (fun K hK => ?_) AllReadyH.nil
      go_simp
      refine (jk_count HJB.out pi pg (by have := HQL.out; omega)).mono ?_
      rintro e w' ⟨rfl, rfl⟩
      rw [HCQ.out]
      refine hK.out _ _ HKB.out (fun hHeld => ?_)
      clear hK K
      try simp [Act.put]
      refine wpAnyH_take (i := 25) (v := ?v273) rfl (by kernel_rfl) (by kernel_rfl) (by kernel_rfl) (fun _ _ _ h => h) (Or.inl ⟨by rfl, ?hy273⟩) hHeld ?rest273
      case hy273 => (intro w' hSw; obtain ⟨s8, sc⟩ := hSw; obtain ⟨s0, s1, s2, s3, s4, s5, s6⟩ := op7 s8; go_simp; try with_reducible rfl)
      try simp [Act.put]
      refine wpAnyH_take (i := 26) (v := ?v274) rfl (by kernel_rfl) (by kernel_rfl) (by kernel_rfl) (fun _ _ _ h => h) (Or.inl ⟨by rfl, ?hy274⟩) hHeld ?rest274
      case hy274 => (intro w' hSw; obtain ⟨s8, sc⟩ := hSw; obtain ⟨s0, s1, s2, s3, s4, s5, s6⟩ := op7 s8; go_simp; try with_reducible rfl)
      try simp [Act.put]
      refine wpAnyH_take (i := 27) (v := ?v275) rfl (by kernel_rfl) (by kernel_rfl) (by kernel_rfl) (fun _ _ _ h => h) (Or.inl ⟨by rfl, ?hy275⟩) hHeld ?rest275
      case hy275 => (intro w' hSw; obtain ⟨s8, sc⟩ := hSw; obtain ⟨s0, s1, s2, s3, s4, s5, s6⟩ := op7 s8; go_simp; try with_reducible rfl)
      try simp [Act.put]
      refine wpAnyH_take (i := 28) (v := ?v276) rfl (by kernel_rfl) (by kernel_rfl) (by kernel_rfl) (fun _ _ _ h => h) (Or.inl ⟨by rfl, ?hy276⟩) hHeld ?rest276
      case hy276 => (intro w' hSw; obtain ⟨s8, sc⟩ := hSw; obtain ⟨s0, s1, s2, s3, s4, s5, s6⟩ := op7 s8; go_simp; try with_reducible rfl)
      try simp [Act.put]
      refine wpAnyH_take (i := 29) (v := ?v277) rfl (by kernel_rfl) (by kernel_rfl) (by kernel_rfl) (fun _ _ _ h => h) (Or.inl ⟨by rfl, ?hy277⟩) hHeld ?rest277
      case hy277 => (intro w' hSw; obtain ⟨s8, sc⟩ := hSw; obtain ⟨s0, s1, s2, s3, s4, s5, s6⟩ := op7 s8; go_simp; try with_reducible rfl)
      try simp [Act.put]
      refine wpAnyH_take (i := 30) (v := ?v278) rfl (by kernel_rfl) (by kernel_rfl) (by kernel_rfl) (fun _ _ _ h => h) (Or.inl ⟨by rfl, ?hy278⟩) hHeld ?rest278
      case hy278 => (intro w' hSw; obtain ⟨s8, sc⟩ := hSw; obtain ⟨s0, s1, s2, s3, s4, s5, s6⟩ := op7 s8; go_simp; try with_reducible rfl)
      try simp [Act.put]
      refine wpAnyH_take (i := 31) (v := ?v279) rfl (by kernel_rfl) (by kernel_rfl) (by kernel_rfl) (fun _ _ _ h => h) (Or.inl ⟨by rfl, ?hy279⟩) hHeld ?rest279
      case hy279 => (intro w' hSw; obtain ⟨s8, sc⟩ := hSw; obtain ⟨s0, s1, s2, s3, s4, s5, s6⟩ := op7 s8; go_simp; try with_reducible rfl)
      try simp [Act.put]
      refine wpAnyH_take (i := 32) (v := ?v280) rfl (by kernel_rfl) (by kernel_rfl) (by kernel_rfl) (fun _ _ _ h => h) (Or.inl ⟨by rfl, ?hy280⟩) hHeld ?rest280
      case hy280 => (intro w' hSw; obtain ⟨s8, sc⟩ := hSw; obtain ⟨s0, s1, s2, s3, s4, s5, s6⟩ := op7 s8; go_simp; try with_reducible rfl)
      try simp [Act.put]
      refine wpAnyH_take (i := 33) (v := ?v281) rfl (by kernel_rfl) (by kernel_rfl) (by kernel_rfl) (fun _ _ _ h => h) (Or.inl ⟨by rfl, ?hy281⟩) hHeld ?rest281
      case hy281 => (intro w' hSw; obtain ⟨s8, sc⟩ := hSw; obtain ⟨s0, s1, s2, s3, s4, s5, s6⟩ := op7 s8; go_simp; try with_reducible rfl)
      try simp [Act.put]
      refine wpAnyH_take (i := 34) (v := ?v282) rfl (by kernel_rfl) (by kernel_rfl) (by kernel_rfl) (fun _ _ _ h => h) (Or.inl ⟨by rfl, ?hy282⟩) hHeld ?rest282
      case hy282 => (intro w' hSw; obtain ⟨s8, sc⟩ := hSw; obtain ⟨s0, s1, s2, s3, s4, s5, s6⟩ := op7 s8; go_simp; try with_reducible rfl)
      try simp [Act.put]
      refine wpAnyH_take (i := 36) (v := ?v283) rfl (by kernel_rfl) (by kernel_rfl) (by kernel_rfl) (fun _ _ _ h => h) (Or.inl ⟨by rfl, ?hy283⟩) hHeld ?rest283
      case hy283 => (intro w' hSw; obtain ⟨s8, sc⟩ := hSw; obtain ⟨s0, s1, s2, s3, s4, s5, s6⟩ := op7 s8; go_simp; try with_reducible rfl)
      try simp [Act.put]
      refine wpAnyH_take (i := 37) (v := ?v284) rfl (by kernel_rfl) (by kernel_rfl) (by kernel_rfl) (fun _ _ _ h => h) (Or.inl ⟨by rfl, ?hy284⟩) hHeld ?rest284
      case hy284 => (intro w' hSw; obtain ⟨s8, sc⟩ := hSw; obtain ⟨s0, s1, s2, s3, s4, s5, s6⟩ := op7 s8; go_simp; try with_reducible rfl)
      try simp [Act.put]
      refine wpAnyH_take (i := 38) (v := ?v285) rfl (by kernel_rfl) (by kernel_rfl) (by kernel_rfl) (fun _ _ _ h => h) (Or.inl ⟨by rfl, ?hy285⟩) hHeld ?rest285
      case hy285 => (intro w' hSw; obtain ⟨s8, sc⟩ := hSw; obtain ⟨s0, s1, s2, s3, s4, s5, s6⟩ := op7 s8; go_simp; try with_reducible rfl)
      try simp [Act.put]
      refine wpAnyH_take (i := 39) (v := ?v286) rfl (by kernel_rfl) (by kernel_rfl) (by kernel_rfl) (fun _ _ _ h => h) (Or.inl ⟨by rfl, ?hy286⟩) hHeld ?rest286
      case hy286 => (intro w' hSw; obtain ⟨s8, sc⟩ := hSw; obtain ⟨s0, s1, s2, s3, s4, s5, s6⟩ := op7 s8; go_simp; try with_reducible rfl)
      try simp [Act.put]
      refine wpAnyH_take (i := 40) (v := ?v287) rfl (by kernel_rfl) (by kernel_rfl) (by kernel_rfl) (fun _ _ _ h => h) (Or.inl ⟨by rfl, ?hy287⟩) hHeld ?rest287
      case hy287 => (intro w' hSw; obtain ⟨s8, sc⟩ := hSw; obtain ⟨s0, s1, s2, s3, s4, s5, s6⟩ := op7 s8; go_simp; try with_reducible rfl)
      try simp [Act.put]
      refine wpAnyH_take (i := 41) (v := ?v288) rfl (by kernel_rfl) (by kernel_rfl) (by kernel_rfl) (fun _ _ _ h => h) (Or.inl ⟨by rfl, ?hy288⟩) hHeld ?rest288
      case hy288 => (intro w' hSw; obtain ⟨s8, sc⟩ := hSw; obtain ⟨s0, s1, s2, s3, s4, s5, s6⟩ := op7 s8; go_simp; try with_reducible rfl)
      try simp [Act.put]
      refine wpAnyH_take (i := 42) (v := ?v289) rfl (by kernel_rfl) (by kernel_rfl) (by kernel_rfl) (fun _ _ _ h => h) (Or.inl ⟨by rfl, ?hy289⟩) hHeld ?rest289
      case hy289 => (intro w' hSw; obtain ⟨s8, sc⟩ := hSw; obtain ⟨s0, s1, s2, s3, s4, s5, s6⟩ := op7 s8; go_simp; try with_reducible rfl)
      try simp [Act.put]
      refine wpAnyH_ready (rs := [35]) (by kernel_rfl) (by simp) ?_
      refine AllReadyH.cons rfl (fun K hK => ?_) AllReadyH.nil
      go_simp
      refine (j_count HJB.out x.id x.gen HG3.out).mono ?_
      rintro e w' ⟨rfl, rfl⟩
      rw [HCX.out]
      refine hK.out _ _ HKB.out (fun hHeld => ?_)
      clear hK K
      try simp [Act.put]
      refine wpAnyH_ready (rs := [43]) (by kernel_rfl) (by simp) ?_
      refine AllReadyH.cons rfl (fun K hK => ?_) AllReadyH.nil
      go_simp
      refine (jk_count HJB.out x.id x.gen (by have := HQL.out; omega)).mono ?_
      rintro e w' ⟨rfl, rfl⟩
      rw [HCX.out]
      refine hK.out _ _ HKB.out (fun hHeld => ?_)
      clear hK K
      try simp [Act.put]
      refine wpAnyH_take (i := 44) (v := ?v290) rfl (by kernel_rfl) (by kernel_rfl) (by kernel_rfl) (fun _ _ _ h => h) (Or.inl ⟨by rfl, ?hy290⟩) hHeld ?rest290
      case hy290 => (intro w' hSw; obtain ⟨s8, sc⟩ := hSw; obtain ⟨s0, s1, s2, s3, s4, s5, s6⟩ := op7 s8; go_simp; try with_reducible rfl)
      try simp [Act.put]
      refine wpAnyH_take (i := 45) (v := ?v291) rfl (by kernel_rfl) (by kernel_rfl) (by kernel_rfl) (fun _ _ _ h => h) (Or.inl ⟨by rfl, ?hy291⟩) hHeld ?rest291
      case hy291 => (intro w' hSw; obtain ⟨s8, sc⟩ := hSw; obtain ⟨s0, s1, s2, s3, s4, s5, s6⟩ := op7 s8; go_simp; try with_reducible rfl)
      try simp [Act.put]
      refine wpAnyH_done (by kernel_rfl) (NoPanic.normal ?_) _
      go_wp2_with fail
      exact ⟨⟨k + 1, by omega, by go_num, Q, rpL (cnt Q) L, (HJB.out.free).mono (by omega), HQL.out, HLEN.out, HGD.out, HLS.out, HBB.out⟩, by simp [intOf]; omega⟩
    · have hd : decide ((k : Int) < (n : Int)) = false := by simp; omega
      go_wp2_with fail
      refine (live_any _).mono ?_
      rintro e w5 ⟨rfl, hb5⟩
      have HB5 := hide (HB.out.trans (hb5.mono HB.out.size))
      clear hb5
      go_wp2_with fail
      try go_ret
      exact ⟨rfl, HB5.out⟩
theorem walkPinsScripts (a : Option Addr) (l c : Nat) (w : World) (h : CameSz 22 w a l c) : Calls Try.prog 3 #[.slice a l c] w fun e w' => e = .returned (.bool true) ∧ Below w.heap.size w w' := by
  obtain ⟨L, h1, h2, h3, h4, h5⟩ := came_ops h
  exact scripts_is a l c L w h1 h4 h5
end Go.Proofs.Ytghcekhlohgkaaa
