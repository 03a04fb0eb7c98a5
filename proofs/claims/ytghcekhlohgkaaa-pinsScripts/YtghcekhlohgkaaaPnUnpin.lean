/- What Unpin of the pins answers. (Written by genpn.py.) -/
import Derived.Test.YtghcekhlohgkaaaPnOps
namespace Go.Proofs.Ytghcekhlohgkaaa
open Go.RowKit
set_option linter.unusedVariables false
set_option maxRecDepth 100000 in
set_option maxHeartbeats 4000000 in
theorem unpin0 {B : Nat} {P : Pn} {R : Int × Int → Nat} {L : List VD} {w : World} (h : PnAt B w P R L) (i g : Int) (hk : OkP (i, g)) (hn : P.n ≤ 1000000) (hc : R (i, g) = 0) : Calls Try.prog 12 #[.pointer (some ⟨P.pb, 0, none⟩), .int .i64 i, .int .i64 g] w fun e w' => e = .returned (.int .i64 9) ∧ Mds B P.own w P.own w' ∧ PnAt B w' P R L := by
  have hne := h.ne.1
  have hzi := int_zero
  have hbw : Below w.heap.size w (w.alloc (.cells #[.int .i64 i, .int .i64 g] 50)) := (Below.refl _ _).alloc (Nat.le_refl _) _
  have hP1 := h.below hbw
  have hl : ∀ q, (Instr.lookup 46 (.map (some P.mb)) (.agg #[.int .i64 i, .int .i64 g]) false).run Try.prog ((w.alloc (.cells #[.int .i64 i, .int .i64 g] 50)).drewN q) = .ok (.int .i64 (R (i, g))) ((w.alloc (.cells #[.int .i64 i, .int .i64 g] 50)).drewN q) := fun q => by
    have := (hP1.below (drawn_below (Below.refl _ _) q)).map.look1 ke_pin Try.underlying46 (hzi _) hk
    rw [rdM_get] at this
    exact this
  have hz : (zeroValue 50).run Try.prog w = .ok (.agg #[.int .i64 0, .int .i64 0]) w := by kernel_rfl
  have c1 : (w.alloc (.cells #[.int .i64 i, .int .i64 g] 50)).cell? ⟨P.pb, 0, none⟩ = some (.map (some P.mb)) := cell_of_block hP1.box
  have hBw : B ≤ w.heap.size := by have := h.lpb; have := h.lt (.inl rfl); omega
  have HB1 := hide (Mds.of_below (B := B) P.own hbw hBw)
  have HP1 := hide hP1
  rw [hc] at hl
  clear h hk hne hbw hP1 hBw
  go_enter Try.func12, Try.ntmps12
  go_wp2_with fail
  go_quiet (fail)
  go_wp2_with fail
  try go_ret
  exact ⟨rfl, HB1.out.trans (Mds.of_below _ (drawn_below (Below.refl _ _) _) (by rw [World.size_alloc]; have := HP1.out.low (.inl rfl); have := HP1.out.lt (.inl rfl); rw [World.size_alloc] at this; omega)), HP1.out.below (drawn_below (Below.refl _ _) _)⟩
set_option maxRecDepth 100000 in
set_option maxHeartbeats 4000000 in
theorem unpin1 {B : Nat} {P : Pn} {R : Int × Int → Nat} {L : List VD} {w : World} (h : PnAt B w P R L) (i g : Int) (hk : OkP (i, g)) (hn : P.n ≤ 1000000) (hc : R (i, g) = 1) : Calls Try.prog 12 #[.pointer (some ⟨P.pb, 0, none⟩), .int .i64 i, .int .i64 g] w fun e w' => e = .returned (.int .i64 0) ∧ ∃ P', P'.pb = P.pb ∧ P'.n = P.n ∧ PnAt B w' P' (dec R (i, g)) L ∧ Mds B P.own w P'.own w' := by
  have hne := h.ne.1
  have hzi := int_zero
  have hbw : Below w.heap.size w (w.alloc (.cells #[.int .i64 i, .int .i64 g] 50)) := (Below.refl _ _).alloc (Nat.le_refl _) _
  have hP1 := h.below hbw
  have hl : ∀ q, (Instr.lookup 46 (.map (some P.mb)) (.agg #[.int .i64 i, .int .i64 g]) false).run Try.prog ((w.alloc (.cells #[.int .i64 i, .int .i64 g] 50)).drewN q) = .ok (.int .i64 (R (i, g))) ((w.alloc (.cells #[.int .i64 i, .int .i64 g] 50)).drewN q) := fun q => by
    have := (hP1.below (drawn_below (Below.refl _ _) q)).map.look1 ke_pin Try.underlying46 (hzi _) hk
    rw [rdM_get] at this
    exact this
  have hz : (zeroValue 50).run Try.prog w = .ok (.agg #[.int .i64 0, .int .i64 0]) w := by kernel_rfl
  have c1 : (w.alloc (.cells #[.int .i64 i, .int .i64 g] 50)).cell? ⟨P.pb, 0, none⟩ = some (.map (some P.mb)) := cell_of_block hP1.box
  have hBw : B ≤ w.heap.size := by have := h.lpb; have := h.lt (.inl rfl); omega
  have HB1 := hide (Mds.of_below (B := B) P.own hbw hBw)
  have HP1 := hide hP1
  rw [hc] at hl
  have HK := hide hk
  have HC := hide hc
  have HBW := hide (show B ≤ (w.alloc (.cells #[.int .i64 i, .int .i64 g] 50)).heap.size by rw [World.size_alloc]; omega)
  have HLT := hide (h.lt (.inr (.inl rfl)))
  have hsz : w.heap.size < (w.alloc (.cells #[.int .i64 i, .int .i64 g] 50)).heap.size := by rw [World.size_alloc]; omega
  have hbk : (w.alloc (.cells #[.int .i64 i, .int .i64 g] 50)).heap[w.heap.size]? = some (.cells #[.int .i64 i, .int .i64 g] 50 (0, 0)) := heap_alloc_new _ _
  have HBK := hide hbk
  clear h hk hne hbw hP1 hBw hc hsz hbk
  go_enter Try.func12, Try.ntmps12
  go_wp2_with fail
  go_quiet (fail)
  go_wp2_with fail
  obtain ⟨W2, hW2⟩ : ∃ W2, W2 = (w.alloc (.cells #[.int .i64 i, .int .i64 g] 50)).drewN nq := ⟨_, rfl⟩
  have hP2 : PnAt B W2.drew P R L := by rw [hW2]; exact (HP1.out.below (drawn_below (Below.refl _ _) nq)).below ((Below.refl _ _).drew)
  have hM2 : Mds B P.own w P.own W2.drew := by
    refine HB1.out.trans (Mds.of_below _ ?_ (by have := HBW.out; omega))
    rw [hW2]
    exact (drawn_below (Below.refl _ _) nq).trans ((Below.refl _ _).drew)
  have hk2 : W2.drew.heap[w.heap.size]? = some (.cells #[.int .i64 i, .int .i64 g] 50 (0, 0)) := by rw [hW2]; exact HBK.out
  rw [← hW2]
  clear hW2
  have hS : ∀ W, W2.drew.mapTurned W P.mb → W.cell? ⟨P.pb, 0, none⟩ = some (.map (some P.mb)) ∧ W.cell? ⟨w.heap.size, 0, none⟩ = some (.int .i64 i) ∧ W.cell? ⟨w.heap.size, 1, none⟩ = some (.int .i64 g) := fun W ht => by
    have hb := ht.grown.block P.pb (hP2.lt (.inl rfl)) (by simpa using hP2.ne.1)
    have hlt : w.heap.size < W2.drew.heap.size := lt_of_block hk2
    have hb2 := ht.grown.block w.heap.size hlt (by have := HLT.out; simp; omega)
    exact ⟨cell_of_block (hb.trans hP2.box), cell_of_block (hb2.trans hk2), cell_of_block (hb2.trans hk2)⟩
  have HS0 : Hid (W2.drew.cell? ⟨P.pb, 0, none⟩ = some (.map (some P.mb)) ∧ W2.drew.cell? ⟨w.heap.size, 0, none⟩ = some (.int .i64 i) ∧ W2.drew.cell? ⟨w.heap.size, 1, none⟩ = some (.int .i64 g)) := ⟨cell_of_block hP2.box, cell_of_block hk2, cell_of_block hk2⟩
  obtain ⟨w3, hr3, hm3, ht3⟩ := hP2.map.del ke_pin Try.underlying46 HK.out 0
  rw [rdM_del R (i, g) HC.out] at hm3
  have hFF := hP2.turned ht3 hm3 (fun k => by unfold dec; have := hP2.few k; have := hP2.few (i, g); split <;> omega)
  have HF := hide (And.intro hFF.1 (hM2.trans hFF.2))
  have HR := hide hr3
  have HS3 := hide (hS w3 ht3)
  clear hP2 hM2 hk2 hS hr3 hm3 ht3 hFF
  refine wp_region_noPanic ?_
  refine wp_region_held_drew (S := fun w' => w'.cell? ⟨P.pb, 0, none⟩ = some (.map (some P.mb)) ∧ w'.cell? ⟨w.heap.size, 0, none⟩ = some (.int .i64 i) ∧ w'.cell? ⟨w.heap.size, 1, none⟩ = some (.int .i64 g)) (by kernel_rfl) HS0.out (fun hHeld => ?_)
  refine wpAnyH_take (i := 0) (v := ?v1) rfl (by kernel_rfl) (by kernel_rfl) (by kernel_rfl) (fun _ _ _ h => h) (Or.inl ⟨by rfl, ?hy1⟩) hHeld ?rest1
  case hy1 => (intro w' hSw; obtain ⟨s0, s1, s2⟩ := hSw; go_simp; try with_reducible rfl)
  try simp [Act.put]
  refine wpAnyH_take (i := 1) (v := ?v2) rfl (by kernel_rfl) (by kernel_rfl) (by kernel_rfl) (fun _ _ _ h => h) (Or.inl ⟨by rfl, ?hy2⟩) hHeld ?rest2
  case hy2 => (intro w' hSw; obtain ⟨s0, s1, s2⟩ := hSw; go_simp; try with_reducible rfl)
  try simp [Act.put]
  refine wpAnyH_take (i := 2) (v := ?v3) rfl (by kernel_rfl) (by kernel_rfl) (by kernel_rfl) (fun _ _ _ h => h) (Or.inl ⟨by rfl, ?hy3⟩) hHeld ?rest3
  case hy3 => (intro w' hSw; obtain ⟨s0, s1, s2⟩ := hSw; go_simp; try with_reducible rfl)
  try simp [Act.put]
  refine wpAnyH_take (i := 3) (v := ?v4) rfl (by kernel_rfl) (by kernel_rfl) (by kernel_rfl) (fun _ _ _ h => h) (Or.inl ⟨by rfl, ?hy4⟩) hHeld ?rest4
  case hy4 => (intro w' hSw; obtain ⟨s0, s1, s2⟩ := hSw; go_simp; try with_reducible rfl)
  try simp [Act.put]
  refine wpAnyH_take (i := 4) (v := ?v5) rfl (by kernel_rfl) (by kernel_rfl) (by kernel_rfl) (fun _ _ _ h => h) (Or.inl ⟨by rfl, ?hy5⟩) hHeld ?rest5
  case hy5 => (intro w' hSw; obtain ⟨s0, s1, s2⟩ := hSw; go_simp; try with_reducible rfl)
  try simp [Act.put]
  refine wpAnyH_ready (rs := [5]) (by kernel_rfl) (by simp) ?_
  refine AllReadyH.cons rfl (fun K hK => ?_) AllReadyH.nil
  rw [if_pos (by simp [Region.wanted])]
  refine opw_delete 46 50 (.tmp 35) (.tmp 36) rfl (.map (some P.mb)) (kPin (i, g)) (by simp [Act.eval]) (by simp [Act.eval, kPin]) HR.out ?_
  refine hK.out _ _ HS3.out (fun hHeld => ?_)
  clear hK K
  try simp [Act.put]
  refine wpAnyH_done (by kernel_rfl) (NoPanic.normal ?_) _
  go_wp2_with fail
  try go_ret
  exact ⟨rfl, ⟨P.pb, P.mb, P.n, P.v⟩, rfl, rfl, HF.out.1, HF.out.2⟩
set_option maxRecDepth 100000 in
set_option maxHeartbeats 4000000 in
theorem unpin2 {B : Nat} {P : Pn} {R : Int × Int → Nat} {L : List VD} {w : World} (h : PnAt B w P R L) (i g : Int) (hk : OkP (i, g)) (hn : P.n ≤ 1000000) (hc : 2 ≤ R (i, g)) : Calls Try.prog 12 #[.pointer (some ⟨P.pb, 0, none⟩), .int .i64 i, .int .i64 g] w fun e w' => e = .returned (.int .i64 0) ∧ ∃ P', P'.pb = P.pb ∧ P'.n = P.n + 1 ∧ PnAt B w' P' (dec R (i, g)) L ∧ Mds B P.own w P'.own w' := by
  have hne := h.ne.1
  have hzi := int_zero
  have hbw : Below w.heap.size w (w.alloc (.cells #[.int .i64 i, .int .i64 g] 50)) := (Below.refl _ _).alloc (Nat.le_refl _) _
  have hP1 := h.below hbw
  have hl : ∀ q, (Instr.lookup 46 (.map (some P.mb)) (.agg #[.int .i64 i, .int .i64 g]) false).run Try.prog ((w.alloc (.cells #[.int .i64 i, .int .i64 g] 50)).drewN q) = .ok (.int .i64 (R (i, g))) ((w.alloc (.cells #[.int .i64 i, .int .i64 g] 50)).drewN q) := fun q => by
    have := (hP1.below (drawn_below (Below.refl _ _) q)).map.look1 ke_pin Try.underlying46 (hzi _) hk
    rw [rdM_get] at this
    exact this
  have hz : (zeroValue 50).run Try.prog w = .ok (.agg #[.int .i64 0, .int .i64 0]) w := by kernel_rfl
  have c1 : (w.alloc (.cells #[.int .i64 i, .int .i64 g] 50)).cell? ⟨P.pb, 0, none⟩ = some (.map (some P.mb)) := cell_of_block hP1.box
  have hBw : B ≤ w.heap.size := by have := h.lpb; have := h.lt (.inl rfl); omega
  have HB1 := hide (Mds.of_below (B := B) P.own hbw hBw)
  have HP1 := hide hP1
  have hr0 : (2 : Int) ≤ (R (i, g) : Int) := by omega
  have hq0 : ((R (i, g) : Int) == 0) = false := by simp; omega
  have hq1 : ((R (i, g) : Int) == 1) = false := by simp; omega
  have HK := hide hk
  have HC := hide hc
  have HBW := hide (show B ≤ (w.alloc (.cells #[.int .i64 i, .int .i64 g] 50)).heap.size by rw [World.size_alloc]; omega)
  have HLT := hide (h.lt (.inr (.inl rfl)))
  have hsz : w.heap.size < (w.alloc (.cells #[.int .i64 i, .int .i64 g] 50)).heap.size := by rw [World.size_alloc]; omega
  have hbk : (w.alloc (.cells #[.int .i64 i, .int .i64 g] 50)).heap[w.heap.size]? = some (.cells #[.int .i64 i, .int .i64 g] 50 (0, 0)) := heap_alloc_new _ _
  have HBK := hide hbk
  clear h hk hne hbw hP1 hBw hc hsz hbk
  go_enter Try.func12, Try.ntmps12
  go_wp2_with fail
  go_quiet (fail)
  go_wp2_with fail
  obtain ⟨W2, hW2⟩ : ∃ W2, W2 = (w.alloc (.cells #[.int .i64 i, .int .i64 g] 50)).drewN nq := ⟨_, rfl⟩
  have hP2 : PnAt B W2.drew P R L := by rw [hW2]; exact (HP1.out.below (drawn_below (Below.refl _ _) nq)).below ((Below.refl _ _).drew)
  have hM2 : Mds B P.own w P.own W2.drew := by
    refine HB1.out.trans (Mds.of_below _ ?_ (by have := HBW.out; omega))
    rw [hW2]
    exact (drawn_below (Below.refl _ _) nq).trans ((Below.refl _ _).drew)
  have hk2 : W2.drew.heap[w.heap.size]? = some (.cells #[.int .i64 i, .int .i64 g] 50 (0, 0)) := by rw [hW2]; exact HBK.out
  rw [← hW2]
  clear hW2
  have hS : ∀ W, W2.drew.mapTurned W P.mb → W.cell? ⟨P.pb, 0, none⟩ = some (.map (some P.mb)) ∧ W.cell? ⟨w.heap.size, 0, none⟩ = some (.int .i64 i) ∧ W.cell? ⟨w.heap.size, 1, none⟩ = some (.int .i64 g) := fun W ht => by
    have hb := ht.grown.block P.pb (hP2.lt (.inl rfl)) (by simpa using hP2.ne.1)
    have hlt : w.heap.size < W2.drew.heap.size := lt_of_block hk2
    have hb2 := ht.grown.block w.heap.size hlt (by have := HLT.out; simp; omega)
    exact ⟨cell_of_block (hb.trans hP2.box), cell_of_block (hb2.trans hk2), cell_of_block (hb2.trans hk2)⟩
  have HS0 : Hid (W2.drew.cell? ⟨P.pb, 0, none⟩ = some (.map (some P.mb)) ∧ W2.drew.cell? ⟨w.heap.size, 0, none⟩ = some (.int .i64 i) ∧ W2.drew.cell? ⟨w.heap.size, 1, none⟩ = some (.int .i64 g)) := ⟨cell_of_block hP2.box, cell_of_block hk2, cell_of_block hk2⟩
  obtain ⟨v0, st, w1, f1, hE, hT1, hM1, hF1, hSt⟩ := hP2.map.entry ke_pin pin_law Try.underlying46 hzi (by unfold maxLen; omega) HK.out
  obtain ⟨w3, hST, hT3, hM3⟩ := hSt (.int .i64 ((R (i, g) : Int) - 1))
  have hL0 : (Instr.lookup 46 (.map (some P.mb)) (kPin (i, g)) false).run Try.prog W2.drew = .ok (.int .i64 (R (i, g))) W2.drew := by
    have := hP2.map.look1 ke_pin Try.underlying46 (hzi _) HK.out
    rw [rdM_get] at this
    exact this
  have hL1 : (Instr.lookup 46 (.map (some P.mb)) (kPin (i, g)) false).run Try.prog w1 = .ok (.int .i64 (R (i, g))) w1 := by
    have := hM1.look1 ke_pin Try.underlying46 (hzi _) HK.out
    rw [hF1, rdM_get] at this
    exact this
  rw [rdM_dec R (i, g) HC.out] at hM3
  have hFF := hP2.turned hT3 hM3 (fun k => by unfold dec; have := hP2.few k; have := hP2.few (i, g); split <;> omega)
  have HF := hide (And.intro hFF.1 (hM2.trans hFF.2))
  have HE := hide hE
  have HST := hide hST
  have HL0 := hide hL0
  have HL1 := hide hL1
  have HS1 := hide (hS w1 hT1)
  have HS3 := hide (hS w3 hT3)
  have hr1 : (R (i, g) : Int) ≤ 1000000 := by have := hP2.few (i, g); omega
  have hr2 : (2 : Int) ≤ (R (i, g) : Int) := by have := HC.out; omega
  clear hP2 hM2 hk2 hS hE hT1 hM1 hF1 hSt hST hT3 hM3 hL0 hL1 hFF hl
  generalize (R (i, g) : Int) = rv at *
  refine wp_region_noPanic ?_
  refine wp_region_held_drew (S := fun w' => w'.cell? ⟨P.pb, 0, none⟩ = some (.map (some P.mb)) ∧ w'.cell? ⟨w.heap.size, 0, none⟩ = some (.int .i64 i) ∧ w'.cell? ⟨w.heap.size, 1, none⟩ = some (.int .i64 g)) (by kernel_rfl) HS0.out (fun hHeld => ?_)
  refine wpAnyH_take (i := 0) (v := ?v1) rfl (by kernel_rfl) (by kernel_rfl) (by kernel_rfl) (fun _ _ _ h => h) (Or.inl ⟨by rfl, ?hy1⟩) hHeld ?rest1
  case hy1 => (intro w' hSw; obtain ⟨s0, s1, s2⟩ := hSw; go_simp; try with_reducible rfl)
  try simp [Act.put]
  refine wpAnyH_take (i := 1) (v := ?v2) rfl (by kernel_rfl) (by kernel_rfl) (by kernel_rfl) (fun _ _ _ h => h) (Or.inl ⟨by rfl, ?hy2⟩) hHeld ?rest2
  case hy2 => (intro w' hSw; obtain ⟨s0, s1, s2⟩ := hSw; go_simp; try with_reducible rfl)
  try simp [Act.put]
  refine wpAnyH_take (i := 2) (v := ?v3) rfl (by kernel_rfl) (by kernel_rfl) (by kernel_rfl) (fun _ _ _ h => h) (Or.inl ⟨by rfl, ?hy3⟩) hHeld ?rest3
  case hy3 => (intro w' hSw; obtain ⟨s0, s1, s2⟩ := hSw; go_simp; try with_reducible rfl)
  try simp [Act.put]
  refine wpAnyH_take (i := 3) (v := ?v4) rfl (by kernel_rfl) (by kernel_rfl) (by kernel_rfl) (fun _ _ _ h => h) (Or.inl ⟨by rfl, ?hy4⟩) hHeld ?rest4
  case hy4 => (intro w' hSw; obtain ⟨s0, s1, s2⟩ := hSw; go_simp; try with_reducible rfl)
  try simp [Act.put]
  refine wpAnyH_take (i := 4) (v := ?v5) rfl (by kernel_rfl) (by kernel_rfl) (by kernel_rfl) (fun _ _ _ h => h) (Or.inl ⟨by rfl, ?hy5⟩) hHeld ?rest5
  case hy5 => (intro w' hSw; obtain ⟨s0, s1, s2⟩ := hSw; go_simp; try with_reducible rfl)
  try simp [Act.put]
  refine wpAnyH_ready (rs := [5, 7]) (by kernel_rfl) (by simp) ?_
  refine AllReadyH.cons rfl (fun K hK => ?first) (AllReadyH.cons rfl (fun K hK => ?second) AllReadyH.nil)
  case first =>
    rw [if_pos (by simp [Region.wanted])]
    refine opw_look1 46 (.tmp 22) (.tmp 23) rfl (.map (some P.mb)) (kPin (i, g)) (.int .i64 rv) (by simp [Act.eval]) (by simp [Act.eval, kPin]) HL0.out ?_
    refine hK.out _ _ HS0.out (fun hHeld => ?_)
    clear hK K
    try simp [Act.put]
    refine wpAnyH_take (i := 6) (v := ?v21) rfl (by kernel_rfl) (by kernel_rfl) (by kernel_rfl) (fun _ _ _ h => h) (Or.inl ⟨by rfl, ?hy21⟩) hHeld ?rest21
    case hy21 => (intro w' hSw; obtain ⟨s0, s1, s2⟩ := hSw; go_simp; try with_reducible rfl)
    try simp [Act.put]
    refine wpAnyH_ready (rs := [7]) (by kernel_rfl) (by simp) ?_
    refine AllReadyH.cons rfl (fun K hK => ?_) AllReadyH.nil
    rw [if_pos (by simp [Region.wanted])]
    refine opw_entry 46 (.tmp 22) (.tmp 23) rfl (.map (some P.mb)) (kPin (i, g)) (.tuple #[v0, .int .i64 (st : Nat)]) (by simp [Act.eval]) (by simp [Act.eval, kPin]) HE.out ?_
    refine hK.out _ _ HS1.out (fun hHeld => ?_)
    clear hK K
    try simp [Act.put]
    refine wpAnyH_take (i := 8) (v := ?v22) rfl (by kernel_rfl) (by kernel_rfl) (by kernel_rfl) (fun _ _ _ h => h) (Or.inl ⟨by rfl, ?hy22⟩) hHeld ?rest22
    case hy22 => (intro w' hSw; obtain ⟨s0, s1, s2⟩ := hSw; go_simp; try with_reducible rfl)
    try simp [Act.put]
    refine wpAnyH_ready (rs := [9]) (by kernel_rfl) (by simp) ?_
    refine AllReadyH.cons rfl (fun K hK => ?_) AllReadyH.nil
    rw [if_pos (by simp [Region.wanted])]
    refine opw_estore 46 (.tmp 22) (.tmp 27) (.tmp 25) rfl (.map (some P.mb)) (.int .i64 (st : Nat)) (.int .i64 (rv - 1)) (by simp [Act.eval]) (by simp [Act.eval]) (by simp [Act.eval]; rw [IntKind.wrap_i64]; omega) HST.out ?_
    refine hK.out _ _ HS3.out (fun hHeld => ?_)
    clear hK K
    try simp [Act.put]
    refine wpAnyH_done (by kernel_rfl) (NoPanic.normal ?_) _
    go_wp2_with fail
    try go_ret
    exact ⟨rfl, ⟨P.pb, P.mb, P.n + 1, P.v⟩, rfl, rfl, HF.out.1, HF.out.2⟩
  case second =>
    rw [if_pos (by simp [Region.wanted])]
    refine opw_entry 46 (.tmp 22) (.tmp 23) rfl (.map (some P.mb)) (kPin (i, g)) (.tuple #[v0, .int .i64 (st : Nat)]) (by simp [Act.eval]) (by simp [Act.eval, kPin]) HE.out ?_
    refine hK.out _ _ HS1.out (fun hHeld => ?_)
    clear hK K
    try simp [Act.put]
    refine wpAnyH_take (i := 8) (v := ?v31) rfl (by kernel_rfl) (by kernel_rfl) (by kernel_rfl) (fun _ _ _ h => h) (Or.inl ⟨by rfl, ?hy31⟩) hHeld ?rest31
    case hy31 => (intro w' hSw; obtain ⟨s0, s1, s2⟩ := hSw; go_simp; try with_reducible rfl)
    try simp [Act.put]
    refine wpAnyH_ready (rs := [5]) (by kernel_rfl) (by simp) ?_
    refine AllReadyH.cons rfl (fun K hK => ?_) AllReadyH.nil
    rw [if_pos (by simp [Region.wanted])]
    refine opw_look1 46 (.tmp 22) (.tmp 23) rfl (.map (some P.mb)) (kPin (i, g)) (.int .i64 rv) (by simp [Act.eval]) (by simp [Act.eval, kPin]) HL1.out ?_
    refine hK.out _ _ HS1.out (fun hHeld => ?_)
    clear hK K
    try simp [Act.put]
    refine wpAnyH_take (i := 6) (v := ?v32) rfl (by kernel_rfl) (by kernel_rfl) (by kernel_rfl) (fun _ _ _ h => h) (Or.inl ⟨by rfl, ?hy32⟩) hHeld ?rest32
    case hy32 => (intro w' hSw; obtain ⟨s0, s1, s2⟩ := hSw; go_simp; try with_reducible rfl)
    try simp [Act.put]
    refine wpAnyH_ready (rs := [9]) (by kernel_rfl) (by simp) ?_
    refine AllReadyH.cons rfl (fun K hK => ?_) AllReadyH.nil
    rw [if_pos (by simp [Region.wanted])]
    refine opw_estore 46 (.tmp 22) (.tmp 27) (.tmp 25) rfl (.map (some P.mb)) (.int .i64 (st : Nat)) (.int .i64 (rv - 1)) (by simp [Act.eval]) (by simp [Act.eval]) (by simp [Act.eval]; rw [IntKind.wrap_i64]; omega) HST.out ?_
    refine hK.out _ _ HS3.out (fun hHeld => ?_)
    clear hK K
    try simp [Act.put]
    refine wpAnyH_done (by kernel_rfl) (NoPanic.normal ?_) _
    go_wp2_with fail
    try go_ret
    exact ⟨rfl, ⟨P.pb, P.mb, P.n + 1, P.v⟩, rfl, rfl, HF.out.1, HF.out.2⟩
theorem pn_unpin {B : Nat} {P : Pn} {R : Int × Int → Nat} {L : List VD} {w : World} (h : PnAt B w P R L) (i g : Int) (hk : OkP (i, g)) (hn : P.n ≤ 1000000) : Calls Try.prog 12 #[.pointer (some ⟨P.pb, 0, none⟩), .int .i64 i, .int .i64 g] w fun e w' => e = .returned (.int .i64 (unE R (i, g))) ∧ ∃ P', P'.pb = P.pb ∧ P'.n ≤ P.n + 1 ∧ PnAt B w' P' (dec R (i, g)) L ∧ Mds B P.own w P'.own w' := by
  unfold unE
  by_cases h0 : R (i, g) = 0
  · rw [if_pos h0, dec_zero h0]
    exact (unpin0 h i g hk hn h0).mono fun e w' ⟨h1, h2, h3⟩ => ⟨h1, P, rfl, by omega, h3, h2⟩
  · rw [if_neg h0]
    by_cases h1 : R (i, g) = 1
    · exact (unpin1 h i g hk hn h1).mono fun e w' ⟨q1, P', q2, q3, q4⟩ => ⟨q1, P', q2, by omega, q4⟩
    · exact (unpin2 h i g hk hn (by omega)).mono fun e w' ⟨q1, P', q2, q3, q4⟩ => ⟨q1, P', q2, by omega, q4⟩
end Go.Proofs.Ytghcekhlohgkaaa
