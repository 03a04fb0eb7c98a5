/- What New, Count and Pin answer. -/
import Derived.Test.YtghcekhlohgkaaaPnMem
import Derived.WalkSpells
import Derived.Deep.RegionHeld3
namespace Go.Proofs.Ytghcekhlohgkaaa
open Go.RowKit
set_option linter.unusedVariables false
theorem int_zero (w : World) : (zeroValue 3).run Try.prog w = .ok (.int .i64 0) w := by kernel_rfl
set_option maxRecDepth 100000 in
set_option maxHeartbeats 4000000 in
theorem pn_new (w : World) : Calls Try.prog 9 #[] w fun e w' => ∃ P, e = .returned (.pointer (some ⟨P.pb, 0, none⟩)) ∧ PnAt w.heap.size w' P (fun _ => 0) [] ∧ P.n = 0 ∧ Below w.heap.size w w' := by
  have hmm := @run_makeMap Try.prog
  go_enter Try.func9, Try.ntmps9
  go_wp2_with fail
  try go_ret
  refine ⟨⟨w.heap.size + 1, w.heap.size, 0, .slice none 0 0⟩, rfl, ⟨?_, ?_, RowV.nil _ _, by simp, by simp, by simp⟩, rfl, ?_⟩
  · have := heap_alloc_new (w.alloc (.map #[] 0)) (.cells #[.map (some w.heap.size), .slice none 0 0] 48)
    rw [World.size_alloc] at this
    exact this
  · exact ((MAt.made w 50 lPin OkP).keep (Below.heap_alloc _ _ _ (by rw [World.size_alloc]; omega))).congr fun a _ => rfl
  · exact ((Below.refl _ _).alloc (Nat.le_refl _) _).alloc (by rw [World.size_alloc]; omega) _
set_option maxRecDepth 100000 in
set_option maxHeartbeats 4000000 in
theorem pn_count {B : Nat} {P : Pn} {R : Int × Int → Nat} {L : List VD} {w : World} (h : PnAt B w P R L) (i g : Int) (hk : OkP (i, g)) : Calls Try.prog 20 #[.pointer (some ⟨P.pb, 0, none⟩), .int .i64 i, .int .i64 g] w fun e w' => e = .returned (.int .i64 (R (i, g))) ∧ w = w' := by
  have c0 : w.cell? ⟨P.pb, 0, none⟩ = some (.map (some P.mb)) := cell_of_block h.box
  have hm := hide h.map
  have HG := hide (rdM_get R (i, g))
  have hzi := int_zero
  have HK := hide hk
  clear h hk
  go_enter Try.func20, Try.ntmps20
  go_wp2_with (first | (at_lookup; refine wp_mlook1 rfl _ _ 46 rfl 3 ke_pin Try.underlying46 (hzi _) (i, g) HK.out rfl hm.out rfl ?_; rw [HG.out]))
  try go_ret
  exact ⟨rfl, rfl⟩
set_option maxRecDepth 100000 in
set_option maxHeartbeats 4000000 in
theorem pn_pin {B : Nat} {P : Pn} {R : Int × Int → Nat} {L : List VD} {w : World} (h : PnAt B w P R L) (i g : Int) (hk : OkP (i, g)) (hn : P.n ≤ 1000000) : Calls Try.prog 10 #[.pointer (some ⟨P.pb, 0, none⟩), .int .i64 i, .int .i64 g] w fun e w' => e = .returned (.int .i64 0) ∧ ∃ P', P'.pb = P.pb ∧ P'.n = P.n + 1 ∧ PnAt B w' P' (inc R (i, g)) L ∧ Mds B P.own w P'.own w' := by
  have c0 : w.cell? ⟨P.pb, 0, none⟩ = some (.map (some P.mb)) := cell_of_block h.box
  have hm := hide h.map
  have HG := hide (rdM_get R (i, g))
  have hzi := int_zero
  have HK := hide hk
  have HP := hide h
  have qM : ∀ (w : World) (b : Nat), (binOp .eql 46 (.map (some b)) (.map none)).run Try.prog w = .ok (.bool false) w := fun w b => run_eql_map_nil w _ _ _ (some b) Try.underlying46
  have HPD := hide (h.below ((Below.refl _ w).drew))
  have HL0 : Hid ((Instr.lookup 46 (.map (some P.mb)) (kPin (i, g)) false).run Try.prog w.drew = .ok (.int .i64 (R (i, g))) w.drew) := by
    have := HPD.out.map.look1 ke_pin Try.underlying46 (hzi _) hk
    rw [rdM_get] at this
    exact this
  obtain ⟨v0, st, w1, f1, hE, hT1, hM1, hF1, hS⟩ := HPD.out.map.entry ke_pin pin_law Try.underlying46 hzi (by unfold maxLen; omega) hk
  obtain ⟨w3, hST, hT3, hM3⟩ := hS (.int .i64 ((R (i, g) : Int) + 1))
  have HE := hide hE
  have HST := hide hST
  have HL1 : Hid ((Instr.lookup 46 (.map (some P.mb)) (kPin (i, g)) false).run Try.prog w1 = .ok (.int .i64 (R (i, g))) w1) := by
    have := hM1.look1 ke_pin Try.underlying46 (hzi _) hk
    rw [hF1, rdM_get] at this
    exact this
  rw [rdM_inc] at hM3
  have hne := HPD.out.ne.1
  have HS0 : Hid (w.drew.cell? ⟨P.pb, 0, none⟩ = some (.map (some P.mb))) := c0
  have hcell : ∀ W, w.drew.mapTurned W P.mb → W.cell? ⟨P.pb, 0, none⟩ = some (.map (some P.mb)) := fun W ht => by
    have hb := ht.grown.block P.pb (HPD.out.lt (.inl rfl)) (by simpa using hne)
    exact cell_of_block (hb.trans HPD.out.box)
  have HS1 := hide (hcell w1 hT1)
  have HS3 := hide (hcell w3 hT3)
  have hfew := h.few
  have hFF := HPD.out.turned hT3 hM3 (fun k => by unfold inc; have := hfew k; have := hfew (i, g); split <;> omega)
  have hBw : B ≤ w.heap.size := by have := h.lpb; have := h.lt (.inl rfl); omega
  have HF := hide (And.intro hFF.1 ((Mds.of_below (B := B) P.own ((Below.refl _ w).drew) hBw).trans hFF.2))
  have hadd : (R (i, g) : Int) ≤ 1000000 := by have := hfew (i, g); omega
  have hadd0 : (0 : Int) ≤ (R (i, g) : Int) := by omega
  clear hE hST hT1 hT3 hM1 hM3 hF1 hS hne hcell hfew HPD hFF hBw
  clear h hk
  go_enter Try.func10, Try.ntmps10
  generalize (R (i, g) : Int) = rv at *
  go_wp2_with fail
  refine wp_region_noPanic ?_
  refine wp_region_held_drew (S := fun w' => w'.cell? ⟨P.pb, 0, none⟩ = some (.map (some P.mb))) (by kernel_rfl) HS0.out (fun hHeld => ?_)
  refine wpAnyH_take (i := 0) (v := ?v1) rfl (by kernel_rfl) (by kernel_rfl) (by kernel_rfl) (fun _ _ _ h => h) (Or.inl ⟨by rfl, ?hy1⟩) hHeld ?rest1
  case hy1 => (intro w' hSw; skip; go_simp; try with_reducible rfl)
  try simp [Act.put]
  refine wpAnyH_take (i := 1) (v := ?v2) rfl (by kernel_rfl) (by kernel_rfl) (by kernel_rfl) (fun _ _ _ h => h) (Or.inl ⟨by rfl, ?hy2⟩) hHeld ?rest2
  case hy2 => (intro w' hSw; skip; go_simp; try with_reducible rfl)
  try simp [Act.put]
  refine wpAnyH_take (i := 2) (v := ?v3) rfl (by kernel_rfl) (by kernel_rfl) (by kernel_rfl) (fun _ _ _ h => h) (Or.inl ⟨by rfl, ?hy3⟩) hHeld ?rest3
  case hy3 => (intro w' hSw; skip; go_simp; try with_reducible rfl)
  try simp [Act.put]
  refine wpAnyH_take (i := 3) (v := ?v4) rfl (by kernel_rfl) (by kernel_rfl) (by kernel_rfl) (fun _ _ _ h => h) (Or.inl ⟨by rfl, ?hy4⟩) hHeld ?rest4
  case hy4 => (intro w' hSw; skip; go_simp; try with_reducible rfl)
  try simp [Act.put]
  refine wpAnyH_take (i := 4) (v := ?v5) rfl (by kernel_rfl) (by kernel_rfl) (by kernel_rfl) (fun _ _ _ h => h) (Or.inl ⟨by rfl, ?hy5⟩) hHeld ?rest5
  case hy5 => (intro w' hSw; skip; go_simp; try with_reducible rfl)
  try simp [Act.put]
  refine wpAnyH_take (i := 5) (v := ?v6) rfl (by kernel_rfl) (by kernel_rfl) (by kernel_rfl) (fun _ _ _ h => h) (Or.inl ⟨by rfl, ?hy6⟩) hHeld ?rest6
  case hy6 => (intro w' hSw; skip; go_simp; try with_reducible rfl)
  try simp [Act.put]
  refine wpAnyH_take (i := 6) (v := ?v7) rfl (by kernel_rfl) (by kernel_rfl) (by kernel_rfl) (fun _ _ _ h => h) (Or.inl ⟨by rfl, ?hy7⟩) hHeld ?rest7
  case hy7 => (intro w' hSw; skip; go_simp; try with_reducible rfl)
  try simp [Act.put]
  refine wpAnyH_ready (rs := [7, 9]) (by kernel_rfl) (by simp) ?_
  refine AllReadyH.cons rfl (fun K hK => ?first) (AllReadyH.cons rfl (fun K hK => ?second) AllReadyH.nil)
  case first =>
    rw [if_pos (by simp [Region.wanted])]
    refine opw_look1 46 (.tmp 21) (.tmp 24) rfl (.map (some P.mb)) (kPin (i, g)) (.int .i64 rv) (by simp [Act.eval]) (by simp [Act.eval, kPin]) HL0.out ?_
    refine hK.out _ _ HS0.out (fun hHeld => ?_)
    clear hK K
    try simp [Act.put]
    refine wpAnyH_take (i := 8) (v := ?v21) rfl (by kernel_rfl) (by kernel_rfl) (by kernel_rfl) (fun _ _ _ h => h) (Or.inl ⟨by rfl, ?hy21⟩) hHeld ?rest21
    case hy21 => (intro w' hSw; skip; go_simp; try with_reducible rfl)
    try simp [Act.put]
    refine wpAnyH_ready (rs := [9]) (by kernel_rfl) (by simp) ?_
    refine AllReadyH.cons rfl (fun K hK => ?_) AllReadyH.nil
    rw [if_pos (by simp [Region.wanted])]
    refine opw_entry 46 (.tmp 21) (.tmp 24) rfl (.map (some P.mb)) (kPin (i, g)) (.tuple #[v0, .int .i64 (st : Nat)]) (by simp [Act.eval]) (by simp [Act.eval, kPin]) HE.out ?_
    refine hK.out _ _ HS1.out (fun hHeld => ?_)
    clear hK K
    try simp [Act.put]
    refine wpAnyH_take (i := 10) (v := ?v22) rfl (by kernel_rfl) (by kernel_rfl) (by kernel_rfl) (fun _ _ _ h => h) (Or.inl ⟨by rfl, ?hy22⟩) hHeld ?rest22
    case hy22 => (intro w' hSw; skip; go_simp; try with_reducible rfl)
    try simp [Act.put]
    refine wpAnyH_ready (rs := [11]) (by kernel_rfl) (by simp) ?_
    refine AllReadyH.cons rfl (fun K hK => ?_) AllReadyH.nil
    rw [if_pos (by simp [Region.wanted])]
    refine opw_estore 46 (.tmp 21) (.tmp 28) (.tmp 26) rfl (.map (some P.mb)) (.int .i64 (st : Nat)) (.int .i64 (rv + 1)) (by simp [Act.eval]) (by simp [Act.eval]) (by simp [Act.eval]; rw [IntKind.wrap_i64]; omega) HST.out ?_
    refine hK.out _ _ HS3.out (fun hHeld => ?_)
    clear hK K
    try simp [Act.put]
    refine wpAnyH_done (by kernel_rfl) (NoPanic.normal ?_) _
    go_wp2_with fail
    try go_ret
    exact ⟨rfl, ⟨P.pb, P.mb, P.n + 1, P.v⟩, rfl, rfl, HF.out.1, HF.out.2⟩
  case second =>
    rw [if_pos (by simp [Region.wanted])]
    refine opw_entry 46 (.tmp 21) (.tmp 24) rfl (.map (some P.mb)) (kPin (i, g)) (.tuple #[v0, .int .i64 (st : Nat)]) (by simp [Act.eval]) (by simp [Act.eval, kPin]) HE.out ?_
    refine hK.out _ _ HS1.out (fun hHeld => ?_)
    clear hK K
    try simp [Act.put]
    refine wpAnyH_take (i := 10) (v := ?v31) rfl (by kernel_rfl) (by kernel_rfl) (by kernel_rfl) (fun _ _ _ h => h) (Or.inl ⟨by rfl, ?hy31⟩) hHeld ?rest31
    case hy31 => (intro w' hSw; skip; go_simp; try with_reducible rfl)
    try simp [Act.put]
    refine wpAnyH_ready (rs := [7]) (by kernel_rfl) (by simp) ?_
    refine AllReadyH.cons rfl (fun K hK => ?_) AllReadyH.nil
    rw [if_pos (by simp [Region.wanted])]
    refine opw_look1 46 (.tmp 21) (.tmp 24) rfl (.map (some P.mb)) (kPin (i, g)) (.int .i64 rv) (by simp [Act.eval]) (by simp [Act.eval, kPin]) HL1.out ?_
    refine hK.out _ _ HS1.out (fun hHeld => ?_)
    clear hK K
    try simp [Act.put]
    refine wpAnyH_take (i := 8) (v := ?v32) rfl (by kernel_rfl) (by kernel_rfl) (by kernel_rfl) (fun _ _ _ h => h) (Or.inl ⟨by rfl, ?hy32⟩) hHeld ?rest32
    case hy32 => (intro w' hSw; skip; go_simp; try with_reducible rfl)
    try simp [Act.put]
    refine wpAnyH_ready (rs := [11]) (by kernel_rfl) (by simp) ?_
    refine AllReadyH.cons rfl (fun K hK => ?_) AllReadyH.nil
    rw [if_pos (by simp [Region.wanted])]
    refine opw_estore 46 (.tmp 21) (.tmp 28) (.tmp 26) rfl (.map (some P.mb)) (.int .i64 (st : Nat)) (.int .i64 (rv + 1)) (by simp [Act.eval]) (by simp [Act.eval]) (by simp [Act.eval]; rw [IntKind.wrap_i64]; omega) HST.out ?_
    refine hK.out _ _ HS3.out (fun hHeld => ?_)
    clear hK K
    try simp [Act.put]
    refine wpAnyH_done (by kernel_rfl) (NoPanic.normal ?_) _
    go_wp2_with fail
    try go_ret
    exact ⟨rfl, ⟨P.pb, P.mb, P.n + 1, P.v⟩, rfl, rfl, HF.out.1, HF.out.2⟩
end Go.Proofs.Ytghcekhlohgkaaa
