/- What remove of the index does. (Written by genxd.py.) An entry that is there is changed: the map has as many. What carry of the index does. (Written by genxc.py.) -/
import Derived.Test.YtonhmihmnkicdaaGreatIxMove
import Derived.Test.YtonhmihmnkicdaaGreatIxKeys
import Derived.Test.YtonhmihmnkicdaaGreatIxGet
import Derived.Sort.KeysCollected
namespace Go.Proofs.YtonhmihmnkicdaaGreat
open Go.RowKit
set_option linter.unusedVariables false
theorem opx_delete {o : Oper} {a : Act} {w w1 : World} {K : Act → World → Prop} {Q : Exit → Act → World → Prop} (t k : TypeId) (m x : Operand) (ho : o.op = .call { callee := .builtin .delete, args := #[m, x], argTypes := #[t, k] }) (M X : Value) (hm : a.eval m = M) (hx : a.eval x = X)
    (hr : (Builtin.delete_ #[t, k] o.type #[M, X]).run Tryz.prog w = .ok (.tuple #[]) w1) (h : K (a.put o.dst (.tuple #[])) w1) : o.wp Tryz.prog a w K Q := by
  unfold Oper.wp execOp
  simp [ho, resolve, invoke, builtin, hm, hx, hr, Result.andThen]
  exact h
theorem t_none (T : ByteArray → Option En) (k : ByteArray) : mset (fun id => (T id).map enV) k none = fun id => (tset T k none id).map enV := t_set T k none
theorem en_vol' (e : En) (W : World) : (Instr.field 38 (enV e) 1).run Tryz.prog W = .ok (.int .i64 e.vol) W := en_vol _ _ _ _ _ W
theorem keys_liv {X : FX} {id : Int} {ks : List (List UInt8)} (hok : ∀ k e, X.T k = some e → okS k) (h : ∀ k : ByteArray, k.data.toList ∈ ks ↔ okS k ∧ ∃ e, X.T k = some e ∧ e.vol = id) (hall : ∀ x ∈ ks, ∃ k : ByteArray, x = k.data.toList) : 0 < ks.length ↔ livT X.T id := by
  constructor
  · intro hl
    obtain ⟨x, hx⟩ := List.exists_mem_of_length_pos hl
    obtain ⟨k, rfl⟩ := hall x hx
    obtain ⟨_, e, h1, h2⟩ := (h k).1 hx
    exact ⟨k, e, h1, h2⟩
  · rintro ⟨k, e, h1, h2⟩
    have := (h k).2 ⟨hok k e h1, e, h1, h2⟩
    exact List.length_pos_of_mem this
theorem list_bytes (x : List UInt8) : ∃ k : ByteArray, x = k.data.toList := ⟨⟨x.toArray⟩, by simp⟩
/-- what put, remove, move and merge leave -/
def DidO (B : Nat) (I : Ix) (n : Nat) (L : List VD) (Y : FX) (w : World) (e : Ending) (w' : World) : Prop :=
  ∃ a c, e = .returned (.slice a L.length c) ∧ L.length ≤ c ∧ (VosAt B w' a L ∧ VoT w' a) ∧ IxAt B w' I n Y ∧ Mds B I.own w I.own w'
set_option maxRecDepth 100000 in
set_option maxHeartbeats 8000000 in
theorem ix_remove {B n : Nat} {I : Ix} {X : FX} {w : World} (h : IxAt B w I n X) (hn : n ≤ 900000) (hok : ∀ k e, X.T k = some e → okS k ∧ OkI e.vol) (r : Rc) (a : Option Addr) (c : Nat) (hk : okS r.k) : Calls Tryz.prog 36 #[.pointer (some ⟨I.xb, 0, none⟩), .agg (rcs r a c)] w (DidO B I (n + 3) (X.remO r.k) (X.rem r.k) w) := by
  have HRW := hide (rbx_new 43 r a c w)
  have hb1 : Below w.heap.size w (w.alloc (.cells (rcs r a c) 43)) := (Below.refl _ _).alloc (Nat.le_refl _) _
  have HM := hide (Mds.of_below (B := B) I.own hb1 h.Bw)
  have HX := hide (h.below hb1)
  have HLT := hide (fun i (hi : I.own i) => h.lt hi)
  have HK := hide hk
  have HN := hide hn
  have HOK := hide hok
  have HN1 : Hid (n < maxLen) := by unfold Hid maxLen; omega
  have HN2 : Hid (n + 1 < maxLen) := by unfold Hid maxLen; omega
  have HVO : Hid (X.volOf r.k = ((X.T r.k).getD en0).vol) := rfl
  have HID : Hid (OkI (X.volOf r.k)) := by
    rw [HVO.out]
    cases hT : X.T r.k with
    | none => exact ⟨by decide, by decide⟩
    | some e => exact (hok _ _ hT).2
  obtain ⟨e0, he0⟩ : ∃ e, (X.T r.k).getD en0 = e := ⟨_, rfl⟩
  rw [he0] at HVO
  have hze := en_zero
  have hl : ∀ q, (Instr.lookup 65 (.map (some I.mt)) (.string r.k) false).run Tryz.prog ((w.alloc (.cells (rcs r a c) 43)).drewN q) = .ok (enV e0) ((w.alloc (.cells (rcs r a c) 43)).drewN q) := fun q => by
    have := (HX.out.below (drawn_below (Below.refl _ _) q)).t.look1 ke_str Tryz.underlying65 (en_zero _) hk
    rw [en_get, he0] at this
    exact this
  have hfl := en_vol' e0
  have c0 := HX.out.cells.1
  have c11 := HRW.out.c11
  generalize hid : e0.vol = id at *
  have HVO2 := HVO
  clear h hb1 hn hok hk HVO hid he0
  go_enter Tryz.func36, Tryz.ntmps36
  go_upto_region 1 with fail
  generalize w.alloc (.cells (rcs r a c) 43) = W1 at *
  go_quiet (fail)
  obtain ⟨W2, hW2⟩ : ∃ W2, W2 = W1.drewN nq := ⟨_, rfl⟩
  have hbd2 : Below W1.heap.size W1 W2 := by rw [hW2]; exact drawn_below (Below.refl _ _) nq
  rw [← hW2]
  clear hW2 hl
  obtain ⟨W3, hW3⟩ : ∃ W, W = W2.drew := ⟨_, rfl⟩
  have hbd : Below W1.heap.size W1 W3 := by rw [hW3]; exact hbd2.trans (((Below.refl _ W2).drew).mono hbd2.size)
  have hX3 := HX.out.below hbd
  have hk3 := (hbd.block _ HRW.out.lt).trans HRW.out
  have hM3 := HM.out.trans (Mds.of_below (B := B) I.own hbd HX.out.Bw)
  obtain ⟨w4, hr4, hm4, ht4⟩ := hX3.t.del ke_str Tryz.underlying65 HK.out 0
  rw [t_none] at hm4
  obtain ⟨hX4, hM4⟩ := hX3.set_t ht4 (hm4.mono (Nat.le_succ n))
  have hk4 := (turned_blk ht4 (lt_of_block hk3) (by have := HLT.out _ (.inr (.inl rfl)); omega)).trans hk3
  have HS2 := hide (And.intro hX3.cells.1 (show RBx w.heap.size 43 r a c _ from hk3).c11)
  have HS3 := hide (And.intro hX4.cells.1 (show RBx w.heap.size 43 r a c _ from hk4).c11)
  have HR3 := hide hr4
  have hM4' := hM3.trans hM4
  obtain ⟨W5, hW5⟩ : ∃ W, W = w4.drew := ⟨_, rfl⟩
  have hbd5 : Below w4.heap.size w4 W5 := by rw [hW5]; exact (Below.refl _ _).drew
  have hX5 := hX4.below hbd5
  have hk5 := (hbd5.block _ (lt_of_block hk4)).trans hk4
  have hM5 := hM4'.trans (Mds.of_below (B := B) I.own hbd5 hX4.Bw)
  obtain ⟨w6, hr6, hm6, ht6⟩ := hX5.g.put ke_str Tryz.underlying66 HN2.out HK.out (.agg #[])
  rw [g_set] at hm6
  obtain ⟨hX6, hM6⟩ := hX5.set_g ht6 hm6
  have hk6 := (turned_blk ht6 (lt_of_block hk5) (by have := HLT.out _ (.inr (.inr (.inl rfl))); omega)).trans hk5
  have HS5 := hide (And.intro hX5.cells.2.1 (show RBx w.heap.size 43 r a c _ from hk5).c11)
  have HS6 := hide (And.intro hX6.cells.2.1 (show RBx w.heap.size 43 r a c _ from hk6).c11)
  have HR6 := hide hr6
  have HX6 : Hid (IxAt B w6 I (n + 2) (X.del r.k)) := hX6
  have HM6 := hide (hM5.trans hM6)
  have HWD := hide hW3
  have HWE := hide hW5
  clear hbd2 hW3 hbd hX3 hk3 hM3 hr4 hm4 ht4 hX4 hM4 hk4 hM4' hW5 hbd5 hX5 hk5 hM5 hr6 hm6 ht6 hX6 hM6 hk6 c0 c11
  go_upto_region 2 with fail
  refine wp_region_noPanic ?_
  refine wp_region_held_drew (S := fun w' => w'.cell? ⟨I.xb, 0, none⟩ = some (.map (some I.mt)) ∧ w'.cell? ⟨w.heap.size, 11, none⟩ = some (.string r.k)) (by kernel_rfl) (by rw [← HWD.out]; exact HS2.out) (fun hHeld => ?_)
  rw [← HWD.out] at hHeld ⊢
  refine wpAnyH_take (i := 0) (v := ?v1) rfl (by kernel_rfl) (by kernel_rfl) (by kernel_rfl) (fun _ _ _ h => h) (Or.inl ⟨by rfl, ?hy1⟩) hHeld ?rest1
  case hy1 => (intro w' hSw; obtain ⟨s0, s1⟩ := hSw; go_simp; try with_reducible rfl)
  try simp [Act.put]
  refine wpAnyH_take (i := 1) (v := ?v2) rfl (by kernel_rfl) (by kernel_rfl) (by kernel_rfl) (fun _ _ _ h => h) (Or.inl ⟨by rfl, ?hy2⟩) hHeld ?rest2
  case hy2 => (intro w' hSw; obtain ⟨s0, s1⟩ := hSw; go_simp; try with_reducible rfl)
  try simp [Act.put]
  refine wpAnyH_take (i := 2) (v := ?v3) rfl (by kernel_rfl) (by kernel_rfl) (by kernel_rfl) (fun _ _ _ h => h) (Or.inl ⟨by rfl, ?hy3⟩) hHeld ?rest3
  case hy3 => (intro w' hSw; obtain ⟨s0, s1⟩ := hSw; go_simp; try with_reducible rfl)
  try simp [Act.put]
  refine wpAnyH_take (i := 3) (v := ?v4) rfl (by kernel_rfl) (by kernel_rfl) (by kernel_rfl) (fun _ _ _ h => h) (Or.inl ⟨by rfl, ?hy4⟩) hHeld ?rest4
  case hy4 => (intro w' hSw; obtain ⟨s0, s1⟩ := hSw; go_simp; try with_reducible rfl)
  try simp [Act.put]
  refine wpAnyH_take (i := 4) (v := ?v5) rfl (by kernel_rfl) (by kernel_rfl) (by kernel_rfl) (fun _ _ _ h => h) (Or.inl ⟨by rfl, ?hy5⟩) hHeld ?rest5
  case hy5 => (intro w' hSw; obtain ⟨s0, s1⟩ := hSw; go_simp; try with_reducible rfl)
  try simp [Act.put]
  refine wpAnyH_take (i := 5) (v := ?v6) rfl (by kernel_rfl) (by kernel_rfl) (by kernel_rfl) (fun _ _ _ h => h) (Or.inl ⟨by rfl, ?hy6⟩) hHeld ?rest6
  case hy6 => (intro w' hSw; obtain ⟨s0, s1⟩ := hSw; go_simp; try with_reducible rfl)
  try simp [Act.put]
  refine wpAnyH_ready (rs := [6]) (by kernel_rfl) (by simp) ?_
  refine AllReadyH.cons rfl (fun K hK => ?_) AllReadyH.nil
  rw [if_pos (by simp [Region.wanted])]
  refine opx_delete 65 9 (.tmp 17) (.tmp 19) rfl (.map (some I.mt)) (.string r.k) (by simp [Act.eval]) (by simp [Act.eval]) HR3.out ?_
  refine hK.out _ _ HS3.out (fun hHeld => ?_)
  clear hK K
  try simp [Act.put]
  refine wpAnyH_done (by kernel_rfl) (NoPanic.normal ?_) _
  go_upto_region 3 with fail
  refine wp_region_noPanic ?_
  refine wp_region_held_drew (S := fun w' => w'.cell? ⟨I.xb, 1, none⟩ = some (.map (some I.mg)) ∧ w'.cell? ⟨w.heap.size, 11, none⟩ = some (.string r.k)) (by kernel_rfl) (by rw [← HWE.out]; exact HS5.out) (fun hHeld => ?_)
  rw [← HWE.out] at hHeld ⊢
  refine wpAnyH_take (i := 0) (v := ?v101) rfl (by kernel_rfl) (by kernel_rfl) (by kernel_rfl) (fun _ _ _ h => h) (Or.inl ⟨by rfl, ?hy101⟩) hHeld ?rest101
  case hy101 => (intro w' hSw; obtain ⟨s0, s1⟩ := hSw; go_simp; try with_reducible rfl)
  try simp [Act.put]
  refine wpAnyH_take (i := 1) (v := ?v102) rfl (by kernel_rfl) (by kernel_rfl) (by kernel_rfl) (fun _ _ _ h => h) (Or.inl ⟨by rfl, ?hy102⟩) hHeld ?rest102
  case hy102 => (intro w' hSw; obtain ⟨s0, s1⟩ := hSw; go_simp; try with_reducible rfl)
  try simp [Act.put]
  refine wpAnyH_take (i := 2) (v := ?v103) rfl (by kernel_rfl) (by kernel_rfl) (by kernel_rfl) (fun _ _ _ h => h) (Or.inl ⟨by rfl, ?hy103⟩) hHeld ?rest103
  case hy103 => (intro w' hSw; obtain ⟨s0, s1⟩ := hSw; go_simp; try with_reducible rfl)
  try simp [Act.put]
  refine wpAnyH_take (i := 3) (v := ?v104) rfl (by kernel_rfl) (by kernel_rfl) (by kernel_rfl) (fun _ _ _ h => h) (Or.inl ⟨by rfl, ?hy104⟩) hHeld ?rest104
  case hy104 => (intro w' hSw; obtain ⟨s0, s1⟩ := hSw; go_simp; try with_reducible rfl)
  try simp [Act.put]
  refine wpAnyH_take (i := 4) (v := ?v105) rfl (by kernel_rfl) (by kernel_rfl) (by kernel_rfl) (fun _ _ _ h => h) (Or.inl ⟨by rfl, ?hy105⟩) hHeld ?rest105
  case hy105 => (intro w' hSw; obtain ⟨s0, s1⟩ := hSw; go_simp; try with_reducible rfl)
  try simp [Act.put]
  refine wpAnyH_take (i := 5) (v := ?v106) rfl (by kernel_rfl) (by kernel_rfl) (by kernel_rfl) (fun _ _ _ h => h) (Or.inl ⟨by rfl, ?hy106⟩) hHeld ?rest106
  case hy106 => (intro w' hSw; obtain ⟨s0, s1⟩ := hSw; go_simp; try with_reducible rfl)
  try simp [Act.put]
  refine wpAnyH_take (i := 6) (v := ?v107) rfl (by kernel_rfl) (by kernel_rfl) (by kernel_rfl) (fun _ _ _ h => h) (Or.inl ⟨by rfl, ?hy107⟩) hHeld ?rest107
  case hy107 => (intro w' hSw; obtain ⟨s0, s1⟩ := hSw; go_simp; try with_reducible rfl)
  try simp [Act.put]
  refine wpAnyH_ready (rs := [7]) (by kernel_rfl) (by simp) ?_
  refine AllReadyH.cons rfl (fun K hK => ?_) AllReadyH.nil
  rw [if_pos (by simp [Region.wanted])]
  refine opw_mupd 66 (.tmp 23) (.tmp 25) (.tmp 26) rfl (.map (some I.mg)) (.string r.k) (.agg #[]) (by simp [Act.eval]) (by simp [Act.eval]) (by simp [Act.eval]) HR6.out ?_
  refine hK.out _ _ HS6.out (fun hHeld => ?_)
  clear hK K
  try simp [Act.put]
  refine wpAnyH_done (by kernel_rfl) (NoPanic.normal ?_) _
  clear HS2 HS3 HS5 HS6 HR3 HR6 HWD HWE HRW HX HM
  go_wp2_with fail
  refine (ix_keysIn HX6.out (by have := HN.out; omega) id).mono ?_
  rintro e w7 ⟨v, ks, rfl, hown, hlen, hnd, hsp, hb7⟩
  obtain ⟨a7, c7, rfl, hc7, _⟩ := own_slice hown
  have HX7 := hide (HX6.out.below hb7)
  have HM7 := hide (HM6.out.trans (Mds.of_below (B := B) I.own hb7 HX6.out.Bw))
  have hlv := keys_liv (X := X.del r.k) (fun k e hk => by
    have hk : tset X.T r.k none k = some e := hk
    unfold tset at hk
    split at hk
    · cases hk
    · exact (HOK.out k e hk).1) hsp (fun x _ => list_bytes x)
  have HLV := hide hlv
  clear hown hlen hnd hsp hb7 hc7 hlv
  by_cases hL : livT (X.del r.k).T id
  · have hp := HLV.out.2 hL
    have hd : decide ((0 : Int) < (ks.length : Int)) = true := by rw [decide_eq_true_eq]; omega
    have HRO : Hid (X.remO r.k = [] ∧ X.rem r.k = X.del r.k) := by
      unfold Hid FX.remO FX.rem
      rw [HVO2.out, if_pos hL, if_pos hL]
      exact ⟨rfl, rfl⟩
    clear hL
    go_wp2_with fail
    try go_ret
    refine ⟨none, 0, by rw [HRO.out.1]; rfl, by rw [HRO.out.1]; exact Nat.le_refl _, ⟨.inl HRO.out.1, vot_none _⟩, by rw [HRO.out.2]; exact HX7.out.mono (by omega), HM7.out⟩
  · have hp : ¬ 0 < ks.length := fun q => hL (HLV.out.1 q)
    have hd : decide ((0 : Int) < (ks.length : Int)) = false := by rw [decide_eq_false_iff_not]; omega
    have HRO : Hid (X.remO r.k = [X.vol id] ∧ X.rem r.k = (X.del r.k).end id) := by
      unfold Hid FX.remO FX.rem
      rw [HVO2.out, if_neg hL, if_neg hL]
      exact ⟨rfl, rfl⟩
    rw [HVO2.out] at HID
    clear hL
    go_wp2_with fail
    refine (ix_end HX7.out id HID.out).mono ?_
    rintro e w8 ⟨⟨⟨q1, q2, q3, ql⟩, qa, qc⟩, rfl, hd8, hlk, hX8, hM8⟩
    obtain ⟨m, hmm⟩ : ∃ m, ql.length = m := ⟨_, rfl⟩
    simp only [voF, hmm]
    have HX8 := hide hX8
    have HM8 := hide (HM7.out.trans hM8)
    have HL8 := hide hlk
    have HD8 := hide hd8
    have HMM := hide hmm
    clear hX8 hM8 hlk hd8 hmm
    go_wp2_with fail
    try go_ret
    have hb9 : Below w8.heap.size w8 (w8.alloc (.cells #[.int .i64 q1, .int .i64 q2, .int .i64 q3, .slice qa m qc] 36)) := (Below.refl _ _).alloc (Nat.le_refl _) _
    have e : X.vol id = ⟨q1, q2, q3, ql⟩ := HD8.out.symm
    refine ⟨some ⟨w8.heap.size, 0, none⟩, 1, by rw [HRO.out.1]; rfl, by rw [HRO.out.1]; exact Nat.le_refl _, ?_, by rw [HRO.out.2]; exact HX8.out.below hb9, HM8.out.trans (Mds.of_below (B := B) I.own hb9 HX8.out.Bw)⟩
    rw [HRO.out.1, e]
    exact ⟨one_vos HMM.out HL8.out, vot_new _ _⟩
end Go.Proofs.YtonhmihmnkicdaaGreat
namespace Go.Proofs.YtonhmihmnkicdaaGreat
open Go.RowKit Go.Maps
set_option linter.unusedVariables false
theorem own_tight {w : World} {k : TypeId} {b n m : Nat} {D : DataW Value} (h : w.ownsMap Tryz.prog k hv b n D) (hm : size D ≤ m) : w.ownsMap Tryz.prog k hv b m D := by
  obtain ⟨es, clock, hb, F, hs, rfl⟩ := h
  exact ⟨es, clock, hb, F, by simpa [Maps.size, length_sorted] using hm, rfl⟩
theorem MAt.put_old {w : World} {k : TypeId} {b n : Nat} {α : Type} [DecidableEq α] {kv : α → Value} {kf : α → Lit} {ok : α → Prop} {f : α → Option Value} (h : MAt w k b n kf ok f) (K : KE k kv kf ok) {t e : TypeId} (ht : Tryz.prog.underlying t = some (.map k e)) (hn : n < maxLen) {a : α} (ha : ok a) {u : Value} (hf : f a = some u) (v : Value) :
    ∃ w', (Instr.mapUpdate t (.map (some b)) (kv a) v).run Tryz.prog w = .ok () w' ∧ MAt w' k b n kf ok (mset f a (some v)) ∧ w.mapTurned w' b := by
  obtain ⟨D, h1, h2⟩ := h
  obtain ⟨w', hr, h3, h4⟩ := h1.store K.keyed ht hn (K.key a ha) (val := v) (d := .held v) (ps := []) rfl
  have hhas : Maps.has D (kf a) = true := by
    cases hh : Maps.has D (kf a) with
    | true => rfl
    | false =>
      have q := h2 a ha
      rw [Maps.atKey_of_not_has hh, hf] at q
      cases q
  have htidy : Tidy D := by
    obtain ⟨es, hD, hpw, _⟩ := h1.entries K.keyed
    exact ⟨es, hD, hpw⟩
  have hsz : size (D.put (kf a) (.held v)) ≤ n := by
    rw [size_put htidy, if_pos hhas]
    exact h1.size_le
  refine ⟨w', hr, ⟨_, own_tight h3 hsz, fun x hx => ?_⟩, h4⟩
  unfold mset
  by_cases e : x = a
  · subst e
    rw [if_pos rfl]
    exact Maps.atKey_put_same h1.isMap (K.keyed.key (K.key x ha)) _ _
  · rw [if_neg e, Maps.atKey_put_other (fun q => e (K.inj' hx ha q))]
    exact h2 x hx
theorem IxAt.set_t0 {B n : Nat} {w w' : World} {I : Ix} {X : FX} (h : IxAt B w I n X) (ht : w.mapTurned w' I.mt) {T2 : ByteArray → Option En} (hm : MAt w' 9 I.mt n lStr okS (fun k => (T2 k).map enV)) : IxAt B w' I n ⟨T2, X.G, X.V, X.H⟩ ∧ Mds B I.own w I.own w' := by
  obtain ⟨m, hb⟩ := h.turn (.inl rfl) ht
  obtain ⟨⟨n1, n2, n3⟩, ⟨n4, n5⟩, n6⟩ := h.ne
  exact ⟨⟨(hb _ (h.lt (.inl rfl)) (h.nex (.inl rfl))).trans h.box, hm, h.g.keep (hb _ h.g.lt (fun e => n1 e.symm)), h.v.keep m (hb _ (h.lt (.inr (.inr (.inr (.inl rfl))))) (fun e => n2 e.symm)), h.i.keep (hb _ h.i.lt (fun e => n3 e.symm)), h.low, h.ne⟩, m⟩
end Go.Proofs.YtonhmihmnkicdaaGreat
namespace Go.Proofs.YtonhmihmnkicdaaGreat
open Go.RowKit
set_option linter.unusedVariables false
def vInt : Value → Int | .int _ q => q | _ => 0
/-- the entries of the first keys are carried -/
def carT (T : ByteArray → Option En) (ks : List (List UInt8)) (t d : Int) : ByteArray → Option En := fun k => if k.data.toList ∈ ks then (T k).map fun e => ⟨e.key, t, e.off + d, e.len, e.dig⟩ else T k
theorem carT_nil (T : ByteArray → Option En) (t d : Int) : carT T [] t d = T := by funext k; simp [carT]
theorem carT_snoc (T : ByteArray → Option En) (ks : List (List UInt8)) (t d : Int) (x : List UInt8) (e : En) (hx : x ∉ ks) (hT : T (bk x) = some e) : carT T (ks ++ [x]) t d = tset (carT T ks t d) (bk x) (some ⟨e.key, t, e.off + d, e.len, e.dig⟩) := by
  funext k
  unfold tset
  by_cases hk : k = bk x
  · subst hk
    rw [if_pos rfl]
    unfold carT
    have : (bk x).data.toList = x := by simp [bk]
    rw [this, if_pos (by simp), hT]
    rfl
  · rw [if_neg hk]
    unfold carT
    have hne : k.data.toList ≠ x := fun e => hk (by rw [← e, bk_of])
    by_cases hm : k.data.toList ∈ ks
    · rw [if_pos (by simp [hm]), if_pos hm]
    · rw [if_neg (by simp [hm, hne]), if_neg hm]
theorem carT_all {T : ByteArray → Option En} {ks : List (List UInt8)} {f t d : Int} (hok : ∀ k e, T k = some e → okS k) (h : ∀ k : ByteArray, k.data.toList ∈ ks ↔ okS k ∧ ∃ e, T k = some e ∧ e.vol = f) : carT T ks t d = carryT T f t d := by
  funext k
  unfold carT carryT
  by_cases hm : k.data.toList ∈ ks
  · obtain ⟨_, e, h1, h2⟩ := (h k).1 hm
    rw [if_pos hm, h1]
    simp [h2]
  · rw [if_neg hm]
    cases hT : T k with
    | none => rfl
    | some e =>
      have : ¬ e.vol = f := fun q => hm ((h k).2 ⟨hok k e hT, e, hT, q⟩)
      simp [this]
theorem ecs {W : World} {b : Nat} {v0 v1 v2 v3 v4 : Value} (h : W.heap[b]? = some (.cells #[v0, v1, v2, v3, v4] 38 (0, 0))) : W.cell? ⟨b, 0, none⟩ = some v0 ∧ W.cell? ⟨b, 1, none⟩ = some v1 ∧ W.cell? ⟨b, 2, none⟩ = some v2 ∧ W.cell? ⟨b, 3, none⟩ = some v3 ∧ W.cell? ⟨b, 4, none⟩ = some v4 :=
  ⟨cell_of_block h, cell_of_block h, cell_of_block h, cell_of_block h, cell_of_block h⟩
theorem take_nodup {ks : List (List UInt8)} (hnd : ks.Nodup) {k : Nat} {x : List UInt8} (hx : ks[k]? = some x) : x ∉ ks.take k := by
  obtain ⟨hlt, rfl⟩ := List.getElem?_eq_some_iff.1 hx
  intro hm
  obtain ⟨j, hj, he⟩ := List.getElem_of_mem hm
  rw [List.length_take] at hj
  rw [List.getElem_take] at he
  have := List.pairwise_iff_getElem.1 hnd j k (by omega) hlt (by omega)
  exact this he
set_option maxRecDepth 100000 in
set_option maxHeartbeats 8000000 in
theorem ix_carry {B n : Nat} {I : Ix} {X : FX} {w : World} (h : IxAt B w I n X) (hn : n ≤ 900000) (hok : ∀ k e, X.T k = some e → okS k ∧ 0 ≤ e.off ∧ e.off ≤ 100000) (f t d : Int) (hd : 0 ≤ d ∧ d ≤ 100000) : Calls Tryz.prog 72 #[.pointer (some ⟨I.xb, 0, none⟩), .int .i64 f, .int .i64 t, .int .i64 d] w fun e w' => e = .returned (.tuple #[]) ∧ IxAt B w' I n (X.carry f t d) ∧ Mds B I.own w I.own w' := by
  have HX := hide h
  have HN := hide hn
  have HN1 : Hid (n < maxLen) := by unfold Hid maxLen; omega
  have HOK := hide hok
  have HD := hide hd
  clear h hn hok hd
  go_enter Tryz.func72, Tryz.ntmps72
  go_wp2_with fail
  refine (ix_keysIn HX.out (by have := HN.out; omega) f).mono ?_
  rintro e w1 ⟨v, ks, rfl, hown, hlen, hnd, hsp, hb⟩
  obtain ⟨a1, c1, rfl, _, _⟩ := own_slice hown
  have HX1 := hide (HX.out.below hb)
  have HM1 := hide (Mds.of_below (B := B) I.own hb HX.out.Bw)
  have HOW := hide hown
  have HND := hide hnd
  have HSP := hide hsp
  have HLB := hide (fun i (hi : I.own i) => HX.out.lt hi)
  have hm0 : ∃ m, ks.length = m := ⟨_, rfl⟩
  obtain ⟨m, hm⟩ := hm0
  have HMM := hide hm
  have hmm : m ≤ 1000000 := by have := HN.out; omega
  rw [hm]
  clear hown hlen hnd hsp hb hm
  go_wp2_with fail
  go_loopw [15] (fun y wr => ∃ k : Nat, k ≤ m ∧ y = .int .i64 k ∧ IxAt B wr I n ⟨carT X.T (ks.take k) t d, X.G, X.V, X.H⟩ ∧ Mds B I.own w1 I.own wr) (fun y _ => m - (vInt y).toNat)
  case atStart => exact ⟨0, by omega, rfl, by rw [List.take_zero, carT_nil]; exact HX1.out, Mds.refl _ _ _⟩
  case round =>
    obtain ⟨k, hk, rfl, hXk, hMk⟩ := hrel
    by_cases hlt : k < m
    · have hdk : decide ((k : Int) < (m : Int)) = true := by simp; omega
      obtain ⟨x, hx⟩ : ∃ x, ks[k]? = some x := ⟨_, List.getElem?_eq_getElem (by have := HMM.out; omega)⟩
      have hrow := row_keep HOW.out (W' := wr) fun q hq => hMk.blk q (own_at HOW.out hq).2.1 (fun ho => by have := HLB.out q ho; have := (own_at HOW.out hq).1; omega)
      have hmem : x ∈ ks := List.mem_of_getElem? hx
      obtain ⟨kb, rfl⟩ := list_bytes x
      obtain ⟨hokk, e, hT, hev⟩ := (HSP.out kb).1 hmem
      have hnot := take_nodup HND.out hx
      have hat : carT X.T (ks.take k) t d kb = some e := by unfold carT; rw [if_neg hnot]; exact hT
      have hgo := HOK.out kb e hT
      have HSN := hide (carT_snoc X.T (ks.take k) t d kb.data.toList e hnot (by rw [bk_of]; exact hT))
      obtain ⟨e1, e2, e3, e4, e5⟩ := e
      rcases hrow.2 with ⟨_, h0⟩ | ⟨g, cap, cur, hv, _⟩
      · have := HMM.out; omega
      · cases hv
        have hcell : wr.cell? ⟨g, k, none⟩ = some (.string kb) := by
          rw [hrow.cellAt k (by have := HMM.out; omega), List.getElem?_map, hx]
          simp [encStr]
        have hlk : (Instr.lookup 65 (.map (some I.mt)) (.string kb) false).run Tryz.prog wr = .ok (.agg #[.string e1, .int .i64 e2, .int .i64 e3, .int .i64 e4, .string e5]) wr := by
          have := hXk.t.look1 ke_str Tryz.underlying65 (en_zero wr) hokk
          rw [en_get] at this
          rw [show (⟨carT X.T (ks.take k) t d, X.G, X.V, X.H⟩ : FX).T kb = some ⟨e1, e2, e3, e4, e5⟩ from hat] at this
          exact this
        have c0 := hXk.cells.1
        have hdi : (k : Int) < (m : Int) := by omega
        have hd0 : (0 : Int) ≤ (k : Int) := by omega
        have hwr : IntKind.i64.wrap (e3 + d) = e3 + d := by have := HD.out; rw [IntKind.wrap_i64]; simp only at hgo; omega
        have hze := en_zero
        have HXk := hide hXk
        have HMk := hide hMk
        have HOKK := hide hokk
        have HAT := hide hat
        have HX := hide hx
        clear hXk hMk hrow hmem hT hev hnot hat hgo hokk hx
        go_upto_region 6 with fail
        have hb4 : Below wr.heap.size wr (wr.alloc (.cells #[.string e1, .int .i64 t, .int .i64 (e3 + d), .int .i64 e4, .string e5] 38)) := (Below.refl _ _).alloc (Nat.le_refl _) _
        have hk4 : (wr.alloc (.cells #[.string e1, .int .i64 t, .int .i64 (e3 + d), .int .i64 e4, .string e5] 38)).heap[wr.heap.size]? = some (.cells #[.string e1, .int .i64 t, .int .i64 (e3 + d), .int .i64 e4, .string e5] 38 (0, 0)) := heap_alloc_new _ _
        generalize wr.alloc (.cells #[.string e1, .int .i64 t, .int .i64 (e3 + d), .int .i64 e4, .string e5] 38) = W4 at *
        obtain ⟨W5, hW5⟩ : ∃ W, W = W4.drew := ⟨_, rfl⟩
        have hb5 : Below wr.heap.size wr W5 := by rw [hW5]; exact hb4.drew
        have hk5 : W5.heap[wr.heap.size]? = some (.cells #[.string e1, .int .i64 t, .int .i64 (e3 + d), .int .i64 e4, .string e5] 38 (0, 0)) := by rw [hW5]; exact hk4
        have hX5 := HXk.out.below hb5
        have hM5 := HMk.out.trans (Mds.of_below (B := B) I.own hb5 HXk.out.Bw)
        obtain ⟨w6, hr6, hm6, ht6⟩ := hX5.t.put_old ke_str Tryz.underlying65 HN1.out HOKK.out (u := enV ⟨e1, e2, e3, e4, e5⟩) (by show (carT X.T (ks.take k) t d kb).map enV = _; rw [HAT.out]; rfl) (enV ⟨e1, t, e3 + d, e4, e5⟩)
        obtain ⟨hX6, hM6⟩ := hX5.set_t0 (T2 := tset (carT X.T (ks.take k) t d) kb (some ⟨e1, t, e3 + d, e4, e5⟩)) ht6 (by rw [← t_set]; exact hm6)
        have hk6 := (turned_blk ht6 (lt_of_block hk5) (by have := HXk.out.lt (.inr (.inl rfl)); omega)).trans hk5
        have HS5 := hide (And.intro hX5.cells.1 (ecs hk5))
        have HS6 := hide (And.intro hX6.cells.1 (ecs hk6))
        have HR6 := hide hr6
        have HX6 : Hid (IxAt B w6 I n ⟨carT X.T (ks.take (k + 1)) t d, X.G, X.V, X.H⟩) := by
          rw [List.take_add_one, HX.out]
          have e := HSN.out
          rw [bk_of] at e
          show IxAt B w6 I n ⟨carT X.T (ks.take k ++ [kb.data.toList]) t d, X.G, X.V, X.H⟩
          rw [e]
          exact hX6
        have HM6 := hide (hM5.trans hM6)
        have HWE := hide hW5
        clear hb4 hk4 hW5 hb5 hk5 hX5 hM5 hr6 hm6 ht6 hX6 hM6 hk6 hlk c0 hcell
        refine wp_region_noPanic ?_
        refine wp_region_held_drew (S := fun w' => w'.cell? ⟨I.xb, 0, none⟩ = some (.map (some I.mt)) ∧ w'.cell? ⟨wr.heap.size, 0, none⟩ = some (.string e1) ∧ w'.cell? ⟨wr.heap.size, 1, none⟩ = some (.int .i64 t) ∧ w'.cell? ⟨wr.heap.size, 2, none⟩ = some (.int .i64 (e3 + d)) ∧ w'.cell? ⟨wr.heap.size, 3, none⟩ = some (.int .i64 e4) ∧ w'.cell? ⟨wr.heap.size, 4, none⟩ = some (.string e5)) (by kernel_rfl) (by rw [← HWE.out]; exact HS5.out) (fun hHeld => ?_)
        rw [← HWE.out] at hHeld ⊢
        refine wpAnyH_take (i := 0) (v := ?v1) rfl (by kernel_rfl) (by kernel_rfl) (by kernel_rfl) (fun _ _ _ h => h) (Or.inl ⟨by rfl, ?hy1⟩) hHeld ?rest1
        case hy1 => (intro w' hSw; obtain ⟨s0, s1, s2, s3, s4, s5⟩ := hSw; go_simp; try with_reducible rfl)
        try simp [Act.put]
        refine wpAnyH_take (i := 1) (v := ?v2) rfl (by kernel_rfl) (by kernel_rfl) (by kernel_rfl) (fun _ _ _ h => h) (Or.inl ⟨by rfl, ?hy2⟩) hHeld ?rest2
        case hy2 => (intro w' hSw; obtain ⟨s0, s1, s2, s3, s4, s5⟩ := hSw; go_simp; try with_reducible rfl)
        try simp [Act.put]
        refine wpAnyH_take (i := 2) (v := ?v3) rfl (by kernel_rfl) (by kernel_rfl) (by kernel_rfl) (fun _ _ _ h => h) (Or.inl ⟨by rfl, ?hy3⟩) hHeld ?rest3
        case hy3 => (intro w' hSw; obtain ⟨s0, s1, s2, s3, s4, s5⟩ := hSw; go_simp; try with_reducible rfl)
        try simp [Act.put]
        refine wpAnyH_take (i := 3) (v := ?v4) rfl (by kernel_rfl) (by kernel_rfl) (by kernel_rfl) (fun _ _ _ h => h) (Or.inl ⟨by rfl, ?hy4⟩) hHeld ?rest4
        case hy4 => (intro w' hSw; obtain ⟨s0, s1, s2, s3, s4, s5⟩ := hSw; go_simp; try with_reducible rfl)
        try simp [Act.put]
        refine wpAnyH_take (i := 4) (v := ?v5) rfl (by kernel_rfl) (by kernel_rfl) (by kernel_rfl) (fun _ _ _ h => h) (Or.inl ⟨by rfl, ?hy5⟩) hHeld ?rest5
        case hy5 => (intro w' hSw; obtain ⟨s0, s1, s2, s3, s4, s5⟩ := hSw; go_simp; try with_reducible rfl)
        try simp [Act.put]
        refine wpAnyH_ready (rs := [5]) (by kernel_rfl) (by simp) ?_
        refine AllReadyH.cons rfl (fun K hK => ?_) AllReadyH.nil
        obtain ⟨s0, s1, s2, s3, s4, s5⟩ := HS5.out
        go_simp
        refine hK.out _ _ HS5.out (fun hHeld => ?_)
        clear hK K
        try simp [Act.put]
        refine wpAnyH_ready (rs := [6]) (by kernel_rfl) (by simp) ?_
        refine AllReadyH.cons rfl (fun K hK => ?_) AllReadyH.nil
        rw [if_pos (by simp [Region.wanted])]
        refine opw_mupd 65 (.tmp 35) (.tmp 36) (.tmp 37) rfl (.map (some I.mt)) (.string kb) (enV ⟨e1, t, e3 + d, e4, e5⟩) (by simp [Act.eval]) (by simp [Act.eval]) (by simp [Act.eval, enV]) HR6.out ?_
        refine hK.out _ _ HS6.out (fun hHeld => ?_)
        clear hK K
        try simp [Act.put]
        refine wpAnyH_done (by kernel_rfl) (NoPanic.normal ?_) _
        go_wp2_with fail
        exact ⟨⟨k + 1, by omega, by go_num, HX6.out, HM6.out⟩, by simp [vInt]; omega⟩
    · have hkm : k = m := by omega
      subst hkm
      have hdk : decide ((k : Int) < (k : Int)) = false := by simp
      have HF : Hid (IxAt B wr I n (X.carry f t d)) := by
        unfold Hid
        have e := hXk
        rw [List.take_of_length_le (by have := HMM.out; omega), carT_all (fun k e hk => (HOK.out k e hk).1) HSP.out] at e
        exact e
      have HMF := hide (HM1.out.trans hMk)
      clear hXk hMk
      go_wp2_with fail
      go_end0
      exact ⟨rfl, HF.out, HMF.out⟩
end Go.Proofs.YtonhmihmnkicdaaGreat
