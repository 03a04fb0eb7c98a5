/- What holds of every index that was built of records: each entry lies within its volume, each volume lives and was. What Apply of the index does. What Build of the index answers. (Written by genxo.py.) -/
import Derived.Test.YtonhmihmnkicdaaGreatIxMove
import Derived.Test.YtonhmihmnkicdaaGreatIxGet
import Derived.Test.YtonhmihmnkicdaaGreatIxMerge
import Derived.Handy
import Derived.Test.YtonhmihmnkicdaaGreatRpMem
namespace Go.Proofs.YtonhmihmnkicdaaGreat
open Go.RowKit
set_option linter.unusedVariables false
structure FX.Inv (X : FX) : Prop where
  t : ∀ k e, X.T k = some e → okS k ∧ e.key = k ∧ 0 ≤ e.off ∧ 0 ≤ e.len ∧ X.G k = false ∧ ∃ v, X.V e.vol = some v ∧ e.off + e.len ≤ v.len
  v : ∀ id v, X.V id = some v → v.id = id ∧ X.H id = true ∧ 0 ≤ v.len ∧ v.len ≤ 384 ∧ v.ls.length = 9 ∧ livT X.T id
  h : ∀ id, X.H id = true → numR id
theorem inv_nil : FX.nil.Inv := ⟨fun k e h => (by cases h), fun id v h => (by cases h), fun id h => (by cases h)⟩
theorem known_false {X : FX} {k : ByteArray} (h : X.known k = false) : X.T k = none ∧ X.G k = false := by
  unfold FX.known at h
  rw [Bool.or_eq_false_iff] at h
  refine ⟨?_, h.2⟩
  cases hT : X.T k with
  | none => rfl
  | some e => rw [hT] at h; simp at h
/-- what a record must be to be applied -/
theorem may_zero {X : FX} {r : Rc} (h : X.may r = 0) : ckR r = 0 ∧ (r.kind = 0 → X.putE r = 0) ∧ (r.kind = 1 → X.getE r.k = 0) ∧ (r.kind = 2 → X.movE r = 0) ∧ (r.kind = 3 → X.mrgE r = 0) := by
  unfold FX.may at h
  by_cases hc : ckR r = 0
  · rw [if_neg (by simpa using hc)] at h
    refine ⟨hc, fun k => ?_, fun k => ?_, fun k => ?_, fun k => ?_⟩ <;> simpa [k] using h
  · rw [if_pos hc] at h; exact absurd h hc
theorem put_zero {X : FX} {r : Rc} (h : X.putE r = 0) : X.known r.ek = false ∧ X.H r.vid = false := by
  unfold FX.putE at h
  cases h1 : X.known r.ek <;> cases h2 : X.H r.vid <;> simp [h1, h2] at h ⊢
theorem get_zero {X : FX} {k : ByteArray} (h : X.getE k = 0) : ∃ e, X.T k = some e := by
  unfold FX.getE at h
  cases hT : X.T k with
  | none => simp [hT] at h
  | some e => exact ⟨e, rfl⟩
theorem mov_zero {X : FX} {r : Rc} (h : X.movE r = 0) : ∃ o, X.V r.vid = some o ∧ o.gen < r.vgen ∧ r.vlen = o.len := by
  unfold FX.movE at h
  cases hV : X.V r.vid with
  | none => simp [hV] at h
  | some o =>
    simp only [hV] at h
    refine ⟨o, rfl, ?_⟩
    by_cases hc : r.vgen ≤ o.gen ∨ r.vlen ≠ o.len
    · rw [if_pos hc] at h; cases h
    · omega
theorem mrg_zero {X : FX} {r : Rc} (h : X.mrgE r = 0) : ∃ a b, X.V r.f = some a ∧ X.V r.t = some b ∧ X.H r.vid = false ∧ r.vlen = a.len + b.len := by
  unfold FX.mrgE at h
  cases hf : X.V r.f with
  | none => simp [hf] at h
  | some a =>
    cases ht : X.V r.t with
    | none => simp [hf, ht] at h
    | some b =>
      simp only [hf, ht] at h
      cases hH : X.H r.vid with
      | true => simp [hH] at h
      | false =>
        rw [hH] at h
        refine ⟨a, b, rfl, rfl, rfl, ?_⟩
        by_cases hl : r.vlen = a.len + b.len
        · exact hl
        · simp [hl] at h
theorem inv_put {X : FX} (h : X.Inv) {r : Rc} (hok : okS r.ek) (hk : r.kind = 0) (hm : X.may r = 0) : (X.put r).Inv := by
  obtain ⟨hc, hp, _⟩ := may_zero hm
  obtain ⟨hkn, hH⟩ := put_zero (hp hk)
  obtain ⟨hT, hG⟩ := known_false hkn
  obtain ⟨hvo, hko, hin⟩ := (ckK_0 hk).1 (ckR_zero.1 hc).2.1
  obtain ⟨i1, i2, i3, i4, i5⟩ := hin
  obtain ⟨v1, v2, v3, v4, v5⟩ := hvo
  have hne : ∀ id v, X.V id = some v → id ≠ r.vid := fun id v hv e => by
    have := (h.v id v hv).2.1
    rw [e, hH] at this; cases this
  refine ⟨fun k e he => ?_, fun id v hv => ?_, fun id hid => ?_⟩
  · have he : tset X.T r.ek (some (rEn r)) k = some e := he
    unfold tset at he
    by_cases q : k = r.ek
    · rw [if_pos q] at he
      cases he
      subst q
      refine ⟨hok, rfl, i2, i3, hG, rVD r, ?_, ?_⟩
      · show vset X.V r.vid (some (rVD r)) r.ev = _
        rw [i1]; simp [vset]
      · show r.eo + r.el ≤ r.vlen
        omega
    · rw [if_neg q] at he
      obtain ⟨a1, a2, a3, a4, a5, v, a6, a7⟩ := h.t k e he
      refine ⟨a1, a2, a3, a4, a5, v, ?_, a7⟩
      show vset X.V r.vid (some (rVD r)) e.vol = _
      unfold vset
      rw [if_neg (hne _ _ a6)]
      exact a6
  · have hv : vset X.V r.vid (some (rVD r)) id = some v := hv
    unfold vset at hv
    by_cases q : id = r.vid
    · rw [if_pos q] at hv
      cases hv
      subst q
      refine ⟨rfl, ?_, v3.1, v3.2, v4, r.ek, rEn r, ?_, i1⟩
      · show hset X.H r.vid r.vid = true; simp [hset]
      · show tset X.T r.ek (some (rEn r)) r.ek = _; simp [tset]
    · rw [if_neg q] at hv
      obtain ⟨a1, a2, a3, a4, a5, k, e, a6, a7⟩ := h.v id v hv
      refine ⟨a1, ?_, a3, a4, a5, k, e, ?_, a7⟩
      · show hset X.H r.vid id = true; unfold hset; rw [if_neg q]; exact a2
      · show tset X.T r.ek (some (rEn r)) k = _
        unfold tset
        rw [if_neg (fun e => by rw [e, hT] at a6; cases a6)]
        exact a6
  · have hid : hset X.H r.vid id = true := hid
    unfold hset at hid
    by_cases q : id = r.vid
    · rw [q]; exact v1
    · rw [if_neg q] at hid; exact h.h id hid
theorem inv_rem {X : FX} (h : X.Inv) {k : ByteArray} (hm : X.getE k = 0) : (X.rem k).Inv := by
  obtain ⟨e0, he0⟩ := get_zero hm
  have hvo : X.volOf k = e0.vol := by unfold FX.volOf; rw [he0]; rfl
  have ht : ∀ k' e, tset X.T k none k' = some e → k' ≠ k ∧ X.T k' = some e := fun k' e q => by
    unfold tset at q
    by_cases hk : k' = k
    · rw [if_pos hk] at q; cases q
    · rw [if_neg hk] at q; exact ⟨hk, q⟩
  have htp : ∀ k' e, X.T k' = some e → k' ≠ k → tset X.T k none k' = some e := fun k' e q hk => by unfold tset; rw [if_neg hk]; exact q
  have hG : ∀ k', k' ≠ k → gset X.G k k' = X.G k' := fun k' hk => by unfold gset; rw [if_neg hk]
  unfold FX.rem
  rw [hvo]
  by_cases hL : livT (X.del k).T e0.vol
  · rw [if_pos hL]
    refine ⟨fun k' e he => ?_, fun id v hv => ?_, fun id hid => h.h id hid⟩
    · obtain ⟨q1, q2⟩ := ht k' e he
      obtain ⟨a1, a2, a3, a4, a5, a6⟩ := h.t k' e q2
      exact ⟨a1, a2, a3, a4, (hG k' q1).trans a5, a6⟩
    · obtain ⟨a1, a2, a3, a4, a5, k1, e1, a6, a7⟩ := h.v id v hv
      refine ⟨a1, a2, a3, a4, a5, ?_⟩
      by_cases q : k1 = k
      · rw [q, he0] at a6
        cases a6
        rw [← a7]
        exact hL
      · exact ⟨k1, e1, htp k1 e1 a6 q, a7⟩
  · rw [if_neg hL]
    refine ⟨fun k' e he => ?_, fun id v hv => ?_, fun id hid => h.h id hid⟩
    · obtain ⟨q1, q2⟩ := ht k' e he
      obtain ⟨a1, a2, a3, a4, a5, v, a6, a7⟩ := h.t k' e q2
      refine ⟨a1, a2, a3, a4, (hG k' q1).trans a5, v, ?_, a7⟩
      show vset X.V e0.vol none e.vol = _
      unfold vset
      rw [if_neg (fun q => hL ⟨k', e, he, q⟩)]
      exact a6
    · have hv : vset X.V e0.vol none id = some v := hv
      unfold vset at hv
      by_cases q : id = e0.vol
      · rw [if_pos q] at hv; cases hv
      · rw [if_neg q] at hv
        obtain ⟨a1, a2, a3, a4, a5, k1, e1, a6, a7⟩ := h.v id v hv
        refine ⟨a1, a2, a3, a4, a5, k1, e1, htp k1 e1 a6 (fun e => ?_), a7⟩
        rw [e, he0] at a6
        cases a6
        exact q a7.symm
theorem inv_mov {X : FX} (h : X.Inv) {r : Rc} (hk : r.kind = 2) (hm : X.may r = 0) : (X.mov r).Inv := by
  obtain ⟨hc, _, _, hp, _⟩ := may_zero hm
  obtain ⟨o, hV, hg, hl⟩ := mov_zero (hp hk)
  obtain ⟨v1, v2, v3, v4, v5⟩ := (ckK_2 hk).1 (ckR_zero.1 hc).2.1
  have hv' : ∀ id, id ≠ r.vid → (X.mov r).V id = X.V id := fun id q => by
    show vset (vset X.V r.vid none) r.vid (some (rVD r)) id = _
    unfold vset; rw [if_neg q, if_neg q]
  have hv0 : (X.mov r).V r.vid = some (rVD r) := by
    show vset (vset X.V r.vid none) r.vid (some (rVD r)) r.vid = _
    simp [vset]
  have hh : ∀ id, (X.mov r).H id = true ↔ X.H id = true ∨ id = r.vid := fun id => by
    show hset X.H r.vid id = true ↔ _
    unfold hset
    by_cases q : id = r.vid <;> simp [q]
  refine ⟨fun k e he => ?_, fun id v hv => ?_, fun id hid => ?_⟩
  · obtain ⟨a1, a2, a3, a4, a5, v, a6, a7⟩ := h.t k e he
    refine ⟨a1, a2, a3, a4, a5, ?_⟩
    by_cases q : e.vol = r.vid
    · rw [q] at a6 ⊢
      rw [hV] at a6
      cases a6
      exact ⟨_, hv0, by show _ ≤ r.vlen; rw [hl]; exact a7⟩
    · exact ⟨v, by rw [hv' _ q]; exact a6, a7⟩
  · by_cases q : id = r.vid
    · rw [q, hv0] at hv
      cases hv
      obtain ⟨a1, a2, a3, a4, a5, a6⟩ := h.v _ _ hV
      exact ⟨q.symm, (hh id).2 (.inr q), v3.1, v3.2, v4, by rw [q]; exact a6⟩
    · rw [hv' id q] at hv
      obtain ⟨a1, a2, a3, a4, a5, a6⟩ := h.v _ _ hv
      exact ⟨a1, (hh id).2 (.inl a2), a3, a4, a5, a6⟩
  · rcases (hh id).1 hid with q | q
    · exact h.h id q
    · rw [q]; exact v1
/-- behind merge: where an entry is -/
def mrgEn (e : En) (f t id d : Int) : En := if e.vol = f then ⟨e.key, id, e.off, e.len, e.dig⟩ else if e.vol = t then ⟨e.key, id, e.off + d, e.len, e.dig⟩ else e
theorem mrg_T {X : FX} {r : Rc} {a b : VD} (hf : X.V r.f = some a) (ht : X.V r.t = some b) (ha : a.id = r.f) (hb : b.id = r.t) (hne : r.f ≠ r.t) (h1 : r.vid ≠ r.t) (k : ByteArray) : (X.mrg r).T k = (X.T k).map fun e => mrgEn e r.f r.t r.vid a.len := by
  have e1 : X.vol r.f = a := by unfold FX.vol; rw [hf]; rfl
  have e2 : (X.end r.f).vol r.t = b := by
    show (vset X.V r.f none r.t).getD vd0 = b
    unfold vset; rw [if_neg (fun e => hne e.symm), ht]; rfl
  unfold FX.mrg
  rw [e1, e2, ha, hb]
  show carryT (carryT X.T r.f r.vid 0) r.t r.vid a.len k = _
  unfold carryT mrgEn
  cases X.T k with
  | none => rfl
  | some e =>
    simp only [Option.map_some]
    by_cases q : e.vol = r.f
    · rw [if_pos q, if_pos q]
      simp only
      rw [if_neg h1, Int.add_zero]
    · rw [if_neg q, if_neg q]
theorem mrg_V (X : FX) (r : Rc) (id : Int) : (X.mrg r).V id = if id = r.vid then some (rVD r) else if id = r.t then none else if id = r.f then none else X.V id := rfl
theorem inv_mrg {X : FX} (h : X.Inv) {r : Rc} (hk : r.kind = 3) (hm : X.may r = 0) : (X.mrg r).Inv := by
  obtain ⟨hc, _, _, _, hp⟩ := may_zero hm
  obtain ⟨a, b, hf, ht, hH, hl⟩ := mrg_zero (hp hk)
  obtain ⟨⟨v1, v2, v3, v4, v5⟩, n1, n2, hne⟩ := (ckK_3 hk).1 (ckR_zero.1 hc).2.1
  obtain ⟨a1, a2, a3, a4, a5, ka, ea, a6, a7⟩ := h.v _ _ hf
  obtain ⟨b1, b2, b3, b4, b5, b6⟩ := h.v _ _ ht
  have hvf : r.vid ≠ r.f := fun e => by rw [e, a2] at hH; cases hH
  have hvt : r.vid ≠ r.t := fun e => by rw [e, b2] at hH; cases hH
  have hT := mrg_T hf ht a1 b1 hne hvt
  have hh : ∀ id, (X.mrg r).H id = true ↔ X.H id = true ∨ id = r.vid := fun id => by
    show hset X.H r.vid id = true ↔ _
    unfold hset
    by_cases q : id = r.vid <;> simp [q]
  refine ⟨fun k e he => ?_, fun id v hv => ?_, fun id hid => ?_⟩
  · rw [hT k] at he
    cases hk0 : X.T k with
    | none => rw [hk0] at he; cases he
    | some e0 =>
      rw [hk0] at he
      simp only [Option.map_some, Option.some.injEq] at he
      obtain ⟨c1, c2, c3, c4, c5, v, c6, c7⟩ := h.t k e0 hk0
      unfold mrgEn at he
      by_cases q1 : e0.vol = r.f
      · rw [if_pos q1] at he
        subst he
        rw [q1, hf] at c6
        cases c6
        exact ⟨c1, c2, c3, c4, c5, rVD r, by rw [mrg_V, if_pos rfl], by show e0.off + e0.len ≤ r.vlen; omega⟩
      · rw [if_neg q1] at he
        by_cases q2 : e0.vol = r.t
        · rw [if_pos q2] at he
          subst he
          rw [q2, ht] at c6
          cases c6
          exact ⟨c1, c2, by simp only; omega, c4, c5, rVD r, by rw [mrg_V, if_pos rfl], by show e0.off + a.len + e0.len ≤ r.vlen; omega⟩
        · rw [if_neg q2] at he
          subst he
          have q3 : e0.vol ≠ r.vid := fun e => by
            have := (h.v _ _ c6).2.1
            rw [e, hH] at this; cases this
          exact ⟨c1, c2, c3, c4, c5, v, by rw [mrg_V, if_neg q3, if_neg q2, if_neg q1]; exact c6, c7⟩
  · rw [mrg_V] at hv
    by_cases q : id = r.vid
    · rw [if_pos q] at hv
      cases hv
      subst q
      refine ⟨rfl, (hh _).2 (.inr rfl), v3.1, v3.2, v4, ka, mrgEn ea r.f r.t r.vid a.len, by rw [hT ka, a6]; rfl, ?_⟩
      unfold mrgEn; rw [if_pos a7]
    · rw [if_neg q] at hv
      by_cases q2 : id = r.t
      · rw [if_pos q2] at hv; cases hv
      · rw [if_neg q2] at hv
        by_cases q1 : id = r.f
        · rw [if_pos q1] at hv; cases hv
        · rw [if_neg q1] at hv
          obtain ⟨c1, c2, c3, c4, c5, k, e, c6, c7⟩ := h.v _ _ hv
          refine ⟨c1, (hh _).2 (.inl c2), c3, c4, c5, k, e, ?_, c7⟩
          rw [hT k, c6]
          simp only [Option.map_some]
          unfold mrgEn
          rw [if_neg (by rw [c7]; exact q1), if_neg (by rw [c7]; exact q2)]
  · rcases (hh id).1 hid with q | q
    · exact h.h id q
    · rw [q]; exact v1
theorem inv_app {X : FX} (h : X.Inv) {r : Rc} (hok : okS r.ek) : (X.app r).Inv := by
  unfold FX.app
  by_cases hm : X.may r = 0
  · rw [if_pos hm]
    unfold FX.doR
    rcases kind_four (ckR_zero.1 (may_zero hm).1).1 with k | k | k | k
    · rw [if_pos k]; exact inv_put h hok k hm
    · rw [if_neg (by omega), if_pos k]; exact inv_rem h ((may_zero hm).2.2.1 k)
    · rw [if_neg (by omega), if_neg (by omega), if_pos k]; exact inv_mov h k hm
    · rw [if_neg (by omega), if_neg (by omega), if_neg (by omega)]; exact inv_mrg h k hm
  · rw [if_neg hm]; exact h
theorem inv_len {X : FX} (h : X.Inv) : ∀ id v, X.V id = some v → 0 ≤ v.len ∧ v.len ≤ 384 := fun id v hv => ⟨(h.v id v hv).2.2.1, (h.v id v hv).2.2.2.1⟩
theorem inv_rok {X : FX} (h : X.Inv) : ∀ k e, X.T k = some e → okS k ∧ OkI e.vol := fun k e he => by
  obtain ⟨a1, a2, a3, a4, a5, v, a6, a7⟩ := h.t k e he
  obtain ⟨n1, n2⟩ := h.h _ (h.v _ _ a6).2.1
  exact ⟨a1, by omega, by omega⟩
theorem inv_cok {X : FX} (h : X.Inv) : ∀ k e, X.T k = some e → okS k ∧ 0 ≤ e.off ∧ e.off ≤ 100000 := fun k e he => by
  obtain ⟨a1, a2, a3, a4, a5, v, a6, a7⟩ := h.t k e he
  have := (h.v _ _ a6).2.2.2.1
  exact ⟨a1, a3, by omega⟩
theorem inv_vol {X : FX} (h : X.Inv) (id : Int) : 0 ≤ (X.vol id).len ∧ (X.vol id).len ≤ 100000 := by
  unfold FX.vol
  cases hv : X.V id with
  | none => exact ⟨by decide, by decide⟩
  | some v => have := h.v id v hv; exact ⟨this.2.2.1, by show v.len ≤ _; omega⟩
theorem inv_ls {X : FX} (h : X.Inv) (id : Int) : (X.vol id).ls.length ≤ 9 := by
  unfold FX.vol
  cases hv : X.V id with
  | none => exact Nat.zero_le _
  | some v => have := h.v id v hv; show v.ls.length ≤ _; omega
end Go.Proofs.YtonhmihmnkicdaaGreat
namespace Go.Proofs.YtonhmihmnkicdaaGreat
open Go.RowKit
set_option linter.unusedVariables false
set_option maxRecDepth 100000 in
set_option maxHeartbeats 4000000 in
theorem ix_rdy {B n : Nat} {I : Ix} {X : FX} {w : World} (h : IxAt B w I n X) : Calls Tryz.prog 24 #[.pointer (some ⟨I.xb, 0, none⟩)] w fun e w' => e = .returned (.tuple #[]) ∧ w = w' := by
  obtain ⟨-, -, -, c3⟩ := h.cells
  have qM : ∀ (w : World), (binOp .neq 68 (.map (some I.mi)) (.map none)).run Tryz.prog w = .ok (.bool true) w := fun w => run_neq_map_nil w _ _ _ (some I.mi) Tryz.underlying68
  clear h
  go_enter Tryz.func24, Tryz.ntmps24
  go_wp2_with fail
  refine bodyPost_ret (results_none rfl _ _ _) rfl ?_
  exact ⟨rfl, rfl⟩
/-- what Apply leaves -/
def Applied (B : Nat) (I : Ix) (n : Nat) (X : FX) (r : Rc) (w : World) (e : Ending) (w' : World) : Prop :=
  ∃ sa sc, e = .returned (.tuple #[.slice sa (X.appO r).length sc, .int .i64 (X.may r)]) ∧ (X.appO r).length ≤ sc ∧ (VosAt B w' sa (X.appO r) ∧ VoT w' sa) ∧ IxAt B w' I (n + 4) (X.app r) ∧ Mds B I.own w I.own w'
theorem applied_refused {B n : Nat} {I : Ix} {X : FX} {r : Rc} {w w' : World} (hm : X.may r ≠ 0) (h : IxAt B w' I n X) (m : Mds B I.own w I.own w') : Applied B I n X r w (.returned (.tuple #[.slice none 0 0, .int .i64 (X.may r)])) w' := by
  have h1 : X.appO r = [] := by unfold FX.appO; rw [if_neg hm]
  have h2 : X.app r = X := by unfold FX.app; rw [if_neg hm]
  exact ⟨none, 0, by rw [h1]; rfl, by rw [h1]; exact Nat.le_refl _, ⟨.inl h1, vot_none _⟩, by rw [h2]; exact h.mono (by omega), m⟩
theorem applied_did {B n m : Nat} {I : Ix} {X Y : FX} {r : Rc} {w w' : World} {L : List VD} {sa : Option Addr} {sc l : Nat} (hm : X.may r = 0) (hO : X.doO r = L) (hY : X.doR r = Y) (hl : l = L.length) (hc : L.length ≤ sc) (hV : VosAt B w' sa L ∧ VoT w' sa) (h : IxAt B w' I m Y) (hmn : m ≤ n + 4) (md : Mds B I.own w I.own w') : Applied B I n X r w (.returned (.tuple #[.slice sa l sc, .int .i64 0])) w' := by
  have h1 : X.appO r = L := by unfold FX.appO; rw [if_pos hm, hO]
  have h2 : X.app r = Y := by unfold FX.app; rw [if_pos hm, hY]
  exact ⟨sa, sc, by rw [h1, hl, hm], by rw [h1]; exact hc, by rw [h1]; exact hV, by rw [h2]; exact h.mono hmn, md⟩
set_option maxRecDepth 100000 in
set_option maxHeartbeats 16000000 in
theorem ix_apply {B n : Nat} {I : Ix} {X : FX} {w : World} (h : IxAt B w I n X) (hi : X.Inv) (hn : n ≤ 800000) (r : Rc) (a : Option Addr) (c : Nat) (hS : LocsK B w a r.ls) (hfit : r.fit) (hin : r.ins) : Calls Tryz.prog 11 #[.pointer (some ⟨I.xb, 0, none⟩), .agg (rcs r a c)] w (Applied B I n X r w) := by
  have HRW := hide (rbx_new 43 r a c w)
  have hb1 : Below w.heap.size w (w.alloc (.cells (rcs r a c) 43)) := (Below.refl _ _).alloc (Nat.le_refl _) _
  have HM1 := hide (Mds.of_below (B := B) I.own hb1 h.Bw)
  have HX1 := hide (h.below hb1)
  have HC := hide (ix_may (h.below hb1) (inv_len hi) r a c (hS.below hb1).at hfit hin)
  have HL1 := hide (hS.below hb1)
  have HI := hide hi
  have HN := hide hn
  have HFL : Hid (r.ls.length ≤ 8796093022208) := by have := hfit.1; unfold Hid; omega
  have HIN := hide hin
  clear h hb1 hi hn hS hfit hin
  go_enter Tryz.func11, Tryz.ntmps11
  go_upto_region 1 with fail
  generalize w.alloc (.cells (rcs r a c) 43) = W1 at *
  go_wp2_with (first | (refine wpList_load_row rfl 43 (.tmp 3) rfl w.heap.size rfl 43 (rcs r a c) (0, 0) _ HRW.out Tryz.underlying43 rfl rec_info ?_))
  refine HC.out.mono ?_
  rintro e w2 ⟨rfl, hb2⟩
  have HX2 := hide (HX1.out.below hb2)
  have HR2 := hide (HRW.out.below hb2 HRW.out.lt)
  have HM2 := hide (HM1.out.trans (Mds.of_below (B := B) I.own hb2 HX1.out.Bw))
  have HL2 := hide (HL1.out.below hb2)
  have e1 := HR2.out.c1
  clear hb2 HC HX1 HM1 HL1 HRW
  by_cases hm : X.may r = 0
  · have hck := (may_zero hm).1
    have hins := HIN.out hck
    have HINS := hide hins
    have hk4 := kind_four (ckR_zero.1 hck).1
    have HMM := hide hm
    rw [hm]
    clear hck hins hm
    have hrdy := hide (ix_rdy HX2.out)
    rcases hk4 with k0 | k0 | k0 | k0
    · have HK0 := hide k0
      have q0 : (r.kind == 0) = true := by simpa using k0
      clear k0
      go_wp2_with fail
      refine hrdy.out.mono ?_
      rintro e w3 ⟨rfl, rfl⟩
      go_wp2_with (first | (refine wpList_load_row rfl 43 (.tmp 3) rfl w.heap.size rfl 43 (rcs r a c) (0, 0) _ HR2.out Tryz.underlying43 rfl rec_info ?_))
      refine (ix_put HX2.out (by have := HN.out; omega) r a c HFL.out HL2.out.at HINS.out.2.1 HINS.out.1).mono ?_
      rintro e w4 ⟨rfl, hX4, hM4⟩
      have HX4 := hide hX4
      have HM4 := hide (HM2.out.trans hM4)
      clear hX4 hM4
      go_wp2_with fail
      try go_returns
      exact applied_did (m := n + 3) HMM.out (by unfold FX.doO; rw [if_pos HK0.out]) (by unfold FX.doR; rw [if_pos HK0.out]) rfl (Nat.le_refl _) ⟨.inl rfl, vot_none _⟩ HX4.out (by omega) HM4.out
    · have HK0 := hide k0
      have q0 : (r.kind == 0) = false := by simp; omega
      have q1 : (r.kind == 1) = true := by simpa using k0
      clear k0
      go_wp2_with fail
      refine hrdy.out.mono ?_
      rintro e w3 ⟨rfl, rfl⟩
      go_wp2_with (first | (refine wpList_load_row rfl 43 (.tmp 3) rfl w.heap.size rfl 43 (rcs r a c) (0, 0) _ HR2.out Tryz.underlying43 rfl rec_info ?_))
      refine (ix_remove HX2.out (by have := HN.out; omega) (inv_rok HI.out) r a c HINS.out.2.2.1).mono ?_
      rintro e w4 ⟨sa, sc, rfl, hsc, hV, hX4, hM4⟩
      have HX4 := hide hX4
      have HM4 := hide (HM2.out.trans hM4)
      have HV := hide hV
      have HSC := hide hsc
      obtain ⟨l, hl⟩ : ∃ l, (X.remO r.k).length = l := ⟨_, rfl⟩
      have HLL := hide hl
      rw [hl]
      clear hX4 hM4 hV hsc hl
      go_wp2_with fail
      try go_returns
      have k1 := HK0.out
      exact applied_did (m := n + 3) HMM.out (by unfold FX.doO; rw [if_neg (by omega), if_pos k1]) (by unfold FX.doR; rw [if_neg (by omega), if_pos k1]) HLL.out.symm HSC.out HV.out HX4.out (by omega) HM4.out
    · have HK0 := hide k0
      have q0 : (r.kind == 0) = false := by simp; omega
      have q1 : (r.kind == 1) = false := by simp; omega
      have q2 : (r.kind == 2) = true := by simpa using k0
      clear k0
      go_wp2_with fail
      refine hrdy.out.mono ?_
      rintro e w3 ⟨rfl, rfl⟩
      go_wp2_with (first | (refine wpList_load_row rfl 43 (.tmp 3) rfl w.heap.size rfl 43 (rcs r a c) (0, 0) _ HR2.out Tryz.underlying43 rfl rec_info ?_))
      refine (ix_move HX2.out (by have := HN.out; omega) r a c HFL.out HL2.out HINS.out.2.1).mono ?_
      rintro e w4 ⟨sa, rfl, hV, hX4, hM4⟩
      have HX4 := hide hX4
      have HM4 := hide (HM2.out.trans hM4)
      have HV := hide hV
      clear hX4 hM4 hV
      go_wp2_with fail
      try go_returns
      have k1 := HK0.out
      exact applied_did (m := n + 3) HMM.out (by unfold FX.doO; rw [if_neg (by omega), if_neg (by omega), if_pos k1]) (by unfold FX.doR; rw [if_neg (by omega), if_neg (by omega), if_pos k1]) rfl (Nat.le_refl _) HV.out HX4.out (by omega) HM4.out
    · have HK0 := hide k0
      have q0 : (r.kind == 0) = false := by simp; omega
      have q1 : (r.kind == 1) = false := by simp; omega
      have q2 : (r.kind == 2) = false := by simp; omega
      clear k0
      go_wp2_with fail
      refine hrdy.out.mono ?_
      rintro e w3 ⟨rfl, rfl⟩
      go_wp2_with (first | (refine wpList_load_row rfl 43 (.tmp 3) rfl w.heap.size rfl 43 (rcs r a c) (0, 0) _ HR2.out Tryz.underlying43 rfl rec_info ?_))
      refine (ix_merge HX2.out HN.out (inv_cok HI.out) r a c HFL.out HL2.out HINS.out.2.1 HINS.out.2.2.2.1 HINS.out.2.2.2.2 (inv_vol HI.out r.f)).mono ?_
      rintro e w4 ⟨sa, sc, rfl, hsc, hV, hX4, hM4⟩
      have HX4 := hide hX4
      have HM4 := hide (HM2.out.trans hM4)
      have HV := hide hV
      have HSC := hide hsc
      obtain ⟨l, hl⟩ : ∃ l, (X.mrgO r).length = l := ⟨_, rfl⟩
      have HLL := hide hl
      rw [hl]
      clear hX4 hM4 hV hsc hl
      go_wp2_with fail
      try go_returns
      have k1 := HK0.out
      exact applied_did (m := n + 4) HMM.out (by unfold FX.doO; rw [if_neg (by omega), if_neg (by omega), if_neg (by omega)]) (by unfold FX.doR; rw [if_neg (by omega), if_neg (by omega), if_neg (by omega)]) HLL.out.symm HSC.out HV.out HX4.out (by omega) HM4.out
  · have HMM := hide hm
    have q9 : (X.may r == 0) = false := by simpa using hm
    have q8 : (X.may r != 0) = true := by simpa using hm
    clear hm
    go_wp2_with fail
    try go_returns
    exact applied_refused HMM.out HX2.out HM2.out
end Go.Proofs.YtonhmihmnkicdaaGreat
namespace Go.Proofs.YtonhmihmnkicdaaGreat
open Go.RowKit
set_option linter.unusedVariables false
/-- an index behind records, those that are refused too (they change nothing) -/
noncomputable def appN (X : FX) (l : List Rc) : FX := l.foldl FX.app X
theorem appN_snoc (X : FX) (l : List Rc) (r : Rc) : appN X (l ++ [r]) = (appN X l).app r := by simp [appN]
theorem appN_take {X : FX} {l : List Rc} {k : Nat} {r : Rc} (h : l[k]? = some r) : appN X (l.take (k + 1)) = (appN X (l.take k)).app r := by rw [List.take_add_one, h]; exact appN_snoc _ _ _
/-- a record of a law: small, and its texts are keys that a machine holds -/
def Rc.sm (r : Rc) : Prop := r.fit ∧ r.ins
theorem inv_appN {X : FX} (h : X.Inv) : ∀ (l : List Rc), (∀ r ∈ l, okS r.ek) → (appN X l).Inv := by
  intro l
  induction l generalizing X with
  | nil => intro _; exact h
  | cons r l ih => intro hl; exact ih (inv_app h (hl r (by simp))) fun q hq => hl q (by simp [hq])
theorem sm_ek {r : Rc} (h : r.sm) : okS r.ek := by have := h.1.2.1; show r.ek.size ≤ 9223372036854775807; omega
/-- as many as may be applied -/
def BuildIs (l : List Rc) (k : Nat) : Prop := k ≤ l.length ∧ (∀ i r, i < k → l[i]? = some r → (appN FX.nil (l.take i)).may r = 0) ∧ ∀ r, l[k]? = some r → (appN FX.nil (l.take k)).may r ≠ 0
def Built (l : List Rc) (w : World) (e : Ending) (w' : World) : Prop :=
  ∃ I k, e = .returned (.tuple #[.pointer (some ⟨I.xb, 0, none⟩), .int .i64 (k : Nat)]) ∧ BuildIs l k ∧ IxAt w.heap.size w' I (4 * l.length) (appN FX.nil (l.take k)) ∧ Below w.heap.size w w'
set_option maxRecDepth 100000 in
set_option maxHeartbeats 16000000 in
theorem ix_build (a : Option Addr) (m c : Nat) (l : List RT) (w : World) (hl : l.length = m) (hm : m ≤ 1000) (h : RecsAt w a l) (hs : ∀ x ∈ l, x.1.sm) : Calls Tryz.prog 15 #[.slice a m c] w (Built (l.map Prod.fst) w) := by
  have HL := hide hl
  have HR := hide h
  have HS := hide hs
  have HK := hide (fun x hx => LocsK.came (h.2 x hx) : ∀ x ∈ l, LocsK w.heap.size w x.2.1 x.1.ls)
  have HIV : Hid (∀ k, (appN FX.nil ((l.map Prod.fst).take k)).Inv) := fun k => inv_appN inv_nil _ fun r hr => by
    obtain ⟨x, hx, rfl⟩ := List.mem_map.1 (List.mem_of_mem_take hr)
    exact sm_ek (hs x hx)
  have HLM : Hid ((l.map Prod.fst).length = m) := by unfold Hid; rw [List.length_map]; exact hl
  clear hl h hs
  go_enter Tryz.func15, Tryz.ntmps15
  go_wp2_with fail
  refine (ix_new w).mono ?_
  rintro e w1 ⟨I, rfl, hX, hb⟩
  have HX := hide hX
  have HB := hide hb
  clear hX hb
  go_wp2_with fail
  go_loopw [12] (fun y wr => ∃ k : Nat, k ≤ m ∧ y = .int .i64 k ∧ IxAt w.heap.size wr I (4 * k) (appN FX.nil ((l.map Prod.fst).take k)) ∧ Below w.heap.size w wr ∧ ∀ i r, i < k → (l.map Prod.fst)[i]? = some r → (appN FX.nil ((l.map Prod.fst).take i)).may r = 0) (fun y _ => m - (vInt y).toNat)
  case atStart => exact ⟨0, by omega, rfl, by simpa [appN] using HX.out, HB.out, fun i r hi => by omega⟩
  case round =>
    obtain ⟨k, hk, rfl, hXk, hbk, hmk⟩ := hrel
    have HXk := hide hXk
    have HBk := hide hbk
    have HMk := hide hmk
    clear hXk hbk hmk
    by_cases hlt : k < m
    · have hd : decide ((k : Int) < (m : Int)) = true := by simp; omega
      have hdi : (k : Int) < (m : Int) := by omega
      have hd0 : (0 : Int) ≤ (k : Int) := by omega
      obtain ⟨⟨x, xa, xc⟩, hx⟩ : ∃ x, l[k]? = some x := ⟨_, List.getElem?_eq_getElem (by have := HL.out; omega)⟩
      have hxm : (x, xa, xc) ∈ l := List.mem_of_getElem? hx
      obtain ⟨b1, o1, rfl, hb1, p1, q1⟩ := (HR.out.below HBk.out).nth hx
      have P1 := hide p1
      have hxr : (l.map Prod.fst)[k]? = some x := by rw [List.getElem?_map, hx]; rfl
      have HXR := hide hxr
      have hal1 : Below wr.heap.size wr (wr.alloc (.cells #[.int .i64 0, .int .i64 0, .int .i64 0, .int .i64 0, .int .i64 0, .slice none 0 0, .string { data := #[] }, .int .i64 0, .int .i64 0, .int .i64 0, .string { data := #[] }, .string { data := #[] }, .int .i64 0, .int .i64 0] 43)) := (Below.refl _ _).alloc (Nat.le_refl _) _
      have hrow1 := below_setRow hal1 (Nat.le_refl _) (rcs x xa xc)
      have N1 : Hid (RBx wr.heap.size 43 Rc.zero none 0 (wr.alloc (.cells #[.int .i64 0, .int .i64 0, .int .i64 0, .int .i64 0, .int .i64 0, .slice none 0 0, .string { data := #[] }, .int .i64 0, .int .i64 0, .int .i64 0, .string { data := #[] }, .string { data := #[] }, .int .i64 0, .int .i64 0] 43))) := rbx_new 43 Rc.zero none 0 wr
      have X1 : Hid (RBx wr.heap.size 43 x xa xc ((wr.alloc (.cells #[.int .i64 0, .int .i64 0, .int .i64 0, .int .i64 0, .int .i64 0, .slice none 0 0, .string { data := #[] }, .int .i64 0, .int .i64 0, .int .i64 0, .string { data := #[] }, .string { data := #[] }, .int .i64 0, .int .i64 0] 43)).setRow wr.heap.size (rcs x xa xc))) := N1.out.row x xa xc
      have HB2 := hide (HBk.out.trans (hrow1.mono HBk.out.size))
      have HC := hide (ix_apply (HXk.out.below hrow1) (HIV.out k) (by omega) x xa xc (((HK.out _ hxm).mod (Mds.of_below (fun _ => False) HBk.out (Nat.le_refl _))).below hrow1) (HS.out _ hxm).1 (HS.out _ hxm).2)
      have HTK := hide (appN_take (X := FX.nil) hxr)
      clear hx hxm p1 q1 hxr hal1 hrow1
      go_wp2_with (first | (refine wpList_load_mid rfl 43 (.tmp 15) rfl b1 (o1 + k * 14) rfl (rtC (x, xa, xc)).toList _ P1.out Tryz.underlying43 rfl rec_info ?_; rw [show (rtC (x, xa, xc)).toList.toArray = rcs x xa xc from rfl]) | (refine wpList_store_row rfl 43 (.tmp 6) (.tmp 16) rfl wr.heap.size (rcs x xa xc) rfl rfl 43 (rcs Rc.zero none 0) N1.out rec_info rfl (rcs_one _ _ _) ?_; generalize (wr.alloc (.cells #[.int .i64 0, .int .i64 0, .int .i64 0, .int .i64 0, .int .i64 0, .slice none 0 0, .string { data := #[] }, .int .i64 0, .int .i64 0, .int .i64 0, .string { data := #[] }, .string { data := #[] }, .int .i64 0, .int .i64 0] 43)).setRow wr.heap.size (rcs x xa xc) = W1 at *; generalize wr.heap.size = bb1 at *) | (refine wpList_load_row rfl 43 (.tmp 6) rfl bb1 rfl 43 (rcs x xa xc) (0, 0) _ X1.out Tryz.underlying43 rfl rec_info ?_))
      refine HC.out.mono ?_
      rintro e w3 ⟨sa, sc, rfl, hsc, hV, hX3, hM3⟩
      have HX3 := hide hX3
      have HB3 := hide (HB2.out.trans hM3.bel)
      clear hsc hV hX3 hM3 HC
      by_cases hmay : (appN FX.nil ((l.map Prod.fst).take k)).may x = 0
      · have HMY := hide hmay
        rw [hmay]
        clear hmay
        go_wp2_with fail
        refine ⟨⟨k + 1, by omega, by go_num, ?_, HB3.out, fun i r hi hr => ?_⟩, by simp [vInt]; omega⟩
        · rw [HTK.out]; exact HX3.out
        · by_cases e : i = k
          · subst e; rw [HXR.out] at hr; cases hr; exact HMY.out
          · exact HMk.out i r (by omega) hr
      · have q9 : ((appN FX.nil ((l.map Prod.fst).take k)).may x == 0) = false := by simpa using hmay
        have q8 : ((appN FX.nil ((l.map Prod.fst).take k)).may x != 0) = true := by simpa using hmay
        have HMY := hide hmay
        have HAP : Hid ((appN FX.nil ((l.map Prod.fst).take k)).app x = appN FX.nil ((l.map Prod.fst).take k)) := by unfold Hid FX.app; rw [if_neg hmay]
        clear hmay
        go_wp2_with fail
        try go_returns
        refine ⟨I, k, rfl, ⟨by rw [HLM.out]; omega, HMk.out, fun r hr => ?_⟩, ?_, HB3.out⟩
        · rw [HXR.out] at hr; cases hr; exact HMY.out
        · have := HX3.out
          rw [HAP.out] at this
          rw [HLM.out]
          exact this.mono (by omega)
    · have hd : decide ((k : Int) < (m : Int)) = false := by simp; omega
      have hdi : ¬ (k : Int) < (m : Int) := by omega
      obtain rfl : k = m := by omega
      go_wp2_with fail
      try go_returns
      refine ⟨I, k, rfl, ⟨by rw [HLM.out]; omega, HMk.out, fun r hr => ?_⟩, by rw [HLM.out]; exact HXk.out, HBk.out⟩
      rw [List.getElem?_eq_none (by rw [HLM.out]; omega)] at hr
      cases hr
end Go.Proofs.YtonhmihmnkicdaaGreat
