/- Layer 13's live: the index behind each of its records, by functions. What layer 13's live answers: true. -/
import Derived.Test.YtonhmihmnkicdaaGreatIxApply
import Derived.Test.YtonhmihmnkicdaaGreatIxLaid
import Derived.Test.YtonhmihmnkicdaaGreatIxVols
import Derived.Test.YtonhmihmnkicdaaGreatIxList
namespace Go.Proofs.YtonhmihmnkicdaaGreat
open Go.RowKit
set_option linter.unusedVariables false
def kA : ByteArray := ⟨#[97]⟩
def kB : ByteArray := ⟨#[98]⟩
def kC : ByteArray := ⟨#[99]⟩
theorem kAB : kA ≠ kB := by decide
theorem kCA : kC ≠ kA := by decide
theorem kCB : kC ≠ kB := by decide
theorem key13 (c : UInt8) (h1 : 33 ≤ c.toNat) (h2 : c.toNat ≤ 126) : keyOk ⟨#[c]⟩ := by
  refine ⟨Nat.le_refl 1, (by show 1 ≤ 32; omega), fun i hi => ?_⟩
  have : i = 0 := by have : i < 1 := hi; omega
  subst this
  exact ⟨h1, h2⟩
def rM : Rc := ⟨0, 3, 2, 0, 80, lsL, ByteArray.empty, 0, 0, 0, ByteArray.empty, ByteArray.empty, 0, 1⟩
def rD (k : ByteArray) : Rc := ⟨0, 1, 0, 0, 0, [], ByteArray.empty, 0, 0, 0, ByteArray.empty, k, 0, 0⟩
theorem volL {id n : Int} (h : numR id) (hn : 0 ≤ n ∧ n ≤ 384) : volR id 0 n lsL := ⟨h, by decide, hn, by decide, by decide⟩
theorem ck_put {k : ByteArray} {id : Int} (hk : keyOk k) (hid : numR id) : ckR (rPut k id) = 0 := by
  refine ckR_zero.2 ⟨⟨⟨by show (0 : Int) ≤ 0; decide, by show (0 : Int) ≤ 63; decide⟩, by show (0 : Int) ≤ 0; decide, by show (0 : Int) ≤ 3; decide⟩, (ckK_0 rfl).2 ⟨volL hid ⟨by show (0 : Int) ≤ 40; decide, by show (40 : Int) ≤ 384; decide⟩, hk, ?_⟩, rfl⟩
  exact ⟨rfl, by show (0 : Int) ≤ 0; decide, by show (0 : Int) ≤ 40; decide, by show (40 : Int) ≤ 40 - 0; decide, by show digL.size = 32; decide⟩
theorem ck_M : ckR rM = 0 := ckR_zero.2 ⟨⟨⟨by decide, by decide⟩, by decide, by decide⟩, (ckK_3 rfl).2 ⟨volL (by decide) ⟨by decide, by decide⟩, by decide, by decide, by decide⟩, rfl⟩
theorem ck_D {k : ByteArray} (hk : keyOk k) : ckR (rD k) = 0 := ckR_zero.2 ⟨⟨⟨by show (0 : Int) ≤ 0; decide, by show (0 : Int) ≤ 63; decide⟩, by show (0 : Int) ≤ 1; decide, by show (1 : Int) ≤ 3; decide⟩, (ckK_1 rfl).2 hk, rfl⟩
theorem kA_ok : keyOk kA := key13 97 (by decide) (by decide)
theorem kB_ok : keyOk kB := key13 98 (by decide) (by decide)
noncomputable def X1 : FX := FX.nil.put (rPut kA 0)
noncomputable def X2 : FX := X1.put (rPut kB 1)
noncomputable def X3 : FX := X2.mrg rM
noncomputable def X4 : FX := X3.rem kB
noncomputable def X5 : FX := X4.rem kA
theorem may_put {X : FX} {k : ByteArray} {id : Int} (hk : keyOk k) (hid : numR id) : X.may (rPut k id) = X.putE (rPut k id) := by
  unfold FX.may
  rw [if_neg (by simpa using ck_put hk hid), if_pos (show (rPut k id).kind = 0 from rfl)]
theorem may_del {X : FX} {k : ByteArray} (hk : keyOk k) : X.may (rD k) = X.getE k := by
  unfold FX.may
  rw [if_neg (by simpa using ck_D hk), if_neg (by show ¬ (1 : Int) = 0; decide), if_pos (show (rD k).kind = 1 from rfl)]
  rfl
theorem x1_T (k : ByteArray) : X1.T k = if k = kA then some ⟨kA, 0, 0, 40, digL⟩ else none := rfl
theorem x2_T (k : ByteArray) : X2.T k = if k = kB then some ⟨kB, 1, 0, 40, digL⟩ else if k = kA then some ⟨kA, 0, 0, 40, digL⟩ else none := rfl
theorem x2_V (id : Int) : X2.V id = if id = 1 then some ⟨1, 0, 40, lsL⟩ else if id = 0 then some ⟨0, 0, 40, lsL⟩ else none := rfl
theorem x2_H (id : Int) : X2.H id = if id = 1 then true else if id = 0 then true else false := rfl
theorem x2_G (k : ByteArray) : X2.G k = false := rfl
theorem m0 : FX.nil.may (rPut kA 0) = 0 := by rw [may_put kA_ok (by decide)]; rfl
theorem a0 : FX.nil.app (rPut kA 0) = X1 := by unfold FX.app; rw [if_pos m0]; rfl
theorem m1 : X1.may (rPut kB 1) = 0 := by
  rw [may_put kB_ok (by decide)]
  unfold FX.putE FX.known
  have h1 : X1.T kB = none := by rw [x1_T, if_neg (by decide)]
  have h2 : X1.G kB = false := rfl
  have h3 : X1.H 1 = false := by show hset FX.nil.H 0 1 = false; decide
  show (if ((X1.T kB).isSome || X1.G kB) || X1.H 1 then (13 : Int) else 0) = 0
  rw [h1, h2, h3]; rfl
theorem a1 : X1.app (rPut kB 1) = X2 := by unfold FX.app; rw [if_pos m1]; rfl
theorem m2 : X2.may (rPut kA 2) = 13 := by
  rw [may_put kA_ok (by decide)]
  have h1 : X2.T kA = some ⟨kA, 0, 0, 40, digL⟩ := by rw [x2_T, if_neg kAB, if_pos rfl]
  show (if ((X2.T kA).isSome || X2.G kA) || X2.H 2 then (13 : Int) else 0) = 13
  rw [h1]; rfl
theorem m3 : X2.may rM = 0 := by
  unfold FX.may
  rw [if_neg (by simpa using ck_M), if_neg (by decide), if_neg (by decide), if_neg (by decide)]
  have h1 : X2.V 0 = some ⟨0, 0, 40, lsL⟩ := by rw [x2_V, if_neg (by decide), if_pos rfl]
  have h2 : X2.V 1 = some ⟨1, 0, 40, lsL⟩ := by rw [x2_V, if_pos rfl]
  have h3 : X2.H 2 = false := by rw [x2_H, if_neg (by decide), if_neg (by decide)]
  unfold FX.mrgE
  show (match X2.V 0, X2.V 1 with | some a, some b => if X2.H 2 then (13 : Int) else if (80 : Int) ≠ a.len + b.len then 1 else 0 | _, _ => 9) = 0
  rw [h1, h2, h3]
  rfl
theorem a3 : X2.app rM = X3 := by unfold FX.app; rw [if_pos m3]; rfl
theorem o3 : (X2.appO rM).length = 2 := by unfold FX.appO; rw [if_pos m3]; rfl
theorem x3_T (k : ByteArray) : X3.T k = if k = kB then some ⟨kB, 2, 40, 40, digL⟩ else if k = kA then some ⟨kA, 2, 0, 40, digL⟩ else none := by
  have h1 : X2.V rM.f = some ⟨0, 0, 40, lsL⟩ := by show X2.V 0 = _; rw [x2_V, if_neg (by decide), if_pos rfl]
  have h2 : X2.V rM.t = some ⟨1, 0, 40, lsL⟩ := by show X2.V 1 = _; rw [x2_V, if_pos rfl]
  unfold X3
  rw [mrg_T h1 h2 rfl rfl (by decide) (by decide), x2_T]
  by_cases hB : k = kB
  · rw [if_pos hB, if_pos hB]; rfl
  · rw [if_neg hB, if_neg hB]
    by_cases hA : k = kA
    · rw [if_pos hA, if_pos hA]; rfl
    · rw [if_neg hA, if_neg hA]; rfl
theorem x3_kA : X3.T kA = some ⟨kA, 2, 0, 40, digL⟩ := by rw [x3_T, if_neg kAB, if_pos rfl]
theorem x3_kB : X3.T kB = some ⟨kB, 2, 40, 40, digL⟩ := by rw [x3_T, if_pos rfl]
theorem m4 : X3.may (rD kB) = 0 := by rw [may_del kB_ok]; unfold FX.getE; rw [x3_kB]; rfl
theorem v4 : X3.volOf kB = 2 := by unfold FX.volOf; rw [x3_kB]; rfl
theorem l4 : livT (X3.del kB).T (X3.volOf kB) := by
  rw [v4]
  exact ⟨kA, ⟨kA, 2, 0, 40, digL⟩, by show tset X3.T kB none kA = _; unfold tset; rw [if_neg kAB]; exact x3_kA, rfl⟩
theorem a4 : X3.app (rD kB) = X4 := by unfold FX.app; rw [if_pos m4]; rfl
theorem o4 : (X3.appO (rD kB)).length = 0 := by
  unfold FX.appO; rw [if_pos m4]
  show (X3.remO kB).length = 0
  unfold FX.remO; rw [if_pos l4]; rfl
theorem x4_is : X4 = X3.del kB := by unfold X4 FX.rem; rw [if_pos l4]
theorem x4_kA : X4.T kA = some ⟨kA, 2, 0, 40, digL⟩ := by rw [x4_is]; show tset X3.T kB none kA = _; unfold tset; rw [if_neg kAB]; exact x3_kA
theorem m5 : X4.may (rD kA) = 0 := by rw [may_del kA_ok]; unfold FX.getE; rw [x4_kA]; rfl
theorem v5 : X4.volOf kA = 2 := by unfold FX.volOf; rw [x4_kA]; rfl
theorem t5 (k : ByteArray) : (X4.del kA).T k = none := by
  rw [x4_is]
  show tset (tset X3.T kB none) kA none k = none
  unfold tset
  by_cases hA : k = kA
  · rw [if_pos hA]
  · rw [if_neg hA]
    by_cases hB : k = kB
    · rw [if_pos hB]
    · rw [if_neg hB, x3_T, if_neg hB, if_neg hA]
theorem l5 : ¬ livT (X4.del kA).T (X4.volOf kA) := by rintro ⟨k, e, h, _⟩; rw [t5] at h; cases h
theorem a5 : X4.app (rD kA) = X5 := by unfold FX.app; rw [if_pos m5]; rfl
theorem o5 : (X4.appO (rD kA)).length = 1 := by
  unfold FX.appO; rw [if_pos m5]
  show (X4.remO kA).length = 1
  unfold FX.remO; rw [if_neg l5]; rfl
theorem x5_is : X5 = (X4.del kA).end 2 := by unfold X5 FX.rem; rw [if_neg l5, v5]
theorem g5 : X5.T kA = none := by rw [x5_is]; exact t5 kA
theorem k5 : X5.known kA = true := by
  unfold FX.known
  have : X5.G kA = true := by rw [x5_is]; show gset X4.G kA kA = true; simp [gset]
  rw [this, Bool.or_true]
theorem kc5 : X5.known kC = false := by
  unfold FX.known
  have h1 : X5.T kC = none := by rw [x5_is]; exact t5 kC
  have h2 : X5.G kC = false := by
    rw [x5_is]
    show gset X4.G kA kC = false
    unfold gset
    rw [if_neg kCA, x4_is]
    show gset X3.G kB kC = false
    unfold gset
    rw [if_neg kCB]
    rfl
  rw [h1, h2]; rfl
theorem x5_V (id : Int) : X5.V id = none := by
  rw [x5_is, x4_is]
  show vset X3.V 2 none id = none
  unfold vset
  by_cases h2 : id = 2
  · rw [if_pos h2]
  · rw [if_neg h2]
    unfold X3
    rw [mrg_V, if_neg (show ¬ id = rM.vid from h2)]
    by_cases h1 : id = 1
    · rw [if_pos (show id = rM.t from h1)]
    · rw [if_neg (show ¬ id = rM.t from h1)]
      by_cases h0 : id = 0
      · rw [if_pos (show id = rM.f from h0)]
      · rw [if_neg (show ¬ id = rM.f from h0), x2_V, if_neg h1, if_neg h0]
theorem x5_H (id : Int) : X5.H id = if id = 2 then true else if id = 1 then true else if id = 0 then true else false := by
  rw [x5_is, x4_is]
  rfl
theorem vols5 {L : List VD} (h : VolsIs X5 L) : L.length = 0 := by
  obtain ⟨ids, hs, rfl⟩ := h
  cases ids with
  | nil => rfl
  | cons x l =>
    have := ((hs.2 x).1 (by simp)).2
    rw [x5_V] at this; cases this
theorem next5 {N : Int} (h : NextIs X5.H N) : N = 3 := by
  obtain ⟨h1, h2, h3⟩ := h
  have := h1 2 ⟨by decide, by decide⟩ (by rw [x5_H]; rfl)
  rcases h3 with q | q
  · omega
  · rw [x5_H] at q
    by_cases e2 : N - 1 = 2
    · omega
    · rw [if_neg e2] at q
      by_cases e1 : N - 1 = 1
      · omega
      · rw [if_neg e1] at q
        by_cases e0 : N - 1 = 0
        · omega
        · rw [if_neg e0] at q; cases q
theorem fit_put {k : ByteArray} {id : Int} (h : k.size ≤ 100) : (rPut k id).fit := ⟨by show 9 ≤ _; decide, by show k.size ≤ _; omega, by show 32 ≤ _; decide, by show 0 ≤ _; decide, by show (_ : Int) ≤ 0; decide, by show (0 : Int) ≤ _; decide⟩
theorem sm_put {k : ByteArray} {id : Int} (h : k.size ≤ 100) : (rPut k id).sm := ⟨fit_put h, ins_of (by show k.size ≤ 9223372036854775807; omega) (by show 0 ≤ _; exact Nat.zero_le _)⟩
theorem sm_M : rM.sm := ⟨⟨by decide, by decide, by decide, by decide, by decide, by decide⟩, ins_of (by decide) (by decide)⟩
theorem sm_D {k : ByteArray} (h : k.size ≤ 100) : (rD k).sm := ⟨⟨by show 0 ≤ _; decide, by show 0 ≤ _; decide, by show 0 ≤ _; decide, by show k.size ≤ _; omega, by show (_ : Int) ≤ 0; decide, by show (0 : Int) ≤ _; decide⟩, ins_of (by show 0 ≤ _; exact Nat.zero_le _) (by show k.size ≤ 9223372036854775807; omega)⟩
end Go.Proofs.YtonhmihmnkicdaaGreat
namespace Go.Proofs.YtonhmihmnkicdaaGreat
open Go.RowKit
set_option linter.unusedVariables false
theorem lv_apply {B n : Nat} {I : Ix} {X Y : FX} {w : World} (h : IxAt B w I n X ∧ X.Inv) (hn : n ≤ 800000) (r : Rc) (a : Option Addr) (c : Nat) (hS : LocsK B w a r.ls) (hs : r.sm) {e : Int} {l : Nat} (hm : X.may r = e) (hY : X.app r = Y) (hl : (X.appO r).length = l) : Calls Tryz.prog 11 #[.pointer (some ⟨I.xb, 0, none⟩), .agg (rcs r a c)] w fun x w' => ∃ sa sc, x = .returned (.tuple #[.slice sa l sc, .int .i64 e]) ∧ l ≤ sc ∧ (IxAt B w' I (n + 4) Y ∧ Y.Inv) ∧ Mds B I.own w I.own w' := by
  subst hm hY hl
  exact (ix_apply h.1 h.2 hn r a c hS hs.1 hs.2).mono fun x w' ⟨sa, sc, h1, h2, h3, h4, h5⟩ => ⟨sa, sc, h1, h2, ⟨h4, inv_app h.2 (sm_ek hs)⟩, h5⟩
theorem okS_k (c : UInt8) : okS ⟨#[c]⟩ := by show 1 ≤ 9223372036854775807; decide
set_option maxRecDepth 100000 in
set_option maxHeartbeats 32000000 in
theorem live13_any (w : World) : Calls Tryz.prog 5 #[] w fun e w' => e = .returned (.bool true) ∧ Below w.heap.size w w' := by
  have hze := en_zero
  go_enter Tryz.func5, Tryz.ntmps5
  go_wp2_with fail
  refine (ix_new w).mono ?_
  rintro e w1 ⟨I, rfl, hX, hb⟩
  have HX1 := hide (And.intro hX inv_nil)
  have HM1 := hide (show Below w.heap.size w w1 from hb)
  have HLT := hide (fun i (hi : I.own i) => hX.lt hi)
  have hBw := hX.Bw
  have HBW := hide hBw
  clear hX hb hBw
  go_wp2_with fail
  refine (put_any kA 0 w1).mono ?_
  rintro e w2 ⟨s2, c2, rfl, hl, hb⟩
  have HA := hide (lv_apply (B := w.heap.size) ⟨HX1.out.1.below hb, HX1.out.2⟩ (by omega) (rPut kA 0) s2 c2 (hl _) (sm_put (by decide)) m0 a0 (l := 0) (by unfold FX.appO; rw [if_pos m0]; rfl))
  have HB2 := hide (HM1.out.trans (hb.mono HM1.out.size))
  have HS2 := hide hb.size
  clear hl hb HX1
  go_wp2_with fail
  refine HA.out.mono ?_
  rintro e w3 ⟨s3, c3, rfl, hc3, hX, hM⟩
  have HX3 := hide hX
  have HB3 := hide (HB2.out.trans hM.bel)
  have HS3 := hide (Nat.le_trans HS2.out hM.size)
  clear hX hM hc3 HA HM1 HB2 HS2
  go_wp2_with fail
  refine (put_any kB 1 w3).mono ?_
  rintro e w4 ⟨s4, c4, rfl, hl, hb⟩
  have HA := hide (lv_apply (B := w.heap.size) ⟨HX3.out.1.below hb, HX3.out.2⟩ (by omega) (rPut kB 1) s4 c4 (hl _) (sm_put (by decide)) m1 a1 (l := 0) (by unfold FX.appO; rw [if_pos m1]; rfl))
  have HB4 := hide (HB3.out.trans (hb.mono HB3.out.size))
  have HS4 := hide (Nat.le_trans HS3.out hb.size)
  clear hl hb HX3 HB3 HS3
  go_wp2_with fail
  refine HA.out.mono ?_
  rintro e w5 ⟨s5, c5, rfl, hc5, hX, hM⟩
  have HX5 := hide hX
  have HB5 := hide (HB4.out.trans hM.bel)
  have HS5 := hide (Nat.le_trans HS4.out hM.size)
  clear hX hM hc5 HA HB4 HS4
  go_wp2_with fail
  refine (put_any kA 2 w5).mono ?_
  rintro e w6 ⟨s6, c6, rfl, hl, hb⟩
  have HX6 := hide (show IxAt w.heap.size w6 I _ X2 ∧ X2.Inv from ⟨HX5.out.1.below hb, HX5.out.2⟩)
  have HA := hide (ix_may HX6.out.1 (inv_len HX6.out.2) (rPut kA 2) s6 c6 (hl 0).at (sm_put (by decide)).1 (sm_put (by decide)).2)
  have HB6 := hide (HB5.out.trans (hb.mono HB5.out.size))
  have HS6 := hide (Nat.le_trans HS5.out hb.size)
  clear hl hb HX5 HB5 HS5
  go_wp2_with fail
  refine HA.out.mono ?_
  rintro e w7 ⟨rfl, hb⟩
  rw [m2]
  have HX7 := hide (show IxAt w.heap.size w7 I _ X2 ∧ X2.Inv from ⟨HX6.out.1.below hb, HX6.out.2⟩)
  have HB7 := hide (HB6.out.trans (hb.mono HB6.out.size))
  have HS7 := hide (Nat.le_trans HS6.out hb.size)
  clear hb HA HX6 HB6 HS6
  go_wp2_with fail
  refine (laid_any 2 0 80 w7).mono ?_
  rintro e w8 ⟨s8, c8, rfl, hl, hb⟩
  have HA := hide (lv_apply (B := w.heap.size) ⟨HX7.out.1.below hb, HX7.out.2⟩ (by omega) rM s8 c8 (hl _) sm_M m3 a3 o3)
  have HB8 := hide (HB7.out.trans (hb.mono HB7.out.size))
  have HS8 := hide (Nat.le_trans HS7.out hb.size)
  clear hl hb HX7 HB7 HS7
  go_wp2_with fail
  refine HA.out.mono ?_
  rintro e w9 ⟨s9, c9, rfl, hc9, hX, hM⟩
  have HX9 := hide hX
  have HB9 := hide (HB8.out.trans hM.bel)
  have HS9 := hide (Nat.le_trans HS8.out hM.size)
  clear hX hM hc9 HA HB8 HS8
  have HA := hide (ix_get HX9.out.1 kB (okS_k 98))
  go_wp2_with fail
  refine HA.out.mono ?_
  rintro e w10 ⟨rfl, hb⟩
  have hg3 : X3.getE kB = 0 := by unfold FX.getE; rw [x3_kB]; rfl
  rw [hg3, x3_kB]
  simp only [Option.getD_some, enV]
  have hb2 : Below w10.heap.size w10 (w10.alloc (.cells #[.string kB, .int .i64 2, .int .i64 40, .int .i64 40, .string digL] 38)) := (Below.refl _ _).alloc (Nat.le_refl _) _
  have HX10 := hide (And.intro ((HX9.out.1.below hb).below hb2) HX9.out.2)
  have HB10 := hide ((HB9.out.trans (hb.mono HB9.out.size)).trans (hb2.mono (HB9.out.trans (hb.mono HB9.out.size)).size))
  have HS10 := hide (Nat.le_trans (Nat.le_trans HS9.out hb.size) hb2.size)
  have HN10 := hide (Nat.le_trans HS9.out hb.size)
  have HK10 : Hid ((w10.alloc (.cells #[.string kB, .int .i64 2, .int .i64 40, .int .i64 40, .string digL] 38)).heap[w10.heap.size]? = some (.cells #[.string kB, .int .i64 2, .int .i64 40, .int .i64 40, .string digL] 38 (0, 0))) := heap_alloc_new _ _
  clear hb hb2 HA hg3 HB9 HS9
  go_upto_region 9 with fail
  generalize w10.alloc (.cells #[.string kB, .int .i64 2, .int .i64 40, .int .i64 40, .string digL] 38) = w11 at *
  have HA := hide (lv_apply (B := w.heap.size) HX10.out (by omega) (rD kB) none 0 (.inl rfl) (sm_D (by decide)) m4 a4 o4)
  go_wp2_with fail
  refine HA.out.mono ?_
  rintro e w12 ⟨s12, c12, rfl, hc12, hX, hM⟩
  have HX12 := hide hX
  have HB12 := hide (HB10.out.trans hM.bel)
  have HS12 := hide (Nat.le_trans HS10.out hM.size)
  have HNO : Hid (¬ I.own w10.heap.size) := fun q => by have := HLT.out _ q; have := HN10.out; omega
  have HK12 := hide ((hM.blk _ (lt_of_block HK10.out) HNO.out).trans HK10.out)
  clear hX hM hc12 HA HX10 HB10 HS10 HK10
  have HA := hide (lv_apply (B := w.heap.size) HX12.out (by omega) (rD kA) none 0 (.inl rfl) (sm_D (by decide)) m5 a5 o5)
  go_wp2_with fail
  refine HA.out.mono ?_
  rintro e w13 ⟨s13, c13, rfl, hc13, hX, hM⟩
  have HX13 := hide hX
  have HB13 := hide (HB12.out.trans hM.bel)
  have HK13 := hide ((hM.blk _ (lt_of_block HK12.out) HNO.out).trans HK12.out)
  clear hX hM hc13 HA HX12 HB12 HS12 HK12
  have HA := hide (ix_get HX13.out.1 kA (okS_k 97))
  go_wp2_with fail
  refine HA.out.mono ?_
  rintro e w14 ⟨rfl, hb⟩
  have hg5 : X5.getE kA = 9 := by unfold FX.getE; rw [g5]; rfl
  rw [hg5, g5]
  simp only [Option.getD_none, en0, enV]
  have hb2 : Below w14.heap.size w14 (w14.alloc (.cells #[.string ByteArray.empty, .int .i64 0, .int .i64 0, .int .i64 0, .string ByteArray.empty] 38)) := (Below.refl _ _).alloc (Nat.le_refl _) _
  have hx14 : IxAt w.heap.size (w14.alloc (.cells #[.string ByteArray.empty, .int .i64 0, .int .i64 0, .int .i64 0, .string ByteArray.empty] 38)) I _ X5 := (HX13.out.1.below hb).below hb2
  have HX14 := hide (And.intro hx14 HX13.out.2)
  have HB14 := hide ((HB13.out.trans (hb.mono HB13.out.size)).trans (hb2.mono (HB13.out.trans (hb.mono HB13.out.size)).size))
  have hk14 := (hb2.block _ (by have := hb.size; have := lt_of_block HK13.out; omega)).trans ((hb.block _ (lt_of_block HK13.out)).trans HK13.out)
  obtain ⟨e0, e1, e2, e3, e4⟩ := ecs hk14
  have HK1 := hide (ix_known hx14 kA (okS_k 97))
  clear hb hb2 HA hg5 HB13 hx14 hk14 e0 e3 e4 HX13 HK13
  go_wp2_with fail
  refine HK1.out.mono ?_
  rintro e w15 ⟨rfl, hb⟩
  rw [k5]
  have hx15 := HX14.out.1.below hb
  have HX15 := hide (And.intro hx15 HX14.out.2)
  have HB15 := hide (HB14.out.trans (hb.mono HB14.out.size))
  have HK2 := hide (ix_known hx15 kC (okS_k 99))
  clear hb hx15 e1 e2 HK1 HX14 HB14
  go_wp2_with fail
  refine HK2.out.mono ?_
  rintro e w16 ⟨rfl, hb⟩
  rw [kc5]
  have hx16 := HX15.out.1.below hb
  have HX16 := hide (And.intro hx16 HX15.out.2)
  have HB16 := hide (HB15.out.trans (hb.mono HB15.out.size))
  have HV := hide (ix_volumes hx16 (by omega) (fun id v hv => by have := (HX15.out.2.v id v hv).2.2.2.2.1; omega))
  clear hb hx16 HK2 HX15 HB15
  go_wp2_with fail
  refine HV.out.mono ?_
  rintro e w17 ⟨sv, sw, L, rfl, hz1, hz2, hz3, hv, hb⟩
  rw [vols5 hv]
  have hx17 := HX16.out.1.below hb
  have HB17 := hide (HB16.out.trans (hb.mono HB16.out.size))
  have HNX := hide (ix_next hx17 (by omega) HX16.out.2.h)
  clear hb hx17 hz1 hz2 hz3 hv HV HX16 HB16
  go_wp2_with fail
  refine HNX.out.mono ?_
  rintro e w18 ⟨N, rfl, hN, hz, hb⟩
  obtain rfl := next5 hN
  have HB18 := hide (HB17.out.trans (hb.mono HB17.out.size))
  clear hb hz hN HNX
  go_wp2_with fail
  try go_ret
  exact ⟨rfl, HB18.out⟩
end Go.Proofs.YtonhmihmnkicdaaGreat
