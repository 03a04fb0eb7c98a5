/- What merge of the index does. (Written by genxg.py.) -/
import Derived.Test.YtonhmihmnkicdaaGreatIxCarry
namespace Go.Proofs.YtonhmihmnkicdaaGreat
open Go.RowKit
set_option linter.unusedVariables false
/-- in the midst of merge: blocks that were made for the two volumes, places that are held -/
structure MS (B : Nat) (I : Ix) (n : Nat) (X : FX) (w : World) (r : Rc) (a : Option Addr) (c : Nat) (bs : List Nat) (ks : List (Option Addr × List (Int × Int))) (W : World) : Prop where
  ix : IxAt B W I n X
  md : Mds B I.own w I.own W
  rc : RBx w.heap.size 43 r a c W
  bl : ∀ b ∈ bs, w.heap.size < b ∧ W.heap[b]? = some (.cells #[.int .i64 0, .int .i64 0, .int .i64 0, .slice none 0 0] 36 (0, 0))
  ls : ∀ x ∈ ks, LocsK B W x.1 x.2
theorem MS.noown {B : Nat} {I : Ix} {n : Nat} {X : FX} {w : World} {r : Rc} {a : Option Addr} {c : Nat} {bs : List Nat} {ks : List (Option Addr × List (Int × Int))} {W : World} (h : MS B I n X w r a c bs ks W) (hlt : ∀ i, I.own i → i < w.heap.size) {b : Nat} (hb : w.heap.size ≤ b) : ¬ I.own b := fun q => by have := hlt b q; omega
theorem MS.alloc {B : Nat} {I : Ix} {n : Nat} {X : FX} {w : World} {r : Rc} {a : Option Addr} {c : Nat} {bs : List Nat} {ks : List (Option Addr × List (Int × Int))} {W : World} (h : MS B I n X w r a c bs ks W) : MS B I n X w r a c (W.heap.size :: bs) ks (W.alloc (.cells #[.int .i64 0, .int .i64 0, .int .i64 0, .slice none 0 0] 36)) ∧ W.heap.size ∉ bs := by
  have hb : Below W.heap.size W (W.alloc (.cells #[.int .i64 0, .int .i64 0, .int .i64 0, .slice none 0 0] 36)) := (Below.refl _ _).alloc (Nat.le_refl _) _
  refine ⟨⟨h.ix.below hb, h.md.trans (Mds.of_below (B := B) I.own hb h.ix.Bw), h.rc.below hb h.rc.lt, fun b hbm => ?_, fun x hx => (h.ls x hx).below hb⟩, fun q => ?_⟩
  · rcases List.mem_cons.1 hbm with rfl | q
    · exact ⟨h.rc.lt, heap_alloc_new _ _⟩
    · exact ⟨(h.bl b q).1, (hb.block b (lt_of_block (h.bl b q).2)).trans (h.bl b q).2⟩
  · have := lt_of_block (h.bl _ q).2; omega
theorem MS.mod {B : Nat} {I : Ix} {n m : Nat} {X Y : FX} {w : World} {r : Rc} {a : Option Addr} {c : Nat} {bs : List Nat} {ks : List (Option Addr × List (Int × Int))} {W W' : World} (h : MS B I n X w r a c bs ks W) (hlt : ∀ i, I.own i → i < w.heap.size) (hX : IxAt B W' I m Y) (hM : Mds B I.own W I.own W') : MS B I m Y w r a c bs ks W' :=
  ⟨hX, h.md.trans hM, (hM.blk _ h.rc.lt (h.noown hlt (Nat.le_refl _))).trans h.rc, fun b hb => ⟨(h.bl b hb).1, (hM.blk b (lt_of_block (h.bl b hb).2) (h.noown hlt (Nat.le_of_lt (h.bl b hb).1))).trans (h.bl b hb).2⟩, fun x hx => (h.ls x hx).mod hM⟩
theorem ms_end {B : Nat} {I : Ix} {n : Nat} {X : FX} {w : World} {r : Rc} {a : Option Addr} {c : Nat} {bs : List Nat} {ks : List (Option Addr × List (Int × Int))} {W : World} (h : MS B I n X w r a c bs ks W) (hlt : ∀ i, I.own i → i < w.heap.size) (id : Int) (hk : OkI id) :
    Calls Tryz.prog 71 #[.pointer (some ⟨I.xb, 0, none⟩), .int .i64 id] W fun e w' => ∃ q1 q2 q3 ql qa qm qc, e = .returned (.agg #[.int .i64 q1, .int .i64 q2, .int .i64 q3, .slice qa qm qc]) ∧ ql.length = qm ∧ X.vol id = ⟨q1, q2, q3, ql⟩ ∧ MS B I (n + 1) (X.end id) w r a c bs ((qa, ql) :: ks) w' :=
  (ix_end h.ix id hk).mono fun e w' ⟨⟨⟨q1, q2, q3, ql⟩, qa, qc⟩, h1, h2, h3, h4, h5⟩ => ⟨q1, q2, q3, ql, qa, _, qc, h1, rfl, h2.symm, by
    have k := h.mod hlt h4 h5
    exact ⟨k.ix, k.md, k.rc, k.bl, fun x hx => by rcases List.mem_cons.1 hx with rfl | q; exact h3; exact k.ls x q⟩⟩
/-- behind the region -/
structure MF (B : Nat) (I : Ix) (n : Nat) (X : FX) (w : World) (r : Rc) (a : Option Addr) (c : Nat) (b5 b6 : Nat) (q1 q2 q3 : Int) (qa : Option Addr) (qm qc : Nat) (ql : List (Int × Int)) (p1 p2 p3 : Int) (pa : Option Addr) (pm pc : Nat) (pl : List (Int × Int)) (W : World) : Prop where
  ix : IxAt B W I n X
  md : Mds B I.own w I.own W
  rc : RBx w.heap.size 43 r a c W
  n5 : w.heap.size < b5
  n6 : w.heap.size < b6
  k5 : W.heap[b5]? = some (.cells #[.int .i64 q1, .int .i64 q2, .int .i64 q3, .slice qa qm qc] 36 (0, 0))
  k6 : W.heap[b6]? = some (.cells #[.int .i64 p1, .int .i64 p2, .int .i64 p3, .slice pa pm pc] 36 (0, 0))
  l5 : LocsK B W qa ql
  l6 : LocsK B W pa pl
theorem MS.fin {B : Nat} {I : Ix} {n : Nat} {X : FX} {w : World} {r : Rc} {a : Option Addr} {c : Nat} {bs : List Nat} {W : World} {b5 b6 : Nat} {q1 q2 q3 : Int} {qa : Option Addr} {qm qc : Nat} {ql : List (Int × Int)} {p1 p2 p3 : Int} {pa : Option Addr} {pm pc : Nat} {pl : List (Int × Int)} (h : MS B I n X w r a c bs [(pa, pl), (qa, ql)] W) (hlt : ∀ i, I.own i → i < w.heap.size) (hB : B ≤ w.heap.size) (h5 : b5 ∈ bs) (h6 : b6 ∈ bs) (hne : b6 ≠ b5) :
    (W.heap[b5]? = some (.cells #[.int .i64 0, .int .i64 0, .int .i64 0, .slice none 0 0] 36 (0, 0)) ∧ (W.setRow b5 #[.int .i64 q1, .int .i64 q2, .int .i64 q3, .slice qa qm qc]).heap[b6]? = some (.cells #[.int .i64 0, .int .i64 0, .int .i64 0, .slice none 0 0] 36 (0, 0))) ∧ RBx w.heap.size 43 r a c (W.setRow b5 #[.int .i64 q1, .int .i64 q2, .int .i64 q3, .slice qa qm qc]) ∧ MF B I n X w r a c b5 b6 q1 q2 q3 qa qm qc ql p1 p2 p3 pa pm pc pl ((W.setRow b5 #[.int .i64 q1, .int .i64 q2, .int .i64 q3, .slice qa qm qc]).setRow b6 #[.int .i64 p1, .int .i64 p2, .int .i64 p3, .slice pa pm pc]) := by
  obtain ⟨n5, k5⟩ := h.bl b5 h5
  obtain ⟨n6, k6⟩ := h.bl b6 h6
  have r5 := setRow_heap _ _ _ #[.int .i64 q1, .int .i64 q2, .int .i64 q3, .slice qa qm qc] _ _ k5
  have k6' : (W.setRow b5 #[.int .i64 q1, .int .i64 q2, .int .i64 q3, .slice qa qm qc]).heap[b6]? = some (.cells #[.int .i64 0, .int .i64 0, .int .i64 0, .slice none 0 0] 36 (0, 0)) := (setRow_other _ _ _ _ hne).trans k6
  have m1 := mds_row1 (B := B) #[.int .i64 q1, .int .i64 q2, .int .i64 q3, .slice qa qm qc] k5 (by omega)
  have m2 := mds_row1 (B := B) #[.int .i64 p1, .int .i64 p2, .int .i64 p3, .slice pa pm pc] k6' (by omega)
  have o5 : ∀ i, I.own i → ¬ i = b5 := fun i hi e => by have := hlt i hi; omega
  have o6 : ∀ i, I.own i → ¬ i = b6 := fun i hi e => by have := hlt i hi; omega
  have rc1 : RBx w.heap.size 43 r a c (W.setRow b5 #[.int .i64 q1, .int .i64 q2, .int .i64 q3, .slice qa qm qc]) := (setRow_other _ _ _ _ (by omega)).trans h.rc
  refine ⟨⟨k5, k6'⟩, rc1, ⟨(h.ix.mod m1 o5).mod m2 o6, ?_, (setRow_other _ _ _ _ (by omega)).trans rc1, n5, n6, (setRow_other _ _ _ _ (fun e => hne e.symm)).trans r5, setRow_heap _ _ _ _ _ _ k6', ((h.ls (qa, ql) (by simp)).mod m1).mod m2, ((h.ls (pa, pl) (by simp)).mod m1).mod m2⟩⟩
  exact mds_row _ (mds_row _ h.md (by omega) hB) (by omega) hB
theorem two_vos {B : Nat} {w : World} {q1 q2 q3 p1 p2 p3 : Int} {ql pl : List (Int × Int)} {qa pa : Option Addr} {qm qc pm pc : Nat} (hm : ql.length = qm) (hp : pl.length = pm) (hk : LocsK B w qa ql) (hl : LocsK B w pa pl) : VosAt B (w.alloc (.cells #[.int .i64 q1, .int .i64 q2, .int .i64 q3, .slice qa qm qc, .int .i64 p1, .int .i64 p2, .int .i64 p3, .slice pa pm pc] 36)) (some ⟨w.heap.size, 0, none⟩) [⟨q1, q2, q3, ql⟩, ⟨p1, p2, p3, pl⟩] := by
  subst hm hp
  have hb : Below w.heap.size w (w.alloc (.cells #[.int .i64 q1, .int .i64 q2, .int .i64 q3, .slice qa ql.length qc, .int .i64 p1, .int .i64 p2, .int .i64 p3, .slice pa pl.length pc] 36)) := (Below.refl _ _).alloc (Nat.le_refl _) _
  have hn : (w.alloc (.cells #[.int .i64 q1, .int .i64 q2, .int .i64 q3, .slice qa ql.length qc, .int .i64 p1, .int .i64 p2, .int .i64 p3, .slice pa pl.length pc] 36)).heap[w.heap.size]? = some (.cells #[.int .i64 q1, .int .i64 q2, .int .i64 q3, .slice qa ql.length qc, .int .i64 p1, .int .i64 p2, .int .i64 p3, .slice pa pl.length pc] 36 (0, 0)) := heap_alloc_new _ _
  refine .inr ⟨w.heap.size, 0, rfl, by rw [World.size_alloc]; omega, [⟨⟨q1, q2, q3, ql⟩, qa, qc⟩, ⟨⟨p1, p2, p3, pl⟩, pa, pc⟩], rfl, fun i x hx => ?_⟩
  match i, hx with
  | 0, hx =>
    simp at hx
    subst hx
    exact ⟨⟨cell_of_block hn, cell_of_block hn, cell_of_block hn, cell_of_block hn⟩, hk.below hb⟩
  | 1, hx =>
    simp at hx
    subst hx
    exact ⟨⟨cell_of_block hn, cell_of_block hn, cell_of_block hn, cell_of_block hn⟩, hl.below hb⟩
  | i + 2, hx => simp at hx
set_option maxRecDepth 100000 in
set_option maxHeartbeats 16000000 in
theorem ix_merge {B n : Nat} {I : Ix} {X : FX} {w : World} (h : IxAt B w I n X) (hn : n ≤ 800000) (hok : ∀ k e, X.T k = some e → okS k ∧ 0 ≤ e.off ∧ e.off ≤ 100000) (r : Rc) (a : Option Addr) (c : Nat) (hm2 : r.ls.length ≤ 8796093022208) (hl : LocsK B w a r.ls) (hv : OkI r.vid) (hf : OkI r.f) (ht : OkI r.t) (hd : 0 ≤ (X.vol r.f).len ∧ (X.vol r.f).len ≤ 100000) : Calls Tryz.prog 38 #[.pointer (some ⟨I.xb, 0, none⟩), .agg (rcs r a c)] w (DidO B I (n + 4) (X.mrgO r) (X.mrg r) w) := by
  have hb1 : Below w.heap.size w (w.alloc (.cells (rcs r a c) 43)) := (Below.refl _ _).alloc (Nat.le_refl _) _
  obtain ⟨W0, hW0⟩ : ∃ W, W = (w.alloc (.cells (rcs r a c) 43)).drew := ⟨_, rfl⟩
  have hbd : Below w.heap.size w W0 := by rw [hW0]; exact hb1.drew
  have M0 : Hid (MS B I n X w r a c [] [] W0) := ⟨h.below hbd, Mds.of_below (B := B) I.own hbd h.Bw, by rw [hW0]; exact rbx_new _ _ _ _ _, fun b hb => by simp at hb, fun x hx => by simp at hx⟩
  have HS0 := hide (And.intro M0.out.rc.c12 M0.out.rc.c13)
  have HL := hide (hl.below hbd)
  have HLT := hide (fun i (hi : I.own i) => h.lt hi)
  have HBW := hide h.Bw
  have HOK := hide hok
  have HV := hide hv
  have HF := hide hf
  have HT := hide ht
  have HD := hide hd
  have HN := hide hn
  have HM2 := hide hm2
  have HWD := hide hW0
  have HL0 := hide hl
  clear h hb1 hn hm2 hl hv hf ht hd hok hbd hW0
  go_enter Tryz.func38, Tryz.ntmps38
  go_upto_region 1 with fail
  rename_i KK hKK
  have REST : ∀ (b5 b6 : Nat) (q1 q2 q3 : Int) (qa : Option Addr) (qm qc : Nat) (ql : List (Int × Int)) (p1 p2 p3 : Int) (pa : Option Addr) (pm pc : Nat) (pl : List (Int × Int)) (u7 u8 u9 u10 u11 u12 u13 u14 : Value) (W : World), ql.length = qm → pl.length = pm → X.vol r.f = ⟨q1, q2, q3, ql⟩ → (X.end r.f).vol r.t = ⟨p1, p2, p3, pl⟩ → MF B I (n + 1 + 1) ((X.end r.f).end r.t) w r a c b5 b6 q1 q2 q3 qa qm qc ql p1 p2 p3 pa pm pc pl W → KK { tmps := #[Value.pointer (some ⟨I.xb, 0, none⟩), Value.agg (rcs r a c), undef, Value.pointer (some ⟨w.heap.size, 0, none⟩), Value.slice none 0 0, Value.pointer (some ⟨b5, 0, none⟩), Value.pointer (some ⟨b6, 0, none⟩), u7, u8, u9, u10, u11, u12, u13, u14, undef, undef, undef, undef, undef, undef, undef, undef, undef, undef, undef, undef, undef, undef, undef, undef, undef, undef, undef, undef, undef, undef, undef], defers := [] } W := by
    intro b5 b6 q1 q2 q3 qa qm qc ql p1 p2 p3 pa pm pc pl u7 u8 u9 u10 u11 u12 u13 u14 W hql hpl hqd hpd hF
    refine hKK _ _ ?_
    have HQL := hide hql
    have HPL := hide hpl
    have HQD := hide hqd
    have HPD := hide hpd
    have HFF := hide hF
    clear hql hpl hqd hpd hF hKK M0 HS0 HL HWD
    have HLY := hide (ix_lay HFF.out.ix (by have := HN.out; omega) r.vid r.vgen r.vlen r.ls a r.ls.length c rfl HM2.out ((HL0.out.mod HFF.out.md).at) HV.out)
    obtain ⟨c0, c1, c2, c3, c4, c5, c6, c7, c8, c9, c10, c11, c12, c13⟩ := RBx.cells HFF.out.rc
    clear c0 c1 c6 c7 c8 c9 c10 c11 c12 c13
    go_wp2_with fail
    refine HLY.out.mono ?_
    rintro e w2 ⟨rfl, hX2, hM2⟩
    have hno : ∀ b, w.heap.size ≤ b → ¬ I.own b := fun b hb q => by have := HLT.out b q; omega
    have hr2 := (hM2.blk _ HFF.out.rc.lt (hno _ (Nat.le_refl _))).trans HFF.out.rc
    have hk5 := (hM2.blk _ (lt_of_block HFF.out.k5) (hno _ (Nat.le_of_lt HFF.out.n5))).trans HFF.out.k5
    have hk6 := (hM2.blk _ (lt_of_block HFF.out.k6) (hno _ (Nat.le_of_lt HFF.out.n6))).trans HFF.out.k6
    have HM2' := hide (HFF.out.md.trans hM2)
    have HL5 := hide (HFF.out.l5.mod hM2)
    have HL6 := hide (HFF.out.l6.mod hM2)
    have HNO := hide hno
    have HN5 := hide HFF.out.n5
    have HN6 := hide HFF.out.n6
    have hqv : (X.vol r.f).id = q1 ∧ (X.vol r.f).len = q3 := by rw [HQD.out]; exact ⟨rfl, rfl⟩
    have hpv : ((X.end r.f).vol r.t).id = p1 := by rw [HPD.out]
    have HQV := hide hqv
    have HPV := hide hpv
    have HDQ := hide (by have := HD.out; rw [hqv.2] at this; exact this : 0 ≤ q3 ∧ q3 ≤ 100000)
    have HC1 := hide (ix_carry hX2 (by have := HN.out; omega) (fun k e he => HOK.out k e he) q1 r.vid 0 (by omega))
    have HR2 := hide hr2
    have HK5 := hide hk5
    have HK6 := hide hk6
    have c2 := (show RBx w.heap.size 43 r a c w2 from hr2).c2
    obtain ⟨d0, d1, d2, d3⟩ := vcs hk5
    clear d1 d2 d3 c3 c4 c5 hX2 hM2 hr2 hk5 hk6 hqv hpv HLY HFF hno
    go_wp2_with fail
    refine HC1.out.mono ?_
    rintro e w3 ⟨rfl, hX3, hM3⟩
    have hr3 := (hM3.blk _ (lt_of_block HR2.out) (HNO.out _ (Nat.le_refl _))).trans HR2.out
    have hk5 := (hM3.blk _ (lt_of_block HK5.out) (HNO.out _ (Nat.le_of_lt HN5.out))).trans HK5.out
    have hk6 := (hM3.blk _ (lt_of_block HK6.out) (HNO.out _ (Nat.le_of_lt HN6.out))).trans HK6.out
    have HM3' := hide (HM2'.out.trans hM3)
    have HL7 := hide (HL5.out.mod hM3)
    have HL8 := hide (HL6.out.mod hM3)
    have HC2 := hide (ix_carry hX3 (by have := HN.out; omega) (fun k e he => by
      have he : carryT X.T q1 r.vid 0 k = some e := he
      unfold carryT at he
      cases hT : X.T k with
      | none => rw [hT] at he; cases he
      | some e0 =>
        rw [hT] at he
        have q := HOK.out k e0 hT
        simp only [Option.map_some, Option.some.injEq] at he
        subst he
        split
        · exact ⟨q.1, by simp only; omega, by simp only; omega⟩
        · exact q) p1 r.vid q3 HDQ.out)
    have HR3 := hide hr3
    have HK5' := hide hk5
    have HK6' := hide hk6
    have c2' := (show RBx w.heap.size 43 r a c w3 from hr3).c2
    obtain ⟨e0, e1, e2, e3⟩ := vcs hk5
    obtain ⟨f0, f1, f2, f3⟩ := vcs hk6
    clear e0 e1 e3 f1 f2 f3 c2 d0 hX3 hM3 hr3 hk5 hk6 HC1 HL5 HL6 HM2' HR2 HK5 HK6
    go_wp2_with fail
    refine HC2.out.mono ?_
    rintro e w4 ⟨rfl, hX4, hM4⟩
    have hk5 := (hM4.blk _ (lt_of_block HK5'.out) (HNO.out _ (Nat.le_of_lt HN5.out))).trans HK5'.out
    have hk6 := (hM4.blk _ (lt_of_block HK6'.out) (HNO.out _ (Nat.le_of_lt HN6.out))).trans HK6'.out
    have HM4' := hide (HM3'.out.trans hM4)
    have HL9 := hide (HL7.out.mod hM4)
    have HL10 := hide (HL8.out.mod hM4)
    have HX4 := hide hX4
    obtain ⟨e0, e1, e3, e4⟩ := vcs hk5
    obtain ⟨g0, g1, g2, g3⟩ := vcs hk6
    clear e2 f0 c2' hX4 hM4 hk5 hk6 HC2 HL7 HL8 HM3' HR3 HK5' HK6'
    go_wp2_with fail
    try go_ret
    have hb9 : Below w4.heap.size w4 (w4.alloc (.cells #[.int .i64 q1, .int .i64 q2, .int .i64 q3, .slice qa qm qc, .int .i64 p1, .int .i64 p2, .int .i64 p3, .slice pa pm pc] 36)) := (Below.refl _ _).alloc (Nat.le_refl _) _
    have ho : X.mrgO r = [⟨q1, q2, q3, ql⟩, ⟨p1, p2, p3, pl⟩] := by unfold FX.mrgO; rw [HQD.out, HPD.out]
    have hx : X.mrg r = (((((X.end r.f).end r.t).lay ⟨r.vid, r.vgen, r.vlen, r.ls⟩).carry q1 r.vid 0).carry p1 r.vid q3) := by unfold FX.mrg; rw [HQV.out.1, HQV.out.2, HPV.out]; rfl
    refine ⟨some ⟨w4.heap.size, 0, none⟩, 2, by rw [ho]; rfl, by rw [ho]; exact Nat.le_refl _, ?_, ?_, HM4'.out.trans (Mds.of_below (B := B) I.own hb9 HX4.out.Bw)⟩
    · rw [ho]; exact ⟨two_vos HQL.out HPL.out HL9.out HL10.out, vot_new _ _⟩
    · rw [hx]; exact (HX4.out.mono (by omega)).below hb9
  clear hKK HOK HD HN HM2 HL HV
  refine wp_region_noPanic ?_
  refine wp_region_held_drew (S := fun w' => w'.cell? ⟨w.heap.size, 12, none⟩ = some (.int .i64 r.f) ∧ w'.cell? ⟨w.heap.size, 13, none⟩ = some (.int .i64 r.t)) (by kernel_rfl) (by rw [← HWD.out]; exact HS0.out) (fun hHeld => ?_)
  rw [← HWD.out] at hHeld ⊢
  clear HWD
  refine wpAnyH_take (i := 0) (v := ?v1) rfl (by kernel_rfl) (by kernel_rfl) (by kernel_rfl) (fun _ _ _ h => h) (Or.inl ⟨by rfl, ?hy1⟩) hHeld ?rest1
  case hy1 => (intro w' hSw; obtain ⟨s0, s1⟩ := hSw; go_simp; try with_reducible rfl)
  try simp [Act.put]
  refine wpAnyH_take (i := 1) (v := ?v2) rfl (by kernel_rfl) (by kernel_rfl) (by kernel_rfl) (fun _ _ _ h => h) (Or.inl ⟨by rfl, ?hy2⟩) hHeld ?rest2
  case hy2 => (intro w' hSw; obtain ⟨s0, s1⟩ := hSw; go_simp; try with_reducible rfl)
  try simp [Act.put]
  refine wpAnyH_take (i := 2) (v := ?v3) rfl (by kernel_rfl) (by kernel_rfl) (by kernel_rfl) (fun _ _ _ h => h) (Or.inl ⟨by rfl, ?hy3⟩) hHeld ?rest3
  case hy3 => (intro w' hSw; obtain ⟨s0, s1⟩ := hSw; go_simp; try with_reducible rfl)
  try simp [Act.put]
  refine wpAnyH_take (i := 4) (v := ?v4) rfl (by kernel_rfl) (by kernel_rfl) (by kernel_rfl) (fun _ _ _ h => h) (Or.inl ⟨by rfl, ?hy4⟩) hHeld ?rest4
  case hy4 => (intro w' hSw; obtain ⟨s0, s1⟩ := hSw; go_simp; try with_reducible rfl)
  try simp [Act.put]
  refine wpAnyH_take (i := 5) (v := ?v5) rfl (by kernel_rfl) (by kernel_rfl) (by kernel_rfl) (fun _ _ _ h => h) (Or.inl ⟨by rfl, ?hy5⟩) hHeld ?rest5
  case hy5 => (intro w' hSw; obtain ⟨s0, s1⟩ := hSw; go_simp; try with_reducible rfl)
  try simp [Act.put]
  refine wpAnyH_take (i := 6) (v := ?v6) rfl (by kernel_rfl) (by kernel_rfl) (by kernel_rfl) (fun _ _ _ h => h) (Or.inl ⟨by rfl, ?hy6⟩) hHeld ?rest6
  case hy6 => (intro w' hSw; obtain ⟨s0, s1⟩ := hSw; go_simp; try with_reducible rfl)
  try simp [Act.put]
  refine wpAnyH_ready (rs := [3, 8, 9]) (by kernel_rfl) (by simp) ?_
  refine AllReadyH.cons rfl (fun K hK => ?_) (AllReadyH.cons rfl (fun K hK => ?_) (AllReadyH.cons rfl (fun K hK => ?_) AllReadyH.nil))
  · go_simp
    refine (ms_end M0.out HLT.out r.f HF.out).mono ?_
    rintro e W2 ⟨q1, q2, q3, ql, qa, qm, qc, rfl, hql, hqd, hm⟩
    have HQL := hide hql
    have HQD := hide hqd
    have M1 := hide hm
    clear hql hqd hm
    have HSM1 := hide (And.intro M1.out.rc.c12 M1.out.rc.c13)
    refine hK.out _ _ HSM1.out (fun hHeld => ?_)
    clear hK K
    try simp [Act.put]
    refine wpAnyH_ready (rs := [7, 8, 9]) (by kernel_rfl) (by simp) ?_
    refine AllReadyH.cons rfl (fun K hK => ?_) (AllReadyH.cons rfl (fun K hK => ?_) (AllReadyH.cons rfl (fun K hK => ?_) AllReadyH.nil))
    · go_simp
      refine (ms_end M1.out HLT.out r.t HT.out).mono ?_
      rintro e W4 ⟨p1, p2, p3, pl, pa, pm, pc, rfl, hpl, hpd, hm⟩
      have HPL := hide hpl
      have HPD := hide hpd
      have M3 := hide hm
      clear hpl hpd hm
      have HSM3 := hide (And.intro M3.out.rc.c12 M3.out.rc.c13)
      refine hK.out _ _ HSM3.out (fun hHeld => ?_)
      clear hK K
      try simp [Act.put]
      refine wpAnyH_ready (rs := [8, 9]) (by kernel_rfl) (by simp) ?_
      refine AllReadyH.cons rfl (fun K hK => ?_) (AllReadyH.cons rfl (fun K hK => ?_) AllReadyH.nil)
      · go_simp
        have M5a := hide M3.out.alloc
        have M5 : Hid (MS B I _ _ w r a c _ _ (W4.alloc (.cells #[.int .i64 0, .int .i64 0, .int .i64 0, .slice none 0 0] 36))) := hide M5a.out.1
        have HNW4 := hide M5a.out.2
        have HSM5 := hide (And.intro M5.out.rc.c12 M5.out.rc.c13)
        refine hK.out _ _ HSM5.out (fun hHeld => ?_)
        clear hK K
        try simp [Act.put]
        clear M5a
        generalize W4.alloc (.cells #[.int .i64 0, .int .i64 0, .int .i64 0, .slice none 0 0] 36) = W6 at *
        refine wpAnyH_ready (rs := [9]) (by kernel_rfl) (by simp) ?_
        refine AllReadyH.cons rfl (fun K hK => ?_) AllReadyH.nil
        go_simp
        have M7a := hide M5.out.alloc
        have M7 : Hid (MS B I _ _ w r a c _ _ (W6.alloc (.cells #[.int .i64 0, .int .i64 0, .int .i64 0, .slice none 0 0] 36))) := hide M7a.out.1
        have HNW6 := hide M7a.out.2
        have HSM7 := hide (And.intro M7.out.rc.c12 M7.out.rc.c13)
        refine hK.out _ _ HSM7.out (fun hHeld => ?_)
        clear hK K
        try simp [Act.put]
        clear M7a
        generalize W6.alloc (.cells #[.int .i64 0, .int .i64 0, .int .i64 0, .slice none 0 0] 36) = W8 at *
        have HFM7 := hide (MS.fin (q1 := q1) (q2 := q2) (q3 := q3) (qa := qa) (qm := qm) (qc := qc) (ql := ql) (p1 := p1) (p2 := p2) (p3 := p3) (pa := pa) (pm := pm) (pc := pc) (pl := pl) M7.out HLT.out HBW.out (b5 := W4.heap.size) (b6 := W6.heap.size) (by simp) (by simp) (fun e => HNW6.out (by simp [e])))
        have HTM7 := hide (And.intro HFM7.out.2.1.c12 HFM7.out.2.1.c13)
        have HUM7 := hide (And.intro HFM7.out.2.2.rc.c12 HFM7.out.2.2.rc.c13)
        refine wpAnyH_ready (rs := [10]) (by kernel_rfl) (by simp) ?_
        refine AllReadyH.cons rfl (fun K hK => ?_) AllReadyH.nil
        rw [if_pos (by simp [Region.wanted])]
        refine wp_store_row 36 (.tmp 5) (.tmp 10) rfl (W4.heap.size) #[.int .i64 q1, .int .i64 q2, .int .i64 q3, .slice qa qm qc] (by simp [Act.eval]) (by simp [Act.eval]) 36 _ HFM7.out.1.1 vol_size4 rfl (vol_one _ _ _ _ _ _) ?_
        refine hK.out _ _ HTM7.out (fun hHeld => ?_)
        clear hK K
        try simp [Act.put]
        refine wpAnyH_ready (rs := [11]) (by kernel_rfl) (by simp) ?_
        refine AllReadyH.cons rfl (fun K hK => ?_) AllReadyH.nil
        rw [if_pos (by simp [Region.wanted])]
        refine wp_store_row 36 (.tmp 6) (.tmp 14) rfl (W6.heap.size) #[.int .i64 p1, .int .i64 p2, .int .i64 p3, .slice pa pm pc] (by simp [Act.eval]) (by simp [Act.eval]) 36 _ HFM7.out.1.2 vol_size4 rfl (vol_one _ _ _ _ _ _) ?_
        refine hK.out _ _ HUM7.out (fun hHeld => ?_)
        clear hK K
        try simp [Act.put]
        refine wpAnyH_done (by kernel_rfl) (NoPanic.normal ?_) _
        exact REST _ _ _ _ _ _ _ _ _ _ _ _ _ _ _ _ _ _ _ _ _ _ _ _ _ HQL.out HPL.out HQD.out HPD.out HFM7.out.2.2
      · go_simp
        have M9a := hide M3.out.alloc
        have M9 : Hid (MS B I _ _ w r a c _ _ (W4.alloc (.cells #[.int .i64 0, .int .i64 0, .int .i64 0, .slice none 0 0] 36))) := hide M9a.out.1
        have HNW4 := hide M9a.out.2
        have HSM9 := hide (And.intro M9.out.rc.c12 M9.out.rc.c13)
        refine hK.out _ _ HSM9.out (fun hHeld => ?_)
        clear hK K
        try simp [Act.put]
        clear M9a
        generalize W4.alloc (.cells #[.int .i64 0, .int .i64 0, .int .i64 0, .slice none 0 0] 36) = W10 at *
        refine wpAnyH_ready (rs := [8]) (by kernel_rfl) (by simp) ?_
        refine AllReadyH.cons rfl (fun K hK => ?_) AllReadyH.nil
        go_simp
        have M11a := hide M9.out.alloc
        have M11 : Hid (MS B I _ _ w r a c _ _ (W10.alloc (.cells #[.int .i64 0, .int .i64 0, .int .i64 0, .slice none 0 0] 36))) := hide M11a.out.1
        have HNW10 := hide M11a.out.2
        have HSM11 := hide (And.intro M11.out.rc.c12 M11.out.rc.c13)
        refine hK.out _ _ HSM11.out (fun hHeld => ?_)
        clear hK K
        try simp [Act.put]
        clear M11a
        generalize W10.alloc (.cells #[.int .i64 0, .int .i64 0, .int .i64 0, .slice none 0 0] 36) = W12 at *
        have HFM11 := hide (MS.fin (q1 := q1) (q2 := q2) (q3 := q3) (qa := qa) (qm := qm) (qc := qc) (ql := ql) (p1 := p1) (p2 := p2) (p3 := p3) (pa := pa) (pm := pm) (pc := pc) (pl := pl) M11.out HLT.out HBW.out (b5 := W10.heap.size) (b6 := W4.heap.size) (by simp) (by simp) (fun e => HNW10.out (by simp [e])))
        have HTM11 := hide (And.intro HFM11.out.2.1.c12 HFM11.out.2.1.c13)
        have HUM11 := hide (And.intro HFM11.out.2.2.rc.c12 HFM11.out.2.2.rc.c13)
        refine wpAnyH_ready (rs := [10]) (by kernel_rfl) (by simp) ?_
        refine AllReadyH.cons rfl (fun K hK => ?_) AllReadyH.nil
        rw [if_pos (by simp [Region.wanted])]
        refine wp_store_row 36 (.tmp 5) (.tmp 10) rfl (W10.heap.size) #[.int .i64 q1, .int .i64 q2, .int .i64 q3, .slice qa qm qc] (by simp [Act.eval]) (by simp [Act.eval]) 36 _ HFM11.out.1.1 vol_size4 rfl (vol_one _ _ _ _ _ _) ?_
        refine hK.out _ _ HTM11.out (fun hHeld => ?_)
        clear hK K
        try simp [Act.put]
        refine wpAnyH_ready (rs := [11]) (by kernel_rfl) (by simp) ?_
        refine AllReadyH.cons rfl (fun K hK => ?_) AllReadyH.nil
        rw [if_pos (by simp [Region.wanted])]
        refine wp_store_row 36 (.tmp 6) (.tmp 14) rfl (W4.heap.size) #[.int .i64 p1, .int .i64 p2, .int .i64 p3, .slice pa pm pc] (by simp [Act.eval]) (by simp [Act.eval]) 36 _ HFM11.out.1.2 vol_size4 rfl (vol_one _ _ _ _ _ _) ?_
        refine hK.out _ _ HUM11.out (fun hHeld => ?_)
        clear hK K
        try simp [Act.put]
        refine wpAnyH_done (by kernel_rfl) (NoPanic.normal ?_) _
        exact REST _ _ _ _ _ _ _ _ _ _ _ _ _ _ _ _ _ _ _ _ _ _ _ _ _ HQL.out HPL.out HQD.out HPD.out HFM11.out.2.2
    · go_simp
      have M13a := hide M1.out.alloc
      have M13 : Hid (MS B I _ _ w r a c _ _ (W2.alloc (.cells #[.int .i64 0, .int .i64 0, .int .i64 0, .slice none 0 0] 36))) := hide M13a.out.1
      have HNW2 := hide M13a.out.2
      have HSM13 := hide (And.intro M13.out.rc.c12 M13.out.rc.c13)
      refine hK.out _ _ HSM13.out (fun hHeld => ?_)
      clear hK K
      try simp [Act.put]
      clear M13a
      generalize W2.alloc (.cells #[.int .i64 0, .int .i64 0, .int .i64 0, .slice none 0 0] 36) = W14 at *
      refine wpAnyH_ready (rs := [7, 9]) (by kernel_rfl) (by simp) ?_
      refine AllReadyH.cons rfl (fun K hK => ?_) (AllReadyH.cons rfl (fun K hK => ?_) AllReadyH.nil)
      · go_simp
        refine (ms_end M13.out HLT.out r.t HT.out).mono ?_
        rintro e W16 ⟨p1, p2, p3, pl, pa, pm, pc, rfl, hpl, hpd, hm⟩
        have HPL := hide hpl
        have HPD := hide hpd
        have M15 := hide hm
        clear hpl hpd hm
        have HSM15 := hide (And.intro M15.out.rc.c12 M15.out.rc.c13)
        refine hK.out _ _ HSM15.out (fun hHeld => ?_)
        clear hK K
        try simp [Act.put]
        refine wpAnyH_ready (rs := [9]) (by kernel_rfl) (by simp) ?_
        refine AllReadyH.cons rfl (fun K hK => ?_) AllReadyH.nil
        go_simp
        have M17a := hide M15.out.alloc
        have M17 : Hid (MS B I _ _ w r a c _ _ (W16.alloc (.cells #[.int .i64 0, .int .i64 0, .int .i64 0, .slice none 0 0] 36))) := hide M17a.out.1
        have HNW16 := hide M17a.out.2
        have HSM17 := hide (And.intro M17.out.rc.c12 M17.out.rc.c13)
        refine hK.out _ _ HSM17.out (fun hHeld => ?_)
        clear hK K
        try simp [Act.put]
        clear M17a
        generalize W16.alloc (.cells #[.int .i64 0, .int .i64 0, .int .i64 0, .slice none 0 0] 36) = W18 at *
        have HFM17 := hide (MS.fin (q1 := q1) (q2 := q2) (q3 := q3) (qa := qa) (qm := qm) (qc := qc) (ql := ql) (p1 := p1) (p2 := p2) (p3 := p3) (pa := pa) (pm := pm) (pc := pc) (pl := pl) M17.out HLT.out HBW.out (b5 := W2.heap.size) (b6 := W16.heap.size) (by simp) (by simp) (fun e => HNW16.out (by simp [e])))
        have HTM17 := hide (And.intro HFM17.out.2.1.c12 HFM17.out.2.1.c13)
        have HUM17 := hide (And.intro HFM17.out.2.2.rc.c12 HFM17.out.2.2.rc.c13)
        refine wpAnyH_ready (rs := [10]) (by kernel_rfl) (by simp) ?_
        refine AllReadyH.cons rfl (fun K hK => ?_) AllReadyH.nil
        rw [if_pos (by simp [Region.wanted])]
        refine wp_store_row 36 (.tmp 5) (.tmp 10) rfl (W2.heap.size) #[.int .i64 q1, .int .i64 q2, .int .i64 q3, .slice qa qm qc] (by simp [Act.eval]) (by simp [Act.eval]) 36 _ HFM17.out.1.1 vol_size4 rfl (vol_one _ _ _ _ _ _) ?_
        refine hK.out _ _ HTM17.out (fun hHeld => ?_)
        clear hK K
        try simp [Act.put]
        refine wpAnyH_ready (rs := [11]) (by kernel_rfl) (by simp) ?_
        refine AllReadyH.cons rfl (fun K hK => ?_) AllReadyH.nil
        rw [if_pos (by simp [Region.wanted])]
        refine wp_store_row 36 (.tmp 6) (.tmp 14) rfl (W16.heap.size) #[.int .i64 p1, .int .i64 p2, .int .i64 p3, .slice pa pm pc] (by simp [Act.eval]) (by simp [Act.eval]) 36 _ HFM17.out.1.2 vol_size4 rfl (vol_one _ _ _ _ _ _) ?_
        refine hK.out _ _ HUM17.out (fun hHeld => ?_)
        clear hK K
        try simp [Act.put]
        refine wpAnyH_done (by kernel_rfl) (NoPanic.normal ?_) _
        exact REST _ _ _ _ _ _ _ _ _ _ _ _ _ _ _ _ _ _ _ _ _ _ _ _ _ HQL.out HPL.out HQD.out HPD.out HFM17.out.2.2
      · go_simp
        have M19a := hide M13.out.alloc
        have M19 : Hid (MS B I _ _ w r a c _ _ (W14.alloc (.cells #[.int .i64 0, .int .i64 0, .int .i64 0, .slice none 0 0] 36))) := hide M19a.out.1
        have HNW14 := hide M19a.out.2
        have HSM19 := hide (And.intro M19.out.rc.c12 M19.out.rc.c13)
        refine hK.out _ _ HSM19.out (fun hHeld => ?_)
        clear hK K
        try simp [Act.put]
        clear M19a
        generalize W14.alloc (.cells #[.int .i64 0, .int .i64 0, .int .i64 0, .slice none 0 0] 36) = W20 at *
        refine wpAnyH_ready (rs := [7]) (by kernel_rfl) (by simp) ?_
        refine AllReadyH.cons rfl (fun K hK => ?_) AllReadyH.nil
        go_simp
        refine (ms_end M19.out HLT.out r.t HT.out).mono ?_
        rintro e W22 ⟨p1, p2, p3, pl, pa, pm, pc, rfl, hpl, hpd, hm⟩
        have HPL := hide hpl
        have HPD := hide hpd
        have M21 := hide hm
        clear hpl hpd hm
        have HSM21 := hide (And.intro M21.out.rc.c12 M21.out.rc.c13)
        refine hK.out _ _ HSM21.out (fun hHeld => ?_)
        clear hK K
        try simp [Act.put]
        have HFM21 := hide (MS.fin (q1 := q1) (q2 := q2) (q3 := q3) (qa := qa) (qm := qm) (qc := qc) (ql := ql) (p1 := p1) (p2 := p2) (p3 := p3) (pa := pa) (pm := pm) (pc := pc) (pl := pl) M21.out HLT.out HBW.out (b5 := W2.heap.size) (b6 := W14.heap.size) (by simp) (by simp) (fun e => HNW14.out (by simp [e])))
        have HTM21 := hide (And.intro HFM21.out.2.1.c12 HFM21.out.2.1.c13)
        have HUM21 := hide (And.intro HFM21.out.2.2.rc.c12 HFM21.out.2.2.rc.c13)
        refine wpAnyH_ready (rs := [10]) (by kernel_rfl) (by simp) ?_
        refine AllReadyH.cons rfl (fun K hK => ?_) AllReadyH.nil
        rw [if_pos (by simp [Region.wanted])]
        refine wp_store_row 36 (.tmp 5) (.tmp 10) rfl (W2.heap.size) #[.int .i64 q1, .int .i64 q2, .int .i64 q3, .slice qa qm qc] (by simp [Act.eval]) (by simp [Act.eval]) 36 _ HFM21.out.1.1 vol_size4 rfl (vol_one _ _ _ _ _ _) ?_
        refine hK.out _ _ HTM21.out (fun hHeld => ?_)
        clear hK K
        try simp [Act.put]
        refine wpAnyH_ready (rs := [11]) (by kernel_rfl) (by simp) ?_
        refine AllReadyH.cons rfl (fun K hK => ?_) AllReadyH.nil
        rw [if_pos (by simp [Region.wanted])]
        refine wp_store_row 36 (.tmp 6) (.tmp 14) rfl (W14.heap.size) #[.int .i64 p1, .int .i64 p2, .int .i64 p3, .slice pa pm pc] (by simp [Act.eval]) (by simp [Act.eval]) 36 _ HFM21.out.1.2 vol_size4 rfl (vol_one _ _ _ _ _ _) ?_
        refine hK.out _ _ HUM21.out (fun hHeld => ?_)
        clear hK K
        try simp [Act.put]
        refine wpAnyH_done (by kernel_rfl) (NoPanic.normal ?_) _
        exact REST _ _ _ _ _ _ _ _ _ _ _ _ _ _ _ _ _ _ _ _ _ _ _ _ _ HQL.out HPL.out HQD.out HPD.out HFM21.out.2.2
    · go_simp
      have M23a := hide M1.out.alloc
      have M23 : Hid (MS B I _ _ w r a c _ _ (W2.alloc (.cells #[.int .i64 0, .int .i64 0, .int .i64 0, .slice none 0 0] 36))) := hide M23a.out.1
      have HNW2 := hide M23a.out.2
      have HSM23 := hide (And.intro M23.out.rc.c12 M23.out.rc.c13)
      refine hK.out _ _ HSM23.out (fun hHeld => ?_)
      clear hK K
      try simp [Act.put]
      clear M23a
      generalize W2.alloc (.cells #[.int .i64 0, .int .i64 0, .int .i64 0, .slice none 0 0] 36) = W24 at *
      refine wpAnyH_ready (rs := [7, 8]) (by kernel_rfl) (by simp) ?_
      refine AllReadyH.cons rfl (fun K hK => ?_) (AllReadyH.cons rfl (fun K hK => ?_) AllReadyH.nil)
      · go_simp
        refine (ms_end M23.out HLT.out r.t HT.out).mono ?_
        rintro e W26 ⟨p1, p2, p3, pl, pa, pm, pc, rfl, hpl, hpd, hm⟩
        have HPL := hide hpl
        have HPD := hide hpd
        have M25 := hide hm
        clear hpl hpd hm
        have HSM25 := hide (And.intro M25.out.rc.c12 M25.out.rc.c13)
        refine hK.out _ _ HSM25.out (fun hHeld => ?_)
        clear hK K
        try simp [Act.put]
        refine wpAnyH_ready (rs := [8]) (by kernel_rfl) (by simp) ?_
        refine AllReadyH.cons rfl (fun K hK => ?_) AllReadyH.nil
        go_simp
        have M27a := hide M25.out.alloc
        have M27 : Hid (MS B I _ _ w r a c _ _ (W26.alloc (.cells #[.int .i64 0, .int .i64 0, .int .i64 0, .slice none 0 0] 36))) := hide M27a.out.1
        have HNW26 := hide M27a.out.2
        have HSM27 := hide (And.intro M27.out.rc.c12 M27.out.rc.c13)
        refine hK.out _ _ HSM27.out (fun hHeld => ?_)
        clear hK K
        try simp [Act.put]
        clear M27a
        generalize W26.alloc (.cells #[.int .i64 0, .int .i64 0, .int .i64 0, .slice none 0 0] 36) = W28 at *
        have HFM27 := hide (MS.fin (q1 := q1) (q2 := q2) (q3 := q3) (qa := qa) (qm := qm) (qc := qc) (ql := ql) (p1 := p1) (p2 := p2) (p3 := p3) (pa := pa) (pm := pm) (pc := pc) (pl := pl) M27.out HLT.out HBW.out (b5 := W26.heap.size) (b6 := W2.heap.size) (by simp) (by simp) (fun e => HNW26.out (by simp [e])))
        have HTM27 := hide (And.intro HFM27.out.2.1.c12 HFM27.out.2.1.c13)
        have HUM27 := hide (And.intro HFM27.out.2.2.rc.c12 HFM27.out.2.2.rc.c13)
        refine wpAnyH_ready (rs := [10]) (by kernel_rfl) (by simp) ?_
        refine AllReadyH.cons rfl (fun K hK => ?_) AllReadyH.nil
        rw [if_pos (by simp [Region.wanted])]
        refine wp_store_row 36 (.tmp 5) (.tmp 10) rfl (W26.heap.size) #[.int .i64 q1, .int .i64 q2, .int .i64 q3, .slice qa qm qc] (by simp [Act.eval]) (by simp [Act.eval]) 36 _ HFM27.out.1.1 vol_size4 rfl (vol_one _ _ _ _ _ _) ?_
        refine hK.out _ _ HTM27.out (fun hHeld => ?_)
        clear hK K
        try simp [Act.put]
        refine wpAnyH_ready (rs := [11]) (by kernel_rfl) (by simp) ?_
        refine AllReadyH.cons rfl (fun K hK => ?_) AllReadyH.nil
        rw [if_pos (by simp [Region.wanted])]
        refine wp_store_row 36 (.tmp 6) (.tmp 14) rfl (W2.heap.size) #[.int .i64 p1, .int .i64 p2, .int .i64 p3, .slice pa pm pc] (by simp [Act.eval]) (by simp [Act.eval]) 36 _ HFM27.out.1.2 vol_size4 rfl (vol_one _ _ _ _ _ _) ?_
        refine hK.out _ _ HUM27.out (fun hHeld => ?_)
        clear hK K
        try simp [Act.put]
        refine wpAnyH_done (by kernel_rfl) (NoPanic.normal ?_) _
        exact REST _ _ _ _ _ _ _ _ _ _ _ _ _ _ _ _ _ _ _ _ _ _ _ _ _ HQL.out HPL.out HQD.out HPD.out HFM27.out.2.2
      · go_simp
        have M29a := hide M23.out.alloc
        have M29 : Hid (MS B I _ _ w r a c _ _ (W24.alloc (.cells #[.int .i64 0, .int .i64 0, .int .i64 0, .slice none 0 0] 36))) := hide M29a.out.1
        have HNW24 := hide M29a.out.2
        have HSM29 := hide (And.intro M29.out.rc.c12 M29.out.rc.c13)
        refine hK.out _ _ HSM29.out (fun hHeld => ?_)
        clear hK K
        try simp [Act.put]
        clear M29a
        generalize W24.alloc (.cells #[.int .i64 0, .int .i64 0, .int .i64 0, .slice none 0 0] 36) = W30 at *
        refine wpAnyH_ready (rs := [7]) (by kernel_rfl) (by simp) ?_
        refine AllReadyH.cons rfl (fun K hK => ?_) AllReadyH.nil
        go_simp
        refine (ms_end M29.out HLT.out r.t HT.out).mono ?_
        rintro e W32 ⟨p1, p2, p3, pl, pa, pm, pc, rfl, hpl, hpd, hm⟩
        have HPL := hide hpl
        have HPD := hide hpd
        have M31 := hide hm
        clear hpl hpd hm
        have HSM31 := hide (And.intro M31.out.rc.c12 M31.out.rc.c13)
        refine hK.out _ _ HSM31.out (fun hHeld => ?_)
        clear hK K
        try simp [Act.put]
        have HFM31 := hide (MS.fin (q1 := q1) (q2 := q2) (q3 := q3) (qa := qa) (qm := qm) (qc := qc) (ql := ql) (p1 := p1) (p2 := p2) (p3 := p3) (pa := pa) (pm := pm) (pc := pc) (pl := pl) M31.out HLT.out HBW.out (b5 := W24.heap.size) (b6 := W2.heap.size) (by simp) (by simp) (fun e => HNW24.out (by simp [e])))
        have HTM31 := hide (And.intro HFM31.out.2.1.c12 HFM31.out.2.1.c13)
        have HUM31 := hide (And.intro HFM31.out.2.2.rc.c12 HFM31.out.2.2.rc.c13)
        refine wpAnyH_ready (rs := [10]) (by kernel_rfl) (by simp) ?_
        refine AllReadyH.cons rfl (fun K hK => ?_) AllReadyH.nil
        rw [if_pos (by simp [Region.wanted])]
        refine wp_store_row 36 (.tmp 5) (.tmp 10) rfl (W24.heap.size) #[.int .i64 q1, .int .i64 q2, .int .i64 q3, .slice qa qm qc] (by simp [Act.eval]) (by simp [Act.eval]) 36 _ HFM31.out.1.1 vol_size4 rfl (vol_one _ _ _ _ _ _) ?_
        refine hK.out _ _ HTM31.out (fun hHeld => ?_)
        clear hK K
        try simp [Act.put]
        refine wpAnyH_ready (rs := [11]) (by kernel_rfl) (by simp) ?_
        refine AllReadyH.cons rfl (fun K hK => ?_) AllReadyH.nil
        rw [if_pos (by simp [Region.wanted])]
        refine wp_store_row 36 (.tmp 6) (.tmp 14) rfl (W2.heap.size) #[.int .i64 p1, .int .i64 p2, .int .i64 p3, .slice pa pm pc] (by simp [Act.eval]) (by simp [Act.eval]) 36 _ HFM31.out.1.2 vol_size4 rfl (vol_one _ _ _ _ _ _) ?_
        refine hK.out _ _ HUM31.out (fun hHeld => ?_)
        clear hK K
        try simp [Act.put]
        refine wpAnyH_done (by kernel_rfl) (NoPanic.normal ?_) _
        exact REST _ _ _ _ _ _ _ _ _ _ _ _ _ _ _ _ _ _ _ _ _ _ _ _ _ HQL.out HPL.out HQD.out HPD.out HFM31.out.2.2
  · go_simp
    have M33a := hide M0.out.alloc
    have M33 : Hid (MS B I _ _ w r a c _ _ (W0.alloc (.cells #[.int .i64 0, .int .i64 0, .int .i64 0, .slice none 0 0] 36))) := hide M33a.out.1
    have HNW0 := hide M33a.out.2
    have HSM33 := hide (And.intro M33.out.rc.c12 M33.out.rc.c13)
    refine hK.out _ _ HSM33.out (fun hHeld => ?_)
    clear hK K
    try simp [Act.put]
    clear M33a
    generalize W0.alloc (.cells #[.int .i64 0, .int .i64 0, .int .i64 0, .slice none 0 0] 36) = W34 at *
    refine wpAnyH_ready (rs := [3, 9]) (by kernel_rfl) (by simp) ?_
    refine AllReadyH.cons rfl (fun K hK => ?_) (AllReadyH.cons rfl (fun K hK => ?_) AllReadyH.nil)
    · go_simp
      refine (ms_end M33.out HLT.out r.f HF.out).mono ?_
      rintro e W36 ⟨q1, q2, q3, ql, qa, qm, qc, rfl, hql, hqd, hm⟩
      have HQL := hide hql
      have HQD := hide hqd
      have M35 := hide hm
      clear hql hqd hm
      have HSM35 := hide (And.intro M35.out.rc.c12 M35.out.rc.c13)
      refine hK.out _ _ HSM35.out (fun hHeld => ?_)
      clear hK K
      try simp [Act.put]
      refine wpAnyH_ready (rs := [7, 9]) (by kernel_rfl) (by simp) ?_
      refine AllReadyH.cons rfl (fun K hK => ?_) (AllReadyH.cons rfl (fun K hK => ?_) AllReadyH.nil)
      · go_simp
        refine (ms_end M35.out HLT.out r.t HT.out).mono ?_
        rintro e W38 ⟨p1, p2, p3, pl, pa, pm, pc, rfl, hpl, hpd, hm⟩
        have HPL := hide hpl
        have HPD := hide hpd
        have M37 := hide hm
        clear hpl hpd hm
        have HSM37 := hide (And.intro M37.out.rc.c12 M37.out.rc.c13)
        refine hK.out _ _ HSM37.out (fun hHeld => ?_)
        clear hK K
        try simp [Act.put]
        refine wpAnyH_ready (rs := [9]) (by kernel_rfl) (by simp) ?_
        refine AllReadyH.cons rfl (fun K hK => ?_) AllReadyH.nil
        go_simp
        have M39a := hide M37.out.alloc
        have M39 : Hid (MS B I _ _ w r a c _ _ (W38.alloc (.cells #[.int .i64 0, .int .i64 0, .int .i64 0, .slice none 0 0] 36))) := hide M39a.out.1
        have HNW38 := hide M39a.out.2
        have HSM39 := hide (And.intro M39.out.rc.c12 M39.out.rc.c13)
        refine hK.out _ _ HSM39.out (fun hHeld => ?_)
        clear hK K
        try simp [Act.put]
        clear M39a
        generalize W38.alloc (.cells #[.int .i64 0, .int .i64 0, .int .i64 0, .slice none 0 0] 36) = W40 at *
        have HFM39 := hide (MS.fin (q1 := q1) (q2 := q2) (q3 := q3) (qa := qa) (qm := qm) (qc := qc) (ql := ql) (p1 := p1) (p2 := p2) (p3 := p3) (pa := pa) (pm := pm) (pc := pc) (pl := pl) M39.out HLT.out HBW.out (b5 := W0.heap.size) (b6 := W38.heap.size) (by simp) (by simp) (fun e => HNW38.out (by simp [e])))
        have HTM39 := hide (And.intro HFM39.out.2.1.c12 HFM39.out.2.1.c13)
        have HUM39 := hide (And.intro HFM39.out.2.2.rc.c12 HFM39.out.2.2.rc.c13)
        refine wpAnyH_ready (rs := [10]) (by kernel_rfl) (by simp) ?_
        refine AllReadyH.cons rfl (fun K hK => ?_) AllReadyH.nil
        rw [if_pos (by simp [Region.wanted])]
        refine wp_store_row 36 (.tmp 5) (.tmp 10) rfl (W0.heap.size) #[.int .i64 q1, .int .i64 q2, .int .i64 q3, .slice qa qm qc] (by simp [Act.eval]) (by simp [Act.eval]) 36 _ HFM39.out.1.1 vol_size4 rfl (vol_one _ _ _ _ _ _) ?_
        refine hK.out _ _ HTM39.out (fun hHeld => ?_)
        clear hK K
        try simp [Act.put]
        refine wpAnyH_ready (rs := [11]) (by kernel_rfl) (by simp) ?_
        refine AllReadyH.cons rfl (fun K hK => ?_) AllReadyH.nil
        rw [if_pos (by simp [Region.wanted])]
        refine wp_store_row 36 (.tmp 6) (.tmp 14) rfl (W38.heap.size) #[.int .i64 p1, .int .i64 p2, .int .i64 p3, .slice pa pm pc] (by simp [Act.eval]) (by simp [Act.eval]) 36 _ HFM39.out.1.2 vol_size4 rfl (vol_one _ _ _ _ _ _) ?_
        refine hK.out _ _ HUM39.out (fun hHeld => ?_)
        clear hK K
        try simp [Act.put]
        refine wpAnyH_done (by kernel_rfl) (NoPanic.normal ?_) _
        exact REST _ _ _ _ _ _ _ _ _ _ _ _ _ _ _ _ _ _ _ _ _ _ _ _ _ HQL.out HPL.out HQD.out HPD.out HFM39.out.2.2
      · go_simp
        have M41a := hide M35.out.alloc
        have M41 : Hid (MS B I _ _ w r a c _ _ (W36.alloc (.cells #[.int .i64 0, .int .i64 0, .int .i64 0, .slice none 0 0] 36))) := hide M41a.out.1
        have HNW36 := hide M41a.out.2
        have HSM41 := hide (And.intro M41.out.rc.c12 M41.out.rc.c13)
        refine hK.out _ _ HSM41.out (fun hHeld => ?_)
        clear hK K
        try simp [Act.put]
        clear M41a
        generalize W36.alloc (.cells #[.int .i64 0, .int .i64 0, .int .i64 0, .slice none 0 0] 36) = W42 at *
        refine wpAnyH_ready (rs := [7]) (by kernel_rfl) (by simp) ?_
        refine AllReadyH.cons rfl (fun K hK => ?_) AllReadyH.nil
        go_simp
        refine (ms_end M41.out HLT.out r.t HT.out).mono ?_
        rintro e W44 ⟨p1, p2, p3, pl, pa, pm, pc, rfl, hpl, hpd, hm⟩
        have HPL := hide hpl
        have HPD := hide hpd
        have M43 := hide hm
        clear hpl hpd hm
        have HSM43 := hide (And.intro M43.out.rc.c12 M43.out.rc.c13)
        refine hK.out _ _ HSM43.out (fun hHeld => ?_)
        clear hK K
        try simp [Act.put]
        have HFM43 := hide (MS.fin (q1 := q1) (q2 := q2) (q3 := q3) (qa := qa) (qm := qm) (qc := qc) (ql := ql) (p1 := p1) (p2 := p2) (p3 := p3) (pa := pa) (pm := pm) (pc := pc) (pl := pl) M43.out HLT.out HBW.out (b5 := W0.heap.size) (b6 := W36.heap.size) (by simp) (by simp) (fun e => HNW36.out (by simp [e])))
        have HTM43 := hide (And.intro HFM43.out.2.1.c12 HFM43.out.2.1.c13)
        have HUM43 := hide (And.intro HFM43.out.2.2.rc.c12 HFM43.out.2.2.rc.c13)
        refine wpAnyH_ready (rs := [10]) (by kernel_rfl) (by simp) ?_
        refine AllReadyH.cons rfl (fun K hK => ?_) AllReadyH.nil
        rw [if_pos (by simp [Region.wanted])]
        refine wp_store_row 36 (.tmp 5) (.tmp 10) rfl (W0.heap.size) #[.int .i64 q1, .int .i64 q2, .int .i64 q3, .slice qa qm qc] (by simp [Act.eval]) (by simp [Act.eval]) 36 _ HFM43.out.1.1 vol_size4 rfl (vol_one _ _ _ _ _ _) ?_
        refine hK.out _ _ HTM43.out (fun hHeld => ?_)
        clear hK K
        try simp [Act.put]
        refine wpAnyH_ready (rs := [11]) (by kernel_rfl) (by simp) ?_
        refine AllReadyH.cons rfl (fun K hK => ?_) AllReadyH.nil
        rw [if_pos (by simp [Region.wanted])]
        refine wp_store_row 36 (.tmp 6) (.tmp 14) rfl (W36.heap.size) #[.int .i64 p1, .int .i64 p2, .int .i64 p3, .slice pa pm pc] (by simp [Act.eval]) (by simp [Act.eval]) 36 _ HFM43.out.1.2 vol_size4 rfl (vol_one _ _ _ _ _ _) ?_
        refine hK.out _ _ HUM43.out (fun hHeld => ?_)
        clear hK K
        try simp [Act.put]
        refine wpAnyH_done (by kernel_rfl) (NoPanic.normal ?_) _
        exact REST _ _ _ _ _ _ _ _ _ _ _ _ _ _ _ _ _ _ _ _ _ _ _ _ _ HQL.out HPL.out HQD.out HPD.out HFM43.out.2.2
    · go_simp
      have M45a := hide M33.out.alloc
      have M45 : Hid (MS B I _ _ w r a c _ _ (W34.alloc (.cells #[.int .i64 0, .int .i64 0, .int .i64 0, .slice none 0 0] 36))) := hide M45a.out.1
      have HNW34 := hide M45a.out.2
      have HSM45 := hide (And.intro M45.out.rc.c12 M45.out.rc.c13)
      refine hK.out _ _ HSM45.out (fun hHeld => ?_)
      clear hK K
      try simp [Act.put]
      clear M45a
      generalize W34.alloc (.cells #[.int .i64 0, .int .i64 0, .int .i64 0, .slice none 0 0] 36) = W46 at *
      refine wpAnyH_ready (rs := [3]) (by kernel_rfl) (by simp) ?_
      refine AllReadyH.cons rfl (fun K hK => ?_) AllReadyH.nil
      go_simp
      refine (ms_end M45.out HLT.out r.f HF.out).mono ?_
      rintro e W48 ⟨q1, q2, q3, ql, qa, qm, qc, rfl, hql, hqd, hm⟩
      have HQL := hide hql
      have HQD := hide hqd
      have M47 := hide hm
      clear hql hqd hm
      have HSM47 := hide (And.intro M47.out.rc.c12 M47.out.rc.c13)
      refine hK.out _ _ HSM47.out (fun hHeld => ?_)
      clear hK K
      try simp [Act.put]
      refine wpAnyH_ready (rs := [7]) (by kernel_rfl) (by simp) ?_
      refine AllReadyH.cons rfl (fun K hK => ?_) AllReadyH.nil
      go_simp
      refine (ms_end M47.out HLT.out r.t HT.out).mono ?_
      rintro e W50 ⟨p1, p2, p3, pl, pa, pm, pc, rfl, hpl, hpd, hm⟩
      have HPL := hide hpl
      have HPD := hide hpd
      have M49 := hide hm
      clear hpl hpd hm
      have HSM49 := hide (And.intro M49.out.rc.c12 M49.out.rc.c13)
      refine hK.out _ _ HSM49.out (fun hHeld => ?_)
      clear hK K
      try simp [Act.put]
      have HFM49 := hide (MS.fin (q1 := q1) (q2 := q2) (q3 := q3) (qa := qa) (qm := qm) (qc := qc) (ql := ql) (p1 := p1) (p2 := p2) (p3 := p3) (pa := pa) (pm := pm) (pc := pc) (pl := pl) M49.out HLT.out HBW.out (b5 := W0.heap.size) (b6 := W34.heap.size) (by simp) (by simp) (fun e => HNW34.out (by simp [e])))
      have HTM49 := hide (And.intro HFM49.out.2.1.c12 HFM49.out.2.1.c13)
      have HUM49 := hide (And.intro HFM49.out.2.2.rc.c12 HFM49.out.2.2.rc.c13)
      refine wpAnyH_ready (rs := [10]) (by kernel_rfl) (by simp) ?_
      refine AllReadyH.cons rfl (fun K hK => ?_) AllReadyH.nil
      rw [if_pos (by simp [Region.wanted])]
      refine wp_store_row 36 (.tmp 5) (.tmp 10) rfl (W0.heap.size) #[.int .i64 q1, .int .i64 q2, .int .i64 q3, .slice qa qm qc] (by simp [Act.eval]) (by simp [Act.eval]) 36 _ HFM49.out.1.1 vol_size4 rfl (vol_one _ _ _ _ _ _) ?_
      refine hK.out _ _ HTM49.out (fun hHeld => ?_)
      clear hK K
      try simp [Act.put]
      refine wpAnyH_ready (rs := [11]) (by kernel_rfl) (by simp) ?_
      refine AllReadyH.cons rfl (fun K hK => ?_) AllReadyH.nil
      rw [if_pos (by simp [Region.wanted])]
      refine wp_store_row 36 (.tmp 6) (.tmp 14) rfl (W34.heap.size) #[.int .i64 p1, .int .i64 p2, .int .i64 p3, .slice pa pm pc] (by simp [Act.eval]) (by simp [Act.eval]) 36 _ HFM49.out.1.2 vol_size4 rfl (vol_one _ _ _ _ _ _) ?_
      refine hK.out _ _ HUM49.out (fun hHeld => ?_)
      clear hK K
      try simp [Act.put]
      refine wpAnyH_done (by kernel_rfl) (NoPanic.normal ?_) _
      exact REST _ _ _ _ _ _ _ _ _ _ _ _ _ _ _ _ _ _ _ _ _ _ _ _ _ HQL.out HPL.out HQD.out HPD.out HFM49.out.2.2
  · go_simp
    have M51a := hide M0.out.alloc
    have M51 : Hid (MS B I _ _ w r a c _ _ (W0.alloc (.cells #[.int .i64 0, .int .i64 0, .int .i64 0, .slice none 0 0] 36))) := hide M51a.out.1
    have HNW0 := hide M51a.out.2
    have HSM51 := hide (And.intro M51.out.rc.c12 M51.out.rc.c13)
    refine hK.out _ _ HSM51.out (fun hHeld => ?_)
    clear hK K
    try simp [Act.put]
    clear M51a
    generalize W0.alloc (.cells #[.int .i64 0, .int .i64 0, .int .i64 0, .slice none 0 0] 36) = W52 at *
    refine wpAnyH_ready (rs := [3, 8]) (by kernel_rfl) (by simp) ?_
    refine AllReadyH.cons rfl (fun K hK => ?_) (AllReadyH.cons rfl (fun K hK => ?_) AllReadyH.nil)
    · go_simp
      refine (ms_end M51.out HLT.out r.f HF.out).mono ?_
      rintro e W54 ⟨q1, q2, q3, ql, qa, qm, qc, rfl, hql, hqd, hm⟩
      have HQL := hide hql
      have HQD := hide hqd
      have M53 := hide hm
      clear hql hqd hm
      have HSM53 := hide (And.intro M53.out.rc.c12 M53.out.rc.c13)
      refine hK.out _ _ HSM53.out (fun hHeld => ?_)
      clear hK K
      try simp [Act.put]
      refine wpAnyH_ready (rs := [7, 8]) (by kernel_rfl) (by simp) ?_
      refine AllReadyH.cons rfl (fun K hK => ?_) (AllReadyH.cons rfl (fun K hK => ?_) AllReadyH.nil)
      · go_simp
        refine (ms_end M53.out HLT.out r.t HT.out).mono ?_
        rintro e W56 ⟨p1, p2, p3, pl, pa, pm, pc, rfl, hpl, hpd, hm⟩
        have HPL := hide hpl
        have HPD := hide hpd
        have M55 := hide hm
        clear hpl hpd hm
        have HSM55 := hide (And.intro M55.out.rc.c12 M55.out.rc.c13)
        refine hK.out _ _ HSM55.out (fun hHeld => ?_)
        clear hK K
        try simp [Act.put]
        refine wpAnyH_ready (rs := [8]) (by kernel_rfl) (by simp) ?_
        refine AllReadyH.cons rfl (fun K hK => ?_) AllReadyH.nil
        go_simp
        have M57a := hide M55.out.alloc
        have M57 : Hid (MS B I _ _ w r a c _ _ (W56.alloc (.cells #[.int .i64 0, .int .i64 0, .int .i64 0, .slice none 0 0] 36))) := hide M57a.out.1
        have HNW56 := hide M57a.out.2
        have HSM57 := hide (And.intro M57.out.rc.c12 M57.out.rc.c13)
        refine hK.out _ _ HSM57.out (fun hHeld => ?_)
        clear hK K
        try simp [Act.put]
        clear M57a
        generalize W56.alloc (.cells #[.int .i64 0, .int .i64 0, .int .i64 0, .slice none 0 0] 36) = W58 at *
        have HFM57 := hide (MS.fin (q1 := q1) (q2 := q2) (q3 := q3) (qa := qa) (qm := qm) (qc := qc) (ql := ql) (p1 := p1) (p2 := p2) (p3 := p3) (pa := pa) (pm := pm) (pc := pc) (pl := pl) M57.out HLT.out HBW.out (b5 := W56.heap.size) (b6 := W0.heap.size) (by simp) (by simp) (fun e => HNW56.out (by simp [e])))
        have HTM57 := hide (And.intro HFM57.out.2.1.c12 HFM57.out.2.1.c13)
        have HUM57 := hide (And.intro HFM57.out.2.2.rc.c12 HFM57.out.2.2.rc.c13)
        refine wpAnyH_ready (rs := [10]) (by kernel_rfl) (by simp) ?_
        refine AllReadyH.cons rfl (fun K hK => ?_) AllReadyH.nil
        rw [if_pos (by simp [Region.wanted])]
        refine wp_store_row 36 (.tmp 5) (.tmp 10) rfl (W56.heap.size) #[.int .i64 q1, .int .i64 q2, .int .i64 q3, .slice qa qm qc] (by simp [Act.eval]) (by simp [Act.eval]) 36 _ HFM57.out.1.1 vol_size4 rfl (vol_one _ _ _ _ _ _) ?_
        refine hK.out _ _ HTM57.out (fun hHeld => ?_)
        clear hK K
        try simp [Act.put]
        refine wpAnyH_ready (rs := [11]) (by kernel_rfl) (by simp) ?_
        refine AllReadyH.cons rfl (fun K hK => ?_) AllReadyH.nil
        rw [if_pos (by simp [Region.wanted])]
        refine wp_store_row 36 (.tmp 6) (.tmp 14) rfl (W0.heap.size) #[.int .i64 p1, .int .i64 p2, .int .i64 p3, .slice pa pm pc] (by simp [Act.eval]) (by simp [Act.eval]) 36 _ HFM57.out.1.2 vol_size4 rfl (vol_one _ _ _ _ _ _) ?_
        refine hK.out _ _ HUM57.out (fun hHeld => ?_)
        clear hK K
        try simp [Act.put]
        refine wpAnyH_done (by kernel_rfl) (NoPanic.normal ?_) _
        exact REST _ _ _ _ _ _ _ _ _ _ _ _ _ _ _ _ _ _ _ _ _ _ _ _ _ HQL.out HPL.out HQD.out HPD.out HFM57.out.2.2
      · go_simp
        have M59a := hide M53.out.alloc
        have M59 : Hid (MS B I _ _ w r a c _ _ (W54.alloc (.cells #[.int .i64 0, .int .i64 0, .int .i64 0, .slice none 0 0] 36))) := hide M59a.out.1
        have HNW54 := hide M59a.out.2
        have HSM59 := hide (And.intro M59.out.rc.c12 M59.out.rc.c13)
        refine hK.out _ _ HSM59.out (fun hHeld => ?_)
        clear hK K
        try simp [Act.put]
        clear M59a
        generalize W54.alloc (.cells #[.int .i64 0, .int .i64 0, .int .i64 0, .slice none 0 0] 36) = W60 at *
        refine wpAnyH_ready (rs := [7]) (by kernel_rfl) (by simp) ?_
        refine AllReadyH.cons rfl (fun K hK => ?_) AllReadyH.nil
        go_simp
        refine (ms_end M59.out HLT.out r.t HT.out).mono ?_
        rintro e W62 ⟨p1, p2, p3, pl, pa, pm, pc, rfl, hpl, hpd, hm⟩
        have HPL := hide hpl
        have HPD := hide hpd
        have M61 := hide hm
        clear hpl hpd hm
        have HSM61 := hide (And.intro M61.out.rc.c12 M61.out.rc.c13)
        refine hK.out _ _ HSM61.out (fun hHeld => ?_)
        clear hK K
        try simp [Act.put]
        have HFM61 := hide (MS.fin (q1 := q1) (q2 := q2) (q3 := q3) (qa := qa) (qm := qm) (qc := qc) (ql := ql) (p1 := p1) (p2 := p2) (p3 := p3) (pa := pa) (pm := pm) (pc := pc) (pl := pl) M61.out HLT.out HBW.out (b5 := W54.heap.size) (b6 := W0.heap.size) (by simp) (by simp) (fun e => HNW54.out (by simp [e])))
        have HTM61 := hide (And.intro HFM61.out.2.1.c12 HFM61.out.2.1.c13)
        have HUM61 := hide (And.intro HFM61.out.2.2.rc.c12 HFM61.out.2.2.rc.c13)
        refine wpAnyH_ready (rs := [10]) (by kernel_rfl) (by simp) ?_
        refine AllReadyH.cons rfl (fun K hK => ?_) AllReadyH.nil
        rw [if_pos (by simp [Region.wanted])]
        refine wp_store_row 36 (.tmp 5) (.tmp 10) rfl (W54.heap.size) #[.int .i64 q1, .int .i64 q2, .int .i64 q3, .slice qa qm qc] (by simp [Act.eval]) (by simp [Act.eval]) 36 _ HFM61.out.1.1 vol_size4 rfl (vol_one _ _ _ _ _ _) ?_
        refine hK.out _ _ HTM61.out (fun hHeld => ?_)
        clear hK K
        try simp [Act.put]
        refine wpAnyH_ready (rs := [11]) (by kernel_rfl) (by simp) ?_
        refine AllReadyH.cons rfl (fun K hK => ?_) AllReadyH.nil
        rw [if_pos (by simp [Region.wanted])]
        refine wp_store_row 36 (.tmp 6) (.tmp 14) rfl (W0.heap.size) #[.int .i64 p1, .int .i64 p2, .int .i64 p3, .slice pa pm pc] (by simp [Act.eval]) (by simp [Act.eval]) 36 _ HFM61.out.1.2 vol_size4 rfl (vol_one _ _ _ _ _ _) ?_
        refine hK.out _ _ HUM61.out (fun hHeld => ?_)
        clear hK K
        try simp [Act.put]
        refine wpAnyH_done (by kernel_rfl) (NoPanic.normal ?_) _
        exact REST _ _ _ _ _ _ _ _ _ _ _ _ _ _ _ _ _ _ _ _ _ _ _ _ _ HQL.out HPL.out HQD.out HPD.out HFM61.out.2.2
    · go_simp
      have M63a := hide M51.out.alloc
      have M63 : Hid (MS B I _ _ w r a c _ _ (W52.alloc (.cells #[.int .i64 0, .int .i64 0, .int .i64 0, .slice none 0 0] 36))) := hide M63a.out.1
      have HNW52 := hide M63a.out.2
      have HSM63 := hide (And.intro M63.out.rc.c12 M63.out.rc.c13)
      refine hK.out _ _ HSM63.out (fun hHeld => ?_)
      clear hK K
      try simp [Act.put]
      clear M63a
      generalize W52.alloc (.cells #[.int .i64 0, .int .i64 0, .int .i64 0, .slice none 0 0] 36) = W64 at *
      refine wpAnyH_ready (rs := [3]) (by kernel_rfl) (by simp) ?_
      refine AllReadyH.cons rfl (fun K hK => ?_) AllReadyH.nil
      go_simp
      refine (ms_end M63.out HLT.out r.f HF.out).mono ?_
      rintro e W66 ⟨q1, q2, q3, ql, qa, qm, qc, rfl, hql, hqd, hm⟩
      have HQL := hide hql
      have HQD := hide hqd
      have M65 := hide hm
      clear hql hqd hm
      have HSM65 := hide (And.intro M65.out.rc.c12 M65.out.rc.c13)
      refine hK.out _ _ HSM65.out (fun hHeld => ?_)
      clear hK K
      try simp [Act.put]
      refine wpAnyH_ready (rs := [7]) (by kernel_rfl) (by simp) ?_
      refine AllReadyH.cons rfl (fun K hK => ?_) AllReadyH.nil
      go_simp
      refine (ms_end M65.out HLT.out r.t HT.out).mono ?_
      rintro e W68 ⟨p1, p2, p3, pl, pa, pm, pc, rfl, hpl, hpd, hm⟩
      have HPL := hide hpl
      have HPD := hide hpd
      have M67 := hide hm
      clear hpl hpd hm
      have HSM67 := hide (And.intro M67.out.rc.c12 M67.out.rc.c13)
      refine hK.out _ _ HSM67.out (fun hHeld => ?_)
      clear hK K
      try simp [Act.put]
      have HFM67 := hide (MS.fin (q1 := q1) (q2 := q2) (q3 := q3) (qa := qa) (qm := qm) (qc := qc) (ql := ql) (p1 := p1) (p2 := p2) (p3 := p3) (pa := pa) (pm := pm) (pc := pc) (pl := pl) M67.out HLT.out HBW.out (b5 := W52.heap.size) (b6 := W0.heap.size) (by simp) (by simp) (fun e => HNW52.out (by simp [e])))
      have HTM67 := hide (And.intro HFM67.out.2.1.c12 HFM67.out.2.1.c13)
      have HUM67 := hide (And.intro HFM67.out.2.2.rc.c12 HFM67.out.2.2.rc.c13)
      refine wpAnyH_ready (rs := [10]) (by kernel_rfl) (by simp) ?_
      refine AllReadyH.cons rfl (fun K hK => ?_) AllReadyH.nil
      rw [if_pos (by simp [Region.wanted])]
      refine wp_store_row 36 (.tmp 5) (.tmp 10) rfl (W52.heap.size) #[.int .i64 q1, .int .i64 q2, .int .i64 q3, .slice qa qm qc] (by simp [Act.eval]) (by simp [Act.eval]) 36 _ HFM67.out.1.1 vol_size4 rfl (vol_one _ _ _ _ _ _) ?_
      refine hK.out _ _ HTM67.out (fun hHeld => ?_)
      clear hK K
      try simp [Act.put]
      refine wpAnyH_ready (rs := [11]) (by kernel_rfl) (by simp) ?_
      refine AllReadyH.cons rfl (fun K hK => ?_) AllReadyH.nil
      rw [if_pos (by simp [Region.wanted])]
      refine wp_store_row 36 (.tmp 6) (.tmp 14) rfl (W0.heap.size) #[.int .i64 p1, .int .i64 p2, .int .i64 p3, .slice pa pm pc] (by simp [Act.eval]) (by simp [Act.eval]) 36 _ HFM67.out.1.2 vol_size4 rfl (vol_one _ _ _ _ _ _) ?_
      refine hK.out _ _ HUM67.out (fun hHeld => ?_)
      clear hK K
      try simp [Act.put]
      refine wpAnyH_done (by kernel_rfl) (NoPanic.normal ?_) _
      exact REST _ _ _ _ _ _ _ _ _ _ _ _ _ _ _ _ _ _ _ _ _ _ _ _ _ HQL.out HPL.out HQD.out HPD.out HFM67.out.2.2
end Go.Proofs.YtonhmihmnkicdaaGreat
