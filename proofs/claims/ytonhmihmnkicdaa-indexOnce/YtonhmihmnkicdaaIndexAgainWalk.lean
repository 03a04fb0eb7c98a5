/- The law IndexAgain, walked. (Written by genxa.py.) -/
import Derived.Test.YtonhmihmnkicdaaIxLaw
namespace Go.Proofs.Ytonhmihmnkicdaa
open Go.RowKit
set_option linter.unusedVariables false
theorem not_applied {X : FX} {r : Rc} (h : X.may r ≠ 0) : X.app r = X := by unfold FX.app; rw [if_neg h]
/-- one row of one's own grows: who changes what -/
theorem grow_mds {B base z n : Nat} {W w1 : World} {e : TypeId} {v : Value} {xs : List Value} {o : Obj} (hne : e ≠ 87) (hB : B ≤ base) (hBW : B ≤ W.heap.size) (hrow : W.ownsRow base e z v n xs) (hgr : (W.alloc o).grownBy w1 v.ownBlock) : Mds B (fun i => v.ownBlock = some i) W (fun _ => False) w1 := by
  have hb : ∀ i, i < W.heap.size → v.ownBlock ≠ some i → w1.heap[i]? = W.heap[i]? := fun i hi hn => (hgr.block i (by rw [World.size_alloc]; omega) (fun e => hn e.symm)).trans (Below.heap_alloc _ _ _ hi)
  have hsz : W.heap.size ≤ w1.heap.size := by have := hgr.size; rw [World.size_alloc] at this; omega
  refine ⟨⟨hgr.os, hgr.tape, hgr.output, hsz, fun k hk => hb k (by omega) (fun e => by have := (own_at hrow e).1; omega)⟩, hsz, fun i hi hn => hb i hi hn, fun i cur fr hc => hb i (lt_of_block hc) (fun e => ?_), fun i hi => hi.elim⟩
  obtain ⟨_, _, cur2, hc2⟩ := own_at hrow e
  rw [hc2] at hc; injection hc with hc; injection hc with _ q; exact hne q
theorem LocsK.up {B B' : Nat} {w : World} {a : Option Addr} {l : List (Int × Int)} (h : LocsK B w a l) (hB : B ≤ B') : LocsK B' w a l := by
  rcases h with q | ⟨b, o, h1, h2, h3, h4⟩
  · exact .inl q
  · exact .inr ⟨b, o, h1, h2, by rcases h3 with q | q; exact .inl (by omega); exact .inr q, h4⟩
theorem VosAt.up {B B' : Nat} {w : World} {a : Option Addr} {L : List VD} (h : VosAt B w a L) (hB : B ≤ B') : VosAt B' w a L := by
  rcases h with q | ⟨b, o, h1, h2, vs, h3, h4⟩
  · exact .inl q
  · exact .inr ⟨b, o, h1, h2, vs, h3, fun i x hx => ⟨(h4 i x hx).1, (h4 i x hx).2.up hB⟩⟩
/-- behind some records: those that were applied -/
structure AG (w w1 : World) (I : Ix) (k : Nat) (D : List RT) (v : Value) (wr : World) : Prop where
  bel : Below w.heap.size w wr
  sz : w1.heap.size ≤ wr.heap.size
  ix : IxAt w.heap.size wr I (4 * k) (appN FX.nil (D.map Prod.fst))
  row : wr.ownsRow w1.heap.size 38 14 v D.length (rtV D)
  lk : ∀ x ∈ D, LocsK w.heap.size wr x.2.1 x.1.ls
  sm : ∀ x ∈ D, x.1.sm
  len : D.length ≤ k
  ap : ∀ i r, (D.map Prod.fst)[i]? = some r → (appN FX.nil ((D.map Prod.fst).take i)).may r = 0
theorem AG.inv {w w1 : World} {I : Ix} {k : Nat} {D : List RT} {v : Value} {wr : World} (h : AG w w1 I k D v wr) : (appN FX.nil (D.map Prod.fst)).Inv :=
  inv_appN inv_nil _ fun q hq => by obtain ⟨x, hx, rfl⟩ := List.mem_map.1 hq; exact sm_ek (h.sm x hx)
theorem AG.below {w w1 : World} {I : Ix} {k : Nat} {D : List RT} {v : Value} {wr w' : World} (h : AG w w1 I k D v wr) (hb : Below wr.heap.size wr w') : AG w w1 I k D v w' :=
  ⟨h.bel.trans (hb.mono h.bel.size), Nat.le_trans h.sz hb.size, h.ix.below hb, own_below h.row hb, fun x hx => (h.lk x hx).below hb, h.sm, h.len, h.ap⟩
/-- Apply was called: what is kept, and the index -/
theorem AG.call {w w1 : World} {I : Ix} {k : Nat} {D : List RT} {v : Value} {wr w' : World} (h : AG w w1 I k D v wr) (hlt : ∀ i, I.own i → i < w1.heap.size) (m : Mds w.heap.size I.own wr I.own w') :
    Below w.heap.size w w' ∧ w1.heap.size ≤ w'.heap.size ∧ w'.ownsRow w1.heap.size 38 14 v D.length (rtV D) ∧ ∀ x ∈ D, LocsK w.heap.size w' x.2.1 x.1.ls :=
  ⟨h.bel.trans m.bel, Nat.le_trans h.sz m.size, row_keep h.row fun i hi => m.blk i (own_at h.row hi).2.1 (fun q => by have := hlt i q; have := (own_at h.row hi).1; omega), fun x hx => (h.lk x hx).mod m⟩
theorem AG.refused {w w1 : World} {I : Ix} {k : Nat} {D : List RT} {v : Value} {wr w' : World} {r : Rc} (h : AG w w1 I k D v wr) (hlt : ∀ i, I.own i → i < w1.heap.size) (m : Mds w.heap.size I.own wr I.own w') (hX : IxAt w.heap.size w' I (4 * k + 4) ((appN FX.nil (D.map Prod.fst)).app r)) (hm : (appN FX.nil (D.map Prod.fst)).may r ≠ 0) : AG w w1 I (k + 1) D v w' := by
  obtain ⟨a1, a2, a3, a4⟩ := h.call hlt m
  rw [not_applied hm] at hX
  exact ⟨a1, a2, hX.mono (by omega), a3, a4, h.sm, by have := h.len; omega, h.ap⟩
/-- .. and the record was taken into the row -/
theorem AG.push {w w1 : World} {I : Ix} {k : Nat} {D : List RT} {v v' : Value} {W w3 : World} {x : RT} {o : Obj} (hlt : ∀ i, I.own i → i < w1.heap.size) (hB : w.heap.size ≤ w1.heap.size) (hb : Below w.heap.size w W) (hs : w1.heap.size ≤ W.heap.size) (hr : W.ownsRow w1.heap.size 38 14 v D.length (rtV D)) (hlk : ∀ x ∈ D, LocsK w.heap.size W x.2.1 x.1.ls) (hsm : ∀ x ∈ D, x.1.sm) (hlen : D.length ≤ k) (hap : ∀ i r, (D.map Prod.fst)[i]? = some r → (appN FX.nil ((D.map Prod.fst).take i)).may r = 0)
    (hX : IxAt w.heap.size W I (4 * k + 4) ((appN FX.nil (D.map Prod.fst)).app x.1)) (hm : (appN FX.nil (D.map Prod.fst)).may x.1 = 0) (hx : LocsK w.heap.size W x.2.1 x.1.ls) (hxs : x.1.sm)
    (hown : w3.ownsRow w1.heap.size 38 14 v' (D.length + 1) (rtV D ++ (rtC x).toList)) (hgr : (W.alloc o).grownBy w3 v.ownBlock) : AG w w1 I (k + 1) (D ++ [x]) v' w3 := by
  have m := grow_mds (B := w.heap.size) (by decide) hB hb.size hr hgr
  refine ⟨hb.trans m.bel, Nat.le_trans hs m.size, ?_, ?_, fun y hy => ?_, fun y hy => ?_, by simp; omega, fun i r hi => ?_⟩
  · rw [List.map_append, List.map_cons, List.map_nil, appN_snoc]
    exact (hX.mod m (fun i hi e => by have := hlt i hi; have := (own_at hr e).1; omega)).mono (by omega)
  · rw [rtV_snoc, List.length_append]; exact hown
  · rcases List.mem_append.1 hy with q | q
    · exact (hlk y q).mod m
    · rw [List.mem_singleton.1 q]; exact hx.mod m
  · rcases List.mem_append.1 hy with q | q
    · exact hsm y q
    · rw [List.mem_singleton.1 q]; exact hxs
  · rw [List.map_append, List.map_cons, List.map_nil] at hi ⊢
    by_cases e : i < (D.map Prod.fst).length
    · rw [List.getElem?_append_left e] at hi
      rw [List.take_append_of_le_length (by omega)]
      exact hap i r hi
    · rw [List.getElem?_append_right (by omega)] at hi
      have : i = (D.map Prod.fst).length := by
        have := (List.getElem?_eq_some_iff.1 hi).1
        simp at this ⊢; simp at e; omega
      subst this
      simp at hi
      subst hi
      rw [List.take_append_of_le_length (Nat.le_refl _), List.take_of_length_le (Nat.le_refl _)]
      exact hm
theorem build_all {l : List Rc} {k : Nat} (h : BuildIs l k) (ha : ∀ i r, l[i]? = some r → (appN FX.nil (l.take i)).may r = 0) : k = l.length := by
  obtain ⟨h1, h2, h3⟩ := h
  by_cases e : k < l.length
  · obtain ⟨r, hr⟩ : ∃ r, l[k]? = some r := ⟨_, List.getElem?_eq_getElem e⟩
    exact absurd (ha k r hr) (h3 r hr)
  · omega
set_option maxRecDepth 100000 in
set_option maxHeartbeats 32000000 in
theorem walkIndexAgain (a0 : Option Addr) (l0 c0 : Nat) (w : World) (h0 : Came 22 w a0 l0 c0) : Calls Try.prog 7 #[.slice a0 l0 c0] w fun e w' => e = .returned (.bool true) ∧ Below w.heap.size w w' := by
  obtain ⟨ls, hls, hc1, z1, hR, hcm⟩ := came_recs h0
  clear h0 hc1
  have HRW := hide hR
  have HLS := hide hls
  have HCM := hide hcm
  have HLK := hide (fun x hx => LocsK.came (hR.2 x hx) : ∀ x ∈ ls, LocsK w.heap.size w x.2.1 x.1.ls)
  clear hR hls hcm
  by_cases h30 : 30 < l0
  · have d1 : decide ((30 : Int) < (l0 : Int)) = true := by simp; omega
    have d2 : decide (30 < l0) = true := by simpa using h30
    clear h30 z1
    go_enter Try.func7, Try.ntmps7
    go_wp2_with fail
    refine (live13_any w).mono ?_
    rintro e w2 ⟨rfl, hb⟩
    have HF := hide hb
    clear hb
    go_wp2_with fail
    try go_ret
    exact ⟨rfl, HF.out⟩
  have d1 : decide ((30 : Int) < (l0 : Int)) = false := by simp; omega
  have d2 : decide (30 < l0) = false := by simpa using h30
  have H30 : Hid (l0 ≤ 30) := by unfold Hid; omega
  obtain ⟨i0, hi0, hz0, hz1, hz2⟩ := info_parts rec13_full
  have HI := hide hi0
  have HI0 := hide hz0
  have HI1 := hide hz1
  have HI2 := hide hz2
  clear h30 z1 hi0 hz0 hz1 hz2
  go_enter Try.func7, Try.ntmps7
  go_wp2_with fail
  refine (ix_new w).mono ?_
  rintro e w1 ⟨I, rfl, hX, hb⟩
  have HX1 := hide hX
  have HB1 := hide hb
  have HLT := hide (fun i (hi : I.own i) => hX.lt hi)
  clear hX hb
  go_wp2_with fail
  go_loopw [4, 5] (fun v y wr => ∃ k : Nat, k ≤ l0 ∧ y = .int .i64 k ∧ ∃ D, AG w w1 I k D v wr) (fun v y _ => l0 - (vInt y).toNat)
  case atStart => exact ⟨0, by omega, rfl, [], HB1.out, Nat.le_refl _, by simpa [appN] using HX1.out, World.ownsRow_nil _ _ _ _, fun x hx => by simp at hx, fun x hx => by simp at hx, by simp, fun i r hi => by simp at hi⟩
  case round =>
    obtain ⟨k, hk, rfl, D, hA⟩ := hrel
    have HA := hide hA
    clear hA
    by_cases hlt : k < l0
    · have hd : decide ((k : Int) < (l0 : Int)) = true := by simp; omega
      have hdi : (k : Int) < (l0 : Int) := by omega
      have hd0 : (0 : Int) ≤ (k : Int) := by omega
      have hl30 : l0 ≤ 30 := H30.out
      obtain ⟨⟨x, xa, xc⟩, hx⟩ : ∃ x, ls[k]? = some x := ⟨_, List.getElem?_eq_getElem (by have := HLS.out; omega)⟩
      have hxm : (x, xa, xc) ∈ ls := List.mem_of_getElem? hx
      have HPN : Hid (∀ W, Below w.heap.size w W → ∃ b1 o1, a0 = some ⟨b1, o1, none⟩ ∧ W.rangeAt b1 (o1 + k * 14) (rtC (x, xa, xc)).toList) := fun W hW => by
        obtain ⟨b1, o1, e, hb1, p1, q1⟩ := (HRW.out.below hW).nth hx
        exact ⟨b1, o1, e, p1⟩
      obtain ⟨b1, o1, rfl, p1⟩ := HPN.out wr HA.out.bel
      have HPX : Hid (∀ W, Below w.heap.size w W → W.rangeAt b1 (o1 + k * 14) (rtC (x, xa, xc)).toList) := fun W hW => by
        obtain ⟨b2, o2, e, p2⟩ := HPN.out W hW
        cases e; exact p2
      have P1 := hide p1
      have HCX := hide (HCM.out _ hxm)
      have HKX := hide (HLK.out _ hxm)
      have HSX := hide (small_any x xa xc wr HCX.out)
      clear hx hxm p1 HPN
      go_wp2_with (first | (refine wpList_load_mid rfl 33 (.tmp 25) rfl b1 (o1 + k * 14) rfl (rtC (x, xa, xc)).toList _ P1.out Try.underlying33 rfl ref_info ?_; rw [show (rtC (x, xa, xc)).toList.toArray = rcs x xa xc from rfl]))
      refine HSX.out.mono ?_
      rintro e w3 ⟨rfl, hb⟩
      have HA3 := hide (HA.out.below hb)
      clear hb HSX HA P1
      cases hsx : smlB x with
      | false =>
        go_wp2_with fail
        refine (live13_any w3).mono ?_
        rintro e w4 ⟨rfl, hb⟩
        have HF := hide (HA3.out.bel.trans (hb.mono HA3.out.bel.size))
        clear hb
        go_wp2_with fail
        try go_ret
        exact ⟨rfl, HF.out⟩
      | true =>
        have HSM := hide (sm_of HCX.out hsx)
        have P3 := hide (HPX.out w3 HA3.out.bel)
        clear hsx HCX
        go_wp2_with (first | (refine wpList_load_mid rfl 33 (.tmp 34) rfl b1 (o1 + k * 14) rfl (rtC (x, xa, xc)).toList _ P3.out Try.underlying33 rfl ref_info ?_; rw [show (rtC (x, xa, xc)).toList.toArray = rcs x xa xc from rfl]))
        refine (own13_any x xa xc w3).mono ?_
        rintro e w4 ⟨rfl, hb⟩
        have HA4 := hide (HA3.out.below hb)
        clear hb HA3 P3
        have HQ := hide (ix_apply HA4.out.ix HA4.out.inv (by omega) x xa xc (HKX.out.mod (Mds.of_below (fun _ => False) HA4.out.bel (Nat.le_refl _))) HSM.out.1 HSM.out.2)
        go_wp2_with fail
        refine HQ.out.mono ?_
        rintro e w5 ⟨sa, sc, rfl, hsc, hsv, hix, hm⟩
        obtain ⟨g1, g2, g3, g4⟩ := HA4.out.call HLT.out hm
        have HX5 := hide hix
        have HM5 := hide hm
        have HG1 := hide g1
        have HG2 := hide g2
        have HG3 := hide g3
        have HG4 := hide g4
        clear hix hm hsc hsv g1 g2 g3 g4 HQ
        by_cases hm0 : (appN FX.nil (D.map Prod.fst)).may x = 0
        · have HM0 := hide hm0
          rw [hm0]
          clear hm0
          have P5 := hide (HPX.out w5 HG1.out)
          have hz14 : (rcs x xa xc).size = 14 := rfl
          go_wp2_with (first | (refine wpList_load_mid rfl 33 (.tmp 45) rfl b1 (o1 + k * 14) rfl (rtC (x, xa, xc)).toList _ P5.out Try.underlying33 rfl ref_info ?_; rw [show (rtC (x, xa, xc)).toList.toArray = rcs x xa xc from rfl]))
          refine (own13_any x xa xc w5).mono ?_
          rintro e w6 ⟨rfl, hb⟩
          have HX6 := hide (HX5.out.below hb)
          have HB6 := hide (HG1.out.trans (hb.mono HG1.out.size))
          have HS6 := hide (Nat.le_trans HG2.out hb.size)
          have HR6 := hide (own_below HG3.out hb)
          have HL6 := hide (fun x hx => (HG4.out x hx).below hb)
          clear hb P5 HX5 HG1 HG2 HG3 HG4
          go_wp2_with (first | (at_builtin; first | rw [fold13] | rw [fold13_14]; refine wpList_append_own _ rfl (.tmp 42) (.tmp 48) 52 rfl w1.heap.size 38 i0 (.agg (rcs Rc.zero none 0)) 14 152 Try.underlying52 HI.out HI0.out HI1.out HI2.out rfl (by decide) u4 D.length (rtV D) rfl (own_alloc HR6.out _) ⟨w6.heap.size, 0, none⟩ 1 1 (rtC (x, xa, xc)).toList rfl rfl (cell_rec13 w6 (x, xa, xc) 38) (rtC13_one _) (by have := HA4.out.len; unfold maxLen; omega) (by have := HA4.out.len; omega) (by rw [World.size_alloc]; have := HS6.out; omega) ?_; intro v' w7 hown hgr hnil; clear hnil; have HAG := hide (AG.push (x := (x, xa, xc)) HLT.out HB1.out.size HB6.out HS6.out HR6.out HL6.out HA4.out.sm HA4.out.len HA4.out.ap HX6.out HM0.out (HKX.out.mod (Mds.of_below (fun _ => False) HB6.out (Nat.le_refl _))) HSM.out hown hgr); clear hown hgr))
          exact ⟨⟨k + 1, by omega, by go_num, _, HAG.out⟩, by simp [vInt]; omega⟩
        · have HAG := hide (HA4.out.refused HLT.out HM5.out HX5.out hm0)
          have q9 : ((appN FX.nil (D.map Prod.fst)).may x == 0) = false := by simpa using hm0
          clear hm0
          go_wp2_with fail
          exact ⟨⟨k + 1, by omega, by go_num, D, HAG.out⟩, by simp [vInt]; omega⟩
    · have hkl : k = l0 := by omega
      subst hkl
      have hd : decide ((k : Int) < (k : Int)) = false := by simp
      obtain ⟨da, dc, rfl, hdc, hrec⟩ := recs_own HA.out.row (fun x hx => (HA.out.lk x hx).at)
      have HREC := hide hrec
      have HDC := hide hdc
      clear hrec hdc hlt
      have HBD := hide (ix_build da D.length dc D wr rfl (by have := HA.out.len; have := H30.out; omega) HREC.out HA.out.sm)
      go_wp2_with fail
      refine HBD.out.mono ?_
      rintro e wb ⟨J, kk, rfl, hbi, hix, hb⟩
      have hkk : kk = D.length := by have := build_all hbi HA.out.ap; rw [List.length_map] at this; exact this
      subst hkk
      rw [List.take_of_length_le (by rw [List.length_map]; omega), List.length_map] at hix
      have HIV := hide HA.out.inv
      have HB : Hid (Below w.heap.size w wb) := HA.out.bel.trans (hb.mono HA.out.bel.size)
      have HX : Hid (IxAt w.heap.size wb I 200 (appN FX.nil (D.map Prod.fst)) ∧ (appN FX.nil (D.map Prod.fst)).Inv) := ⟨(HA.out.ix.below hb).mono (by have := H30.out; omega), HIV.out⟩
      have HY : Hid (IxAt wr.heap.size wb J 200 (appN FX.nil (D.map Prod.fst)) ∧ (appN FX.nil (D.map Prod.fst)).Inv) := ⟨hix.mono (by have := HA.out.len; have := H30.out; omega), HIV.out⟩
      have HLE : Hid (w.heap.size ≤ wr.heap.size) := HA.out.bel.size
      clear hbi hix hb HBD HREC
      generalize appN FX.nil (D.map Prod.fst) = X at *
      have hnn : ((D.length : Int) == (D.length : Int)) = true := by simp
      have HQ := hide (ix_list HX.out.1 (by omega) ByteArray.empty 1000)
      go_wp2_with fail
      refine HQ.out.mono ?_
      rintro e wl ⟨ka, kac, KL, rfl, hkc, hkn, hks, hkl, hb⟩
      have HKI := hide hkl
      have HKN := hide hkn
      have HKS := hide hks
      clear HQ hkc hkl hkn hks
      have HB_1 := hide (HB.out.trans (hb.mono HB.out.size))
      have HX_1 := hide (And.intro (HX.out.1.below hb) HX.out.2)
      have HY_1 := hide (And.intro (HY.out.1.below hb) HY.out.2)
      clear HB HX HY hb
      have HQ := hide (ix_list HY_1.out.1 (by omega) ByteArray.empty 1000)
      go_wp2_with fail
      refine HQ.out.mono ?_
      rintro e wl2 ⟨kb, kbc, KL2, rfl, hkc, hkn, hks, hkl, hb⟩
      obtain rfl := listIs_same hkl HKI.out
      have HKT := hide hks
      clear HQ hkc hkl hkn hks
      have HB_2 := hide (HB_1.out.trans (hb.mono HB_1.out.size))
      have HX_2 := hide (And.intro (HX_1.out.1.below hb) HX_1.out.2)
      have HY_2 := hide (And.intro (HY_1.out.1.below hb) HY_1.out.2)
      have HKS_2 := hide (HKS.out.below hb)
      clear HB_1 HX_1 HY_1 HKS hb
      have HQ := hide (keys_same ka kb kac kbc KL2.length KL2 wl2 rfl (by have := HKN.out; omega) HKS_2.out HKT.out)
      go_wp2_with fail
      refine HQ.out.mono ?_
      rintro e wc ⟨rfl, hb⟩
      clear HQ
      have HB_3 := hide (HB_2.out.trans (hb.mono HB_2.out.size))
      have HX_3 := hide (And.intro (HX_2.out.1.below hb) HX_2.out.2)
      have HY_3 := hide (And.intro (HY_2.out.1.below hb) HY_2.out.2)
      have HKS_3 := hide (HKS_2.out.below hb)
      have HKT_3 := hide (HKT.out.below hb)
      clear HB_2 HX_2 HY_2 HKS_2 HKT hb
      have HQ := hide (ix_volumes HX_3.out.1 (by omega) (inv_ls1 HX_3.out.2))
      go_wp2_with fail
      refine HQ.out.mono ?_
      rintro e wv ⟨va, vac, VL, rfl, hvc, hvn, hvs, hvl, hb⟩
      have HVI := hide hvl
      have HVN := hide hvn
      have HVS := hide hvs
      clear HQ hvc hvl hvn hvs
      have HB_4 := hide (HB_3.out.trans (hb.mono HB_3.out.size))
      have HX_4 := hide (And.intro (HX_3.out.1.below hb) HX_3.out.2)
      have HY_4 := hide (And.intro (HY_3.out.1.below hb) HY_3.out.2)
      have HKS_4 := hide (HKS_3.out.below hb)
      have HKT_4 := hide (HKT_3.out.below hb)
      clear HB_3 HX_3 HY_3 HKS_3 HKT_3 hb
      have HQ := hide (ix_volumes HY_4.out.1 (by omega) (inv_ls1 HY_4.out.2))
      go_wp2_with fail
      refine HQ.out.mono ?_
      rintro e wv2 ⟨vb, vbc, VL2, rfl, hvc, hvn, hvs, hvl, hb⟩
      obtain rfl := volsIs_same hvl HVI.out
      have HVT := hide hvs
      clear HQ hvc hvl hvn hvs
      have HB_5 := hide (HB_4.out.trans (hb.mono HB_4.out.size))
      have HX_5 := hide (And.intro (HX_4.out.1.below hb) HX_4.out.2)
      have HY_5 := hide (And.intro (HY_4.out.1.below hb) HY_4.out.2)
      have HKS_5 := hide (HKS_4.out.below hb)
      have HKT_5 := hide (HKT_4.out.below hb)
      have HVS_5 := hide (HVS.out.below hb)
      clear HB_4 HX_4 HY_4 HKS_4 HKT_4 HVS hb
      have HQ := hide (vosame_any wr.heap.size va vb vac vbc VL2.length VL2.length VL2 VL2 wv2 rfl rfl (by have := HVN.out; omega) (by have := HVN.out; omega) (HVS_5.out.up HLE.out) HVT.out (volsIs_ls HX_5.out.2 HVI.out) (volsIs_ls HX_5.out.2 HVI.out))
      go_wp2_with fail
      refine HQ.out.mono ?_
      rintro e wc2 ⟨rfl, hb⟩
      simp only [decide_true]
      clear HQ
      have HB_6 := hide (HB_5.out.trans (hb.mono HB_5.out.size))
      have HX_6 := hide (And.intro (HX_5.out.1.below hb) HX_5.out.2)
      have HY_6 := hide (And.intro (HY_5.out.1.below hb) HY_5.out.2)
      have HKS_6 := hide (HKS_5.out.below hb)
      have HKT_6 := hide (HKT_5.out.below hb)
      have HVS_6 := hide (HVS_5.out.below hb)
      have HVT_6 := hide (HVT.out.below hb)
      clear HB_5 HX_5 HY_5 HKS_5 HKT_5 HVS_5 HVT hb
      have HQ := hide (ix_next HX_6.out.1 (by omega) HX_6.out.2.h)
      go_wp2_with fail
      refine HQ.out.mono ?_
      rintro e wn ⟨N, rfl, hn1, hn2, hb⟩
      have HNI := hide hn1
      clear HQ hn1 hn2
      have HB_7 := hide (HB_6.out.trans (hb.mono HB_6.out.size))
      have HX_7 := hide (And.intro (HX_6.out.1.below hb) HX_6.out.2)
      have HY_7 := hide (And.intro (HY_6.out.1.below hb) HY_6.out.2)
      have HKS_7 := hide (HKS_6.out.below hb)
      have HKT_7 := hide (HKT_6.out.below hb)
      have HVS_7 := hide (HVS_6.out.below hb)
      have HVT_7 := hide (HVT_6.out.below hb)
      clear HB_6 HX_6 HY_6 HKS_6 HKT_6 HVS_6 HVT_6 hb
      have HQ := hide (ix_next HY_7.out.1 (by omega) HY_7.out.2.h)
      go_wp2_with fail
      refine HQ.out.mono ?_
      rintro e wn2 ⟨N2, rfl, hn1, hn2, hb⟩
      obtain rfl := nextIs_same HY_7.out.2.h hn1 HNI.out
      clear HQ hn1 hn2
      have HB_8 := hide (HB_7.out.trans (hb.mono HB_7.out.size))
      have HX_8 := hide (And.intro (HX_7.out.1.below hb) HX_7.out.2)
      have HY_8 := hide (And.intro (HY_7.out.1.below hb) HY_7.out.2)
      have HKS_8 := hide (HKS_7.out.below hb)
      have HKT_8 := hide (HKT_7.out.below hb)
      have HVS_8 := hide (HVS_7.out.below hb)
      have HVT_8 := hide (HVT_7.out.below hb)
      clear HB_7 HX_7 HY_7 HKS_7 HKT_7 HVS_7 HVT_7 hb
      have hqq : (N2 == N2) = true := by simp
      go_wp2_with fail
      refine (live13_any _).mono ?_
      rintro e wz ⟨rfl, hb⟩
      have HF := hide (HB_8.out.trans (hb.mono HB_8.out.size))
      clear hb
      go_wp2_with fail
      try go_ret
      exact ⟨rfl, HF.out⟩
end Go.Proofs.Ytonhmihmnkicdaa
