/- The law IndexOnce, walked. (Written by genxn.py.) -/
import Derived.Test.YtonhmihmnkicdaaIndexAgainWalk
namespace Go.Proofs.Ytonhmihmnkicdaa
open Go.RowKit
set_option linter.unusedVariables false
def stS (l : List ByteArray) : List Value := l.map Value.string
theorem stS_snoc (l : List ByteArray) (x : ByteArray) : stS (l ++ [x]) = stS l ++ [.string x] := by simp [stS]
theorem kstr13 : (Try.prog.info? 9).map (fun i => (i.zero, i.size, i.bytes)) = some (some (.string ByteArray.empty), 1, 16) := by kernel_rfl
theorem cell_str13 (w : World) (v : Value) (t : TypeId) : ∀ j u, [v][j]? = some u → (w.alloc (.cells #[v] t)).cell? ((⟨w.heap.size, 0, none⟩ : Addr).add j) = some u := by
  intro j u hj
  rw [add_plain, cell_of_block (heap_alloc_new w (.cells #[v] t)), Nat.zero_add]
  match j, hj with
  | 0, hj => exact hj
theorem rtC_kind {W : World} {b o : Nat} {x : RT} (h : W.rangeAt b o (rtC x).toList) : W.cell? ⟨b, o + 1, none⟩ = some (.int .i64 x.1.kind) ∧ W.cell? ⟨b, o + 11, none⟩ = some (.string x.1.k) := ⟨h 1 _ rfl, h 11 _ rfl⟩
/-- what is gone stays gone -/
theorem app_G {X : FX} {r : Rc} {k : ByteArray} (h : X.G k = true) : (X.app r).G k = true := by
  unfold FX.app
  by_cases hm : X.may r = 0
  · rw [if_pos hm]
    unfold FX.doR
    have hg : ∀ q, gset X.G q k = true := fun q => by unfold gset; split; rfl; exact h
    rcases kind_four (ckR_zero.1 (may_zero hm).1).1 with q | q | q | q
    · rw [if_pos q]; exact h
    · rw [if_neg (by omega), if_pos q]
      unfold FX.rem
      split
      · exact hg _
      · exact hg _
    · rw [if_neg (by omega), if_neg (by omega), if_pos q]; exact h
    · rw [if_neg (by omega), if_neg (by omega), if_neg (by omega)]; exact h
  · rw [if_neg hm]; exact h
theorem app_del {X : FX} {r : Rc} (hm : X.may r = 0) (hk : r.kind = 1) : (X.app r).G r.k = true ∧ keyOk r.k := by
  refine ⟨?_, (ckK_1 hk).1 (ckR_zero.1 (may_zero hm).1).2.1⟩
  unfold FX.app
  rw [if_pos hm]
  unfold FX.doR
  rw [if_neg (by omega), if_pos hk]
  have hg : gset X.G r.k r.k = true := by simp [gset]
  unfold FX.rem
  split
  · exact hg
  · exact hg
/-- an index, and keys that are gone -/
structure ON (w w1 : World) (I : Ix) (k : Nat) (gl : List ByteArray) (v : Value) (X : FX) (wr : World) : Prop where
  bel : Below w.heap.size w wr
  sz : w1.heap.size ≤ wr.heap.size
  ix : IxAt w.heap.size wr I (4 * k) X
  inv : X.Inv
  row : wr.ownsRow w1.heap.size 9 1 v gl.length (stS gl)
  gone : ∀ s ∈ gl, X.G s = true ∧ keyOk s ∧ s.size ≤ 100
  len : gl.length ≤ k
theorem ON.below {w w1 : World} {I : Ix} {k : Nat} {gl : List ByteArray} {v : Value} {X : FX} {wr w' : World} (h : ON w w1 I k gl v X wr) (hb : Below wr.heap.size wr w') : ON w w1 I k gl v X w' :=
  ⟨h.bel.trans (hb.mono h.bel.size), Nat.le_trans h.sz hb.size, h.ix.below hb, h.inv, own_below h.row hb, h.gone, h.len⟩
theorem ON.call {w w1 : World} {I : Ix} {k : Nat} {gl : List ByteArray} {v : Value} {X : FX} {r : Rc} {wr w' : World} (h : ON w w1 I k gl v X wr) (hlt : ∀ i, I.own i → i < w1.heap.size) (m : Mds w.heap.size I.own wr I.own w') (hX : IxAt w.heap.size w' I (4 * k + 4) (X.app r)) (hr : okS r.ek) : ON w w1 I (k + 1) gl v (X.app r) w' :=
  ⟨h.bel.trans m.bel, Nat.le_trans h.sz m.size, hX.mono (by omega), inv_app h.inv hr, row_keep h.row fun i hi => m.blk i (own_at h.row hi).2.1 (fun q => by have := hlt i q; have := (own_at h.row hi).1; omega), fun s hs => ⟨app_G (h.gone s hs).1, (h.gone s hs).2⟩, by have := h.len; omega⟩
theorem ON.push {w w1 : World} {I : Ix} {k : Nat} {gl : List ByteArray} {v v' : Value} {X : FX} {W w3 : World} {s : ByteArray} {o : Obj} (h : ON w w1 I (k + 1) gl v X W) (hlt : ∀ i, I.own i → i < w1.heap.size) (hB : w.heap.size ≤ w1.heap.size) (hlen : gl.length ≤ k) (hs : X.G s = true ∧ keyOk s ∧ s.size ≤ 100)
    (hown : w3.ownsRow w1.heap.size 9 1 v' (gl.length + 1) (stS gl ++ [.string s])) (hgr : (W.alloc o).grownBy w3 v.ownBlock) : ON w w1 I (k + 1) (gl ++ [s]) v' X w3 := by
  have m := grow_mds (B := w.heap.size) (by decide) hB h.bel.size h.row hgr
  refine ⟨h.bel.trans m.bel, Nat.le_trans h.sz m.size, h.ix.mod m (fun i hi e => by have := hlt i hi; have := (own_at h.row e).1; omega), h.inv, ?_, fun y hy => ?_, by simp; omega⟩
  · rw [stS_snoc, List.length_append]; exact hown
  · rcases List.mem_append.1 hy with q | q
    · exact h.gone y q
    · rw [List.mem_singleton.1 q]; exact hs
theorem ON.len0 {w w1 : World} {I : Ix} {k : Nat} {gl : List ByteArray} {v : Value} {X : FX} {wr : World} (h : ON w w1 I k gl v X wr) (hk : k ≤ 30) : 4 * k ≤ 200 ∧ gl.length ≤ 30 := by have := h.len; omega
theorem gone_get {X : FX} (hi : X.Inv) {s : ByteArray} (h : X.G s = true) : X.T s = none ∧ X.getE s = 9 ∧ X.known s = true := by
  have ht : X.T s = none := by
    cases hT : X.T s with
    | none => rfl
    | some e => have := (hi.t s e hT).2.2.2.2.1; rw [h] at this; cases this
  exact ⟨ht, by unfold FX.getE; rw [ht]; rfl, by unfold FX.known; rw [h, Bool.or_true]⟩
theorem gone_may {X : FX} (hi : X.Inv) {s : ByteArray} (h : X.G s = true) (hk : keyOk s) {id : Int} (hid : numR id) : X.may (rPut s id) = 13 := by
  rw [may_put hk hid]
  unfold FX.putE
  have : X.known (rPut s id).ek = true := (gone_get hi h).2.2
  rw [this]; rfl
set_option maxRecDepth 100000 in
set_option maxHeartbeats 64000000 in
theorem walkIndexOnce (a0 : Option Addr) (l0 c0 : Nat) (id : Int) (w : World) (h0 : Came 22 w a0 l0 c0) (wi : (Lit.int .i64 id).wf = true) : Calls Try.prog 5 #[.slice a0 l0 c0, .int .i64 id] w fun e w' => e = .returned (.bool true) ∧ Below w.heap.size w w' := by
  obtain ⟨ls, hls, hc1, z1, hR, hcm⟩ := came_recs h0
  clear h0 hc1 wi
  have HRW := hide hR
  have HLS := hide hls
  have HCM := hide hcm
  have HLK := hide (fun x hx => LocsK.came (hR.2 x hx) : ∀ x ∈ ls, LocsK w.heap.size w x.2.1 x.1.ls)
  clear hR hls hcm
  by_cases h30 : 30 < l0
  · have d1 : decide ((30 : Int) < (l0 : Int)) = true := by simp; omega
    have d2 : decide (30 < l0) = true := by simpa using h30
    clear h30
    clear z1
    go_enter Try.func5, Try.ntmps5
    go_wp2_with fail
    refine (live13_any w).mono ?_
    rintro e w2 ⟨rfl, hb⟩
    have HF := hide hb
    clear hb
    go_wp2_with fail
    try go_ret
    exact ⟨rfl, HF.out⟩
  have d1 : decide ((30 : Int) < (l0 : Int)) = false := by simp; omega
  have d2 : decide (30 < l0) = false := by simpa using h30
  by_cases hng : id < 0
  · have d3 : decide (id < 0) = true := by simpa using hng
    clear h30 hng
    clear z1
    go_enter Try.func5, Try.ntmps5
    go_wp2_with fail
    refine (live13_any w).mono ?_
    rintro e w2 ⟨rfl, hb⟩
    have HF := hide hb
    clear hb
    go_wp2_with fail
    try go_ret
    exact ⟨rfl, HF.out⟩
  have d3 : decide (id < 0) = false := by simpa using hng
  by_cases hgt : 549755813888 < id
  · have d4 : decide (549755813888 < id) = true := by simpa using hgt
    clear h30 hng hgt
    clear z1
    go_enter Try.func5, Try.ntmps5
    go_wp2_with fail
    refine (live13_any w).mono ?_
    rintro e w2 ⟨rfl, hb⟩
    have HF := hide hb
    clear hb
    go_wp2_with fail
    try go_ret
    exact ⟨rfl, HF.out⟩
  have d4 : decide (549755813888 < id) = false := by simpa using hgt
  have H30 : Hid (l0 ≤ 30) := by unfold Hid; omega
  have HID : Hid (0 ≤ id ∧ id ≤ 549755813888) := by unfold Hid; omega
  obtain ⟨i0, hi0, hz0, hz1, hz2⟩ := info_parts kstr13
  have HI := hide hi0
  have HI0 := hide hz0
  have HI1 := hide hz1
  have HI2 := hide hz2
  clear h30 hng hgt z1 hi0 hz0 hz1 hz2
  go_enter Try.func5, Try.ntmps5
  go_wp2_with fail
  refine (ix_new w).mono ?_
  rintro e w1 ⟨I, rfl, hX, hb⟩
  have HX1 := hide hX
  have HB1 := hide hb
  have HLT := hide (fun i (hi : I.own i) => hX.lt hi)
  clear hX hb
  go_wp2_with fail
  go_loopw [6, 7] (fun v y wr => ∃ k : Nat, k ≤ l0 ∧ y = .int .i64 k ∧ ∃ gl X, ON w w1 I k gl v X wr) (fun v y _ => l0 - (vInt y).toNat)
  case atStart => exact ⟨0, by omega, rfl, [], FX.nil, HB1.out, Nat.le_refl _, HX1.out, inv_nil, World.ownsRow_nil _ _ _ _, fun x hx => by simp at hx, by simp⟩
  case round =>
    obtain ⟨k, hk, rfl, gl, X, hA⟩ := hrel
    have HA := hide hA
    clear hA
    by_cases hlt : k < l0
    · have hd : decide ((k : Int) < (l0 : Int)) = true := by simp; omega
      have hdi : (k : Int) < (l0 : Int) := by omega
      have hd0 : (0 : Int) ≤ (k : Int) := by omega
      have hl30 : l0 ≤ 30 := H30.out
      obtain ⟨⟨x, xa, xc⟩, hx⟩ : ∃ x, ls[k]? = some x := ⟨_, List.getElem?_eq_getElem (by have := HLS.out; omega)⟩
      have hxm : (x, xa, xc) ∈ ls := List.mem_of_getElem? hx
      have HPN : Hid (∀ W, Below w.heap.size w W → ∃ b1 o1, a0 = some ⟨b1, o1, none⟩ ∧ W.rangeAt b1 (o1 + k * 14) (rtC (x, xa, xc)).toList) := fun W hW => by
        obtain ⟨b1, o1, e, hb1, p1, q1⟩ := (HRW.out.below hW).nth hx
        exact ⟨b1, o1, e, p1⟩
      obtain ⟨b1, o1, rfl, p1⟩ := HPN.out wr HA.out.bel
      have HPX : Hid (∀ W, Below w.heap.size w W → W.rangeAt b1 (o1 + k * 14) (rtC (x, xa, xc)).toList) := fun W hW => by
        obtain ⟨b2, o2, e, p2⟩ := HPN.out W hW
        cases e; exact p2
      have P1 := hide p1
      have HCX := hide (HCM.out _ hxm)
      have HKX := hide (HLK.out _ hxm)
      have HSX := hide (small_any x xa xc wr HCX.out)
      clear hx hxm p1 HPN
      go_wp2_with (first | (refine wpList_load_mid rfl 33 (.tmp 36) rfl b1 (o1 + k * 14) rfl (rtC (x, xa, xc)).toList _ P1.out Try.underlying33 rfl ref_info ?_; rw [show (rtC (x, xa, xc)).toList.toArray = rcs x xa xc from rfl]))
      refine HSX.out.mono ?_
      rintro e w3 ⟨rfl, hb⟩
      have HA3 := hide (HA.out.below hb)
      clear hb HSX HA P1
      cases hsx : smlB x with
      | false =>
        go_wp2_with fail
        refine (live13_any w3).mono ?_
        rintro e w4 ⟨rfl, hb⟩
        have HF := hide (HA3.out.bel.trans (hb.mono HA3.out.bel.size))
        clear hb
        go_wp2_with fail
        try go_ret
        exact ⟨rfl, HF.out⟩
      | true =>
        have HSM := hide (sm_of HCX.out hsx)
        have HSK := hide (smlB_iff.1 hsx)
        have P3 := hide (HPX.out w3 HA3.out.bel)
        clear hsx HCX
        go_wp2_with (first | (refine wpList_load_mid rfl 33 (.tmp 45) rfl b1 (o1 + k * 14) rfl (rtC (x, xa, xc)).toList _ P3.out Try.underlying33 rfl ref_info ?_; rw [show (rtC (x, xa, xc)).toList.toArray = rcs x xa xc from rfl]))
        refine (own13_any x xa xc w3).mono ?_
        rintro e w4 ⟨rfl, hb⟩
        have HA4 := hide (HA3.out.below hb)
        clear hb HA3 P3
        have HQ := hide (ix_apply HA4.out.ix HA4.out.inv (by omega) x xa xc (HKX.out.mod (Mds.of_below (fun _ => False) HA4.out.bel (Nat.le_refl _))) HSM.out.1 HSM.out.2)
        go_wp2_with fail
        refine HQ.out.mono ?_
        rintro e w5 ⟨sa, sc, rfl, hsc, hsv, hix, hm⟩
        have HO5 := hide (HA4.out.call HLT.out hm hix (sm_ek HSM.out))
        clear hix hm hsc hsv HQ
        obtain ⟨kd, kk⟩ := rtC_kind (HPX.out w5 HO5.out.bel)
        simp only at kd kk
        by_cases hdel : X.may x = 0 ∧ x.kind = 1
        · have hq1 : (X.may x == 0) = true := by simpa using hdel.1
          have hq2 : (x.kind == 1) = true := by simpa using hdel.2
          have HDL := hide (app_del hdel.1 hdel.2)
          clear hdel
          go_wp2_with (first | (at_builtin; refine wpList_append_own _ rfl (.tmp 61) (.tmp 67) 40 rfl w1.heap.size 9 i0 (.string ByteArray.empty) 1 16 Try.underlying40 HI.out HI0.out HI1.out HI2.out rfl (by decide) u6 gl.length (stS gl) rfl (own_alloc HO5.out.row _) ⟨w5.heap.size, 0, none⟩ 1 1 [.string x.k] rfl rfl (cell_str13 w5 (.string x.k) 9) (by simp [Value.oneCell']) (by have := HA4.out.len; unfold maxLen; omega) (by have := HA4.out.len; omega) (by rw [World.size_alloc]; have := HO5.out.sz; omega) ?_; intro v' w6 hown hgr hnil; clear hnil; have HOP := hide (ON.push HO5.out HLT.out HB1.out.size HA4.out.len ⟨HDL.out.1, HDL.out.2, HSK.out.2.2.2⟩ hown hgr); clear hown hgr kd kk))
          obtain ⟨ga, gc, hv, _, _⟩ := own_slice HOP.out.row
          rw [List.length_append, List.length_singleton] at hv
          subst hv
          have HGL : Hid ((gl ++ [x.k]).length = gl.length + 1) := by unfold Hid; simp
          clear HO5 HX1 HA4 HPX HKX HDL HSK HSM
          generalize gl ++ [x.k] = GL at *
          generalize gl.length + 1 = m at *
          generalize X.app x = Y at *
          have HON := HOP
          clear HOP
          generalize w6 = W at *
          have HML : Hid (m ≤ 31) := by have := HON.out.len; have := HGL.out; have := H30.out; unfold Hid; omega
          go_wp2_with fail
          go_loopw [10] (fun y wi => ∃ j : Nat, j ≤ m ∧ y = .int .i64 j ∧ Below W.heap.size W wi) (fun y _ => m - (vInt y).toNat)
          case atStart => exact ⟨0, by omega, rfl, Below.refl _ _⟩
          case round =>
            obtain ⟨j, hj, rfl, hbi⟩ := hrel
            have HG := hide hbi
            clear hbi
            have hm31 : m ≤ 31 := HML.out
            by_cases hjt : j < m
            · have hd : decide ((j : Int) < (m : Int)) = true := by simp; omega
              have hdi : (j : Int) < (m : Int) := by omega
              have hd0 : (0 : Int) ≤ (j : Int) := by omega
              obtain ⟨s, hs⟩ : ∃ s, GL[j]? = some s := ⟨_, List.getElem?_eq_getElem (by have := HGL.out; omega)⟩
              have HSZ := hide (HON.out.gone s (List.mem_of_getElem? hs))
              have HGO := hide (gone_get HON.out.inv HSZ.out.1)
              have HOK : Hid (okS s) := by have := HSZ.out.2.2; show s.size ≤ 9223372036854775807; omega
              rcases HON.out.row.2 with ⟨_, h0⟩ | ⟨g, cap, cur, hv, hgB, hgc, _⟩
              · have := HGL.out; omega
              · cases hv
                have HC : Hid (∀ W', Below W.heap.size W W' → W'.cell? ⟨g, j, none⟩ = some (.string s)) := fun W' hW => by
                  have : W.cell? ⟨g, j, none⟩ = some (.string s) := by rw [HON.out.row.cellAt j (by have := HGL.out; omega)]; unfold stS; rw [List.getElem?_map, hs]; rfl
                  exact (hW.cell (p := ⟨g, j, none⟩) (lt_of_block hgc)).trans this
                have HOi := hide (HON.out.below HG.out)
                have c1 := HC.out wr HG.out
                have HQ := hide (ix_get HOi.out.ix s HOK.out)
                have hze := en_zero
                clear hs hgB hgc
                go_wp2_with fail
                refine HQ.out.mono ?_
                rintro e w8 ⟨rfl, hb⟩
                rw [HGO.out.1, HGO.out.2.1]
                simp only [Option.getD_none, en0, enV]
                have hb2 : Below w8.heap.size w8 (w8.alloc (.cells #[.string ByteArray.empty, .int .i64 0, .int .i64 0, .int .i64 0, .string ByteArray.empty] 31)) := (Below.refl _ _).alloc (Nat.le_refl _) _
                have HO8 := hide ((HOi.out.below hb).below hb2)
                have HG8 := hide ((HG.out.trans (hb.mono HG.out.size)).trans (hb2.mono (HG.out.trans (hb.mono HG.out.size)).size))
                clear hb hb2 c1 HQ HG HOi
                go_upto_region 19 with fail
                generalize w8.alloc (.cells #[.string ByteArray.empty, .int .i64 0, .int .i64 0, .int .i64 0, .string ByteArray.empty] 31) = W8 at *
                obtain ⟨W0, hW0⟩ : ∃ W0, W0 = W8.drew := ⟨_, rfl⟩
                have hbd : Below W8.heap.size W8 W0 := by rw [hW0]; exact (Below.refl _ _).drew
                have HWD := hide hW0
                have HO0 := hide (HO8.out.below hbd)
                have HG0 := hide (HG8.out.trans (hbd.mono HG8.out.size))
                have HS0 := hide (HC.out W0 HG0.out)
                have hid := HID.out
                clear hW0 hbd HO8 HG8
                refine wp_region_noPanic ?_
                refine wp_region_held_drew (S := fun w' => w'.cell? ⟨g, j, none⟩ = some (.string s)) (by kernel_rfl) (by rw [← HWD.out]; exact HS0.out) (fun hHeld => ?_)
                rw [← HWD.out] at hHeld ⊢
                refine wpAnyH_take (i := 0) (v := ?v1001) rfl (by kernel_rfl) (by kernel_rfl) (by kernel_rfl) (fun _ _ _ h => h) (Or.inl ⟨by rfl, ?hy1001⟩) hHeld ?rest1001
                case hy1001 => (intro w' hSw; have s0 : w'.cell? ⟨g, j, none⟩ = some (.string s) := hSw; go_simp; try with_reducible rfl)
                try simp [Act.put]
                refine wpAnyH_take (i := 1) (v := ?v1002) rfl (by kernel_rfl) (by kernel_rfl) (by kernel_rfl) (fun _ _ _ h => h) (Or.inl ⟨by rfl, ?hy1002⟩) hHeld ?rest1002
                case hy1002 => (intro w' hSw; have s0 : w'.cell? ⟨g, j, none⟩ = some (.string s) := hSw; go_simp; try with_reducible rfl)
                try simp [Act.put]
                refine wpAnyH_take (i := 2) (v := ?v1003) rfl (by kernel_rfl) (by kernel_rfl) (by kernel_rfl) (fun _ _ _ h => h) (Or.inl ⟨by rfl, ?hy1003⟩) hHeld ?rest1003
                case hy1003 => (intro w' hSw; have s0 : w'.cell? ⟨g, j, none⟩ = some (.string s) := hSw; go_simp; try with_reducible rfl)
                try simp [Act.put]
                refine wpAnyH_take (i := 3) (v := ?v1004) rfl (by kernel_rfl) (by kernel_rfl) (by kernel_rfl) (fun _ _ _ h => h) (Or.inl ⟨by rfl, ?hy1004⟩) hHeld ?rest1004
                case hy1004 => (intro w' hSw; have s0 : w'.cell? ⟨g, j, none⟩ = some (.string s) := hSw; go_simp; try with_reducible rfl)
                try simp [Act.put]
                refine wpAnyH_take (i := 4) (v := ?v1005) rfl (by kernel_rfl) (by kernel_rfl) (by kernel_rfl) (fun _ _ _ h => h) (Or.inl ⟨by rfl, ?hy1005⟩) hHeld ?rest1005
                case hy1005 => (intro w' hSw; have s0 : w'.cell? ⟨g, j, none⟩ = some (.string s) := hSw; go_simp; try with_reducible rfl)
                try simp [Act.put]
                refine wpAnyH_take (i := 5) (v := ?v1006) rfl (by kernel_rfl) (by kernel_rfl) (by kernel_rfl) (fun _ _ _ h => h) (Or.inl ⟨by rfl, ?hy1006⟩) hHeld ?rest1006
                case hy1006 => (intro w' hSw; have s0 : w'.cell? ⟨g, j, none⟩ = some (.string s) := hSw; go_simp; try with_reducible rfl)
                try simp [Act.put]
                refine wpAnyH_take (i := 6) (v := ?v1007) rfl (by kernel_rfl) (by kernel_rfl) (by kernel_rfl) (fun _ _ _ h => h) (Or.inl ⟨by rfl, ?hy1007⟩) hHeld ?rest1007
                case hy1007 => (intro w' hSw; have s0 : w'.cell? ⟨g, j, none⟩ = some (.string s) := hSw; go_simp; try with_reducible rfl)
                try simp [Act.put]
                refine wpAnyH_take (i := 7) (v := ?v1008) rfl (by kernel_rfl) (by kernel_rfl) (by kernel_rfl) (fun _ _ _ h => h) (Or.inl ⟨by rfl, ?hy1008⟩) hHeld ?rest1008
                case hy1008 => (intro w' hSw; have s0 : w'.cell? ⟨g, j, none⟩ = some (.string s) := hSw; go_simp; try with_reducible rfl)
                try simp [Act.put]
                refine wpAnyH_ready (rs := [8]) (by kernel_rfl) (by simp) ?_
                refine AllReadyH.cons rfl (fun K hK => ?_) AllReadyH.nil
                go_simp
                refine (ix_known HO0.out.ix s HOK.out).mono ?_
                rintro e W1 ⟨rfl, hb⟩
                rw [HGO.out.2.2]
                have HO1 := hide (HO0.out.below hb)
                have HG1 := hide (HG0.out.trans (hb.mono HG0.out.size))
                have HS1 := hide (HC.out W1 HG1.out)
                clear hb
                refine hK.out _ _ HS1.out (fun hHeld => ?_)
                clear hK K
                try simp [Act.put]
                refine wpAnyH_take (i := 9) (v := ?v1020) rfl (by kernel_rfl) (by kernel_rfl) (by kernel_rfl) (fun _ _ _ h => h) (Or.inl ⟨by rfl, ?hy1020⟩) hHeld ?rest1020
                case hy1020 => (intro w' hSw; have s0 : w'.cell? ⟨g, j, none⟩ = some (.string s) := hSw; go_simp; try with_reducible rfl)
                try simp [Act.put]
                refine wpAnyH_take (i := 10) (v := ?v1021) rfl (by kernel_rfl) (by kernel_rfl) (by kernel_rfl) (fun _ _ _ h => h) (Or.inl ⟨by rfl, ?hy1021⟩) hHeld ?rest1021
                case hy1021 => (intro w' hSw; have s0 : w'.cell? ⟨g, j, none⟩ = some (.string s) := hSw; go_simp; try with_reducible rfl)
                try simp [Act.put]
                refine wpAnyH_take (i := 11) (v := ?v1022) rfl (by kernel_rfl) (by kernel_rfl) (by kernel_rfl) (fun _ _ _ h => h) (Or.inl ⟨by rfl, ?hy1022⟩) hHeld ?rest1022
                case hy1022 => (intro w' hSw; have s0 : w'.cell? ⟨g, j, none⟩ = some (.string s) := hSw; go_simp; try with_reducible rfl)
                try simp [Act.put]
                refine wpAnyH_take (i := 12) (v := ?v1023) rfl (by kernel_rfl) (by kernel_rfl) (by kernel_rfl) (fun _ _ _ h => h) (Or.inl ⟨by rfl, ?hy1023⟩) hHeld ?rest1023
                case hy1023 => (intro w' hSw; have s0 : w'.cell? ⟨g, j, none⟩ = some (.string s) := hSw; go_simp; try with_reducible rfl)
                try simp [Act.put]
                refine wpAnyH_take (i := 14) (v := ?v1024) rfl (by kernel_rfl) (by kernel_rfl) (by kernel_rfl) (fun _ _ _ h => h) (Or.inl ⟨by rfl, ?hy1024⟩) hHeld ?rest1024
                case hy1024 => (intro w' hSw; have s0 : w'.cell? ⟨g, j, none⟩ = some (.string s) := hSw; go_simp; try with_reducible rfl)
                try simp [Act.put]
                refine wpAnyH_ready (rs := [13]) (by kernel_rfl) (by simp) ?_
                refine AllReadyH.cons rfl (fun K hK => ?_) AllReadyH.nil
                go_simp
                refine (ix_next HO1.out.ix (by have := HO1.out.len0 (by omega); omega) HO1.out.inv.h).mono ?_
                rintro e W2 ⟨N, rfl, hn1, hn2, hb⟩
                have HNI := hide hn1
                have HO2 := hide (HO1.out.below hb)
                have HG2 := hide (HG1.out.trans (hb.mono HG1.out.size))
                have HS2 := hide (HC.out W2 HG2.out)
                have hn0 := hn1.2.1
                have hwr : IntKind.i64.wrap (N + id) = N + id := by rw [IntKind.wrap_i64]; omega
                clear hb hn1
                refine hK.out _ _ HS2.out (fun hHeld => ?_)
                clear hK K
                try simp [Act.put]
                by_cases hle : N + id ≤ 1099511627776
                · have hdl : decide (N + id ≤ 1099511627776) = true := by simpa using hle
                  refine wpAnyH_take (i := 15) (v := ?v1030) rfl (by kernel_rfl) (by kernel_rfl) (by kernel_rfl) (fun _ _ _ h => h) (Or.inl ⟨by rfl, ?hy1030⟩) hHeld ?rest1030
                  case hy1030 => (intro w' hSw; have s0 : w'.cell? ⟨g, j, none⟩ = some (.string s) := hSw; go_simp; try with_reducible rfl)
                  try simp [Act.put]
                  refine wpAnyH_take (i := 16) (v := ?v1031) rfl (by kernel_rfl) (by kernel_rfl) (by kernel_rfl) (fun _ _ _ h => h) (Or.inl ⟨by rfl, ?hy1031⟩) hHeld ?rest1031
                  case hy1031 => (intro w' hSw; have s0 : w'.cell? ⟨g, j, none⟩ = some (.string s) := hSw; go_simp; try with_reducible rfl)
                  try simp [Act.put]
                  refine wpAnyH_take (i := 17) (v := ?v1032) rfl (by kernel_rfl) (by kernel_rfl) (by kernel_rfl) (fun _ _ _ h => h) (Or.inl ⟨by rfl, ?hy1032⟩) hHeld ?rest1032
                  case hy1032 => (intro w' hSw; have s0 : w'.cell? ⟨g, j, none⟩ = some (.string s) := hSw; go_simp; try with_reducible rfl)
                  try simp [Act.put]
                  refine wpAnyH_take (i := 18) (v := ?v1033) rfl (by kernel_rfl) (by kernel_rfl) (by kernel_rfl) (fun _ _ _ h => h) (Or.inl ⟨by rfl, ?hy1033⟩) hHeld ?rest1033
                  case hy1033 => (intro w' hSw; have s0 : w'.cell? ⟨g, j, none⟩ = some (.string s) := hSw; go_simp; try with_reducible rfl)
                  try simp [Act.put]
                  refine wpAnyH_take (i := 19) (v := ?v1034) rfl (by kernel_rfl) (by kernel_rfl) (by kernel_rfl) (fun _ _ _ h => h) (Or.inl ⟨by rfl, ?hy1034⟩) hHeld ?rest1034
                  case hy1034 => (intro w' hSw; have s0 : w'.cell? ⟨g, j, none⟩ = some (.string s) := hSw; go_simp; try with_reducible rfl)
                  try simp [Act.put]
                  refine wpAnyH_take (i := 20) (v := ?v1035) rfl (by kernel_rfl) (by kernel_rfl) (by kernel_rfl) (fun _ _ _ h => h) (Or.inl ⟨by rfl, ?hy1035⟩) hHeld ?rest1035
                  case hy1035 => (intro w' hSw; have s0 : w'.cell? ⟨g, j, none⟩ = some (.string s) := hSw; go_simp; try with_reducible rfl)
                  try simp [Act.put]
                  refine wpAnyH_take (i := 21) (v := ?v1036) rfl (by kernel_rfl) (by kernel_rfl) (by kernel_rfl) (fun _ _ _ h => h) (Or.inl ⟨by rfl, ?hy1036⟩) hHeld ?rest1036
                  case hy1036 => (intro w' hSw; have s0 : w'.cell? ⟨g, j, none⟩ = some (.string s) := hSw; go_simp; try with_reducible rfl)
                  try simp [Act.put]
                  refine wpAnyH_take (i := 22) (v := ?v1037) rfl (by kernel_rfl) (by kernel_rfl) (by kernel_rfl) (fun _ _ _ h => h) (Or.inl ⟨by rfl, ?hy1037⟩) hHeld ?rest1037
                  case hy1037 => (intro w' hSw; have s0 : w'.cell? ⟨g, j, none⟩ = some (.string s) := hSw; go_simp; try with_reducible rfl)
                  try simp [Act.put]
                  refine wpAnyH_take (i := 23) (v := ?v1038) rfl (by kernel_rfl) (by kernel_rfl) (by kernel_rfl) (fun _ _ _ h => h) (Or.inl ⟨by rfl, ?hy1038⟩) hHeld ?rest1038
                  case hy1038 => (intro w' hSw; have s0 : w'.cell? ⟨g, j, none⟩ = some (.string s) := hSw; go_simp; try with_reducible rfl)
                  try simp [Act.put]
                  refine wpAnyH_take (i := 25) (v := ?v1039) rfl (by kernel_rfl) (by kernel_rfl) (by kernel_rfl) (fun _ _ _ h => h) (Or.inl ⟨by rfl, ?hy1039⟩) hHeld ?rest1039
                  case hy1039 => (intro w' hSw; have s0 : w'.cell? ⟨g, j, none⟩ = some (.string s) := hSw; go_simp; try with_reducible rfl)
                  try simp [Act.put]
                  refine wpAnyH_ready (rs := [24]) (by kernel_rfl) (by simp) ?_
                  refine AllReadyH.cons rfl (fun K hK => ?_) AllReadyH.nil
                  go_simp
                  refine (ix_next HO2.out.ix (by have := HO2.out.len0 (by omega); omega) HO2.out.inv.h).mono ?_
                  rintro e W3 ⟨N2, rfl, hn3, hn4, hb⟩
                  obtain rfl := nextIs_same HO2.out.inv.h hn3 HNI.out
                  have HO3 := hide (HO2.out.below hb)
                  have HG3 := hide (HG2.out.trans (hb.mono HG2.out.size))
                  have HS3 := hide (HC.out W3 HG3.out)
                  clear hb hn3 hn4
                  refine hK.out _ _ HS3.out (fun hHeld => ?_)
                  clear hK K
                  try simp [Act.put]
                  refine wpAnyH_take (i := 26) (v := ?v1050) rfl (by kernel_rfl) (by kernel_rfl) (by kernel_rfl) (fun _ _ _ h => h) (Or.inl ⟨by rfl, ?hy1050⟩) hHeld ?rest1050
                  case hy1050 => (intro w' hSw; have s0 : w'.cell? ⟨g, j, none⟩ = some (.string s) := hSw; go_simp; try with_reducible rfl)
                  try simp [Act.put]
                  refine wpAnyH_ready (rs := [27]) (by kernel_rfl) (by simp) ?_
                  refine AllReadyH.cons rfl (fun K hK => ?_) AllReadyH.nil
                  go_simp
                  refine (put_any s (N2 + id) W3).mono ?_
                  rintro e W4 ⟨pa, pc, rfl, hpl, hb⟩
                  have HO4 := hide (HO3.out.below hb)
                  have HG4 := hide (HG3.out.trans (hb.mono HG3.out.size))
                  have HS4 := hide (HC.out W4 HG4.out)
                  have HPL := hide (hpl 0)
                  clear hb hpl
                  refine hK.out _ _ HS4.out (fun hHeld => ?_)
                  clear hK K
                  try simp [Act.put]
                  refine wpAnyH_ready (rs := [28]) (by kernel_rfl) (by simp) ?_
                  refine AllReadyH.cons rfl (fun K hK => ?_) AllReadyH.nil
                  go_simp
                  refine (ix_may HO4.out.ix (inv_len HO4.out.inv) (rPut s (N2 + id)) pa pc HPL.out.at (sm_put HSZ.out.2.2).1 (sm_put HSZ.out.2.2).2).mono ?_
                  rintro e W5 ⟨rfl, hb⟩
                  rw [gone_may HO4.out.inv HSZ.out.1 HSZ.out.2.1 (by constructor <;> omega)]
                  have HO5 := hide (HO4.out.below hb)
                  have HG5 := hide (HG4.out.trans (hb.mono HG4.out.size))
                  have HS5 := hide (HC.out W5 HG5.out)
                  clear hb
                  refine hK.out _ _ HS5.out (fun hHeld => ?_)
                  clear hK K
                  try simp [Act.put]
                  refine wpAnyH_take (i := 29) (v := ?v1060) rfl (by kernel_rfl) (by kernel_rfl) (by kernel_rfl) (fun _ _ _ h => h) (Or.inl ⟨by rfl, ?hy1060⟩) hHeld ?rest1060
                  case hy1060 => (intro w' hSw; have s0 : w'.cell? ⟨g, j, none⟩ = some (.string s) := hSw; go_simp; try with_reducible rfl)
                  try simp [Act.put]
                  refine wpAnyH_take (i := 30) (v := ?v1061) rfl (by kernel_rfl) (by kernel_rfl) (by kernel_rfl) (fun _ _ _ h => h) (Or.inl ⟨by rfl, ?hy1061⟩) hHeld ?rest1061
                  case hy1061 => (intro w' hSw; have s0 : w'.cell? ⟨g, j, none⟩ = some (.string s) := hSw; go_simp; try with_reducible rfl)
                  try simp [Act.put]
                  refine wpAnyH_take (i := 31) (v := ?v1062) rfl (by kernel_rfl) (by kernel_rfl) (by kernel_rfl) (fun _ _ _ h => h) (Or.inl ⟨by rfl, ?hy1062⟩) hHeld ?rest1062
                  case hy1062 => (intro w' hSw; have s0 : w'.cell? ⟨g, j, none⟩ = some (.string s) := hSw; go_simp; try with_reducible rfl)
                  try simp [Act.put]
                  refine wpAnyH_done (by kernel_rfl) (NoPanic.normal ?_) _
                  go_wp2_with fail
                  exact ⟨⟨j + 1, by omega, by go_num, HG5.out⟩, by simp [vInt]; omega⟩
                · have hdl : decide (N + id ≤ 1099511627776) = false := by simpa using hle
                  refine wpAnyH_take (i := 15) (v := ?v1130) rfl (by kernel_rfl) (by kernel_rfl) (by kernel_rfl) (fun _ _ _ h => h) (Or.inl ⟨by rfl, ?hy1130⟩) hHeld ?rest1130
                  case hy1130 => (intro w' hSw; have s0 : w'.cell? ⟨g, j, none⟩ = some (.string s) := hSw; go_simp; try with_reducible rfl)
                  try simp [Act.put]
                  refine wpAnyH_take (i := 16) (v := ?v1131) rfl (by kernel_rfl) (by kernel_rfl) (by kernel_rfl) (fun _ _ _ h => h) (Or.inl ⟨by rfl, ?hy1131⟩) hHeld ?rest1131
                  case hy1131 => (intro w' hSw; have s0 : w'.cell? ⟨g, j, none⟩ = some (.string s) := hSw; go_simp; try with_reducible rfl)
                  try simp [Act.put]
                  refine wpAnyH_take (i := 17) (v := ?v1132) rfl (by kernel_rfl) (by kernel_rfl) (by kernel_rfl) (fun _ _ _ h => h) (Or.inl ⟨by rfl, ?hy1132⟩) hHeld ?rest1132
                  case hy1132 => (intro w' hSw; have s0 : w'.cell? ⟨g, j, none⟩ = some (.string s) := hSw; go_simp; try with_reducible rfl)
                  try simp [Act.put]
                  refine wpAnyH_take (i := 18) (v := undef) rfl (by kernel_rfl) (by kernel_rfl) (by kernel_rfl) (fun _ _ _ h => h) (Or.inr ⟨by rfl, rfl⟩) hHeld ?rest1140
                  try simp [Act.put]
                  refine wpAnyH_take (i := 19) (v := undef) rfl (by kernel_rfl) (by kernel_rfl) (by kernel_rfl) (fun _ _ _ h => h) (Or.inr ⟨by rfl, rfl⟩) hHeld ?rest1141
                  try simp [Act.put]
                  refine wpAnyH_take (i := 20) (v := undef) rfl (by kernel_rfl) (by kernel_rfl) (by kernel_rfl) (fun _ _ _ h => h) (Or.inr ⟨by rfl, rfl⟩) hHeld ?rest1142
                  try simp [Act.put]
                  refine wpAnyH_take (i := 21) (v := undef) rfl (by kernel_rfl) (by kernel_rfl) (by kernel_rfl) (fun _ _ _ h => h) (Or.inr ⟨by rfl, rfl⟩) hHeld ?rest1143
                  try simp [Act.put]
                  refine wpAnyH_take (i := 22) (v := undef) rfl (by kernel_rfl) (by kernel_rfl) (by kernel_rfl) (fun _ _ _ h => h) (Or.inr ⟨by rfl, rfl⟩) hHeld ?rest1144
                  try simp [Act.put]
                  refine wpAnyH_take (i := 23) (v := undef) rfl (by kernel_rfl) (by kernel_rfl) (by kernel_rfl) (fun _ _ _ h => h) (Or.inr ⟨by rfl, rfl⟩) hHeld ?rest1145
                  try simp [Act.put]
                  refine wpAnyH_take (i := 25) (v := undef) rfl (by kernel_rfl) (by kernel_rfl) (by kernel_rfl) (fun _ _ _ h => h) (Or.inr ⟨by rfl, rfl⟩) hHeld ?rest1146
                  try simp [Act.put]
                  refine wpAnyH_ready (rs := [24]) (by kernel_rfl) (by simp) ?_
                  refine AllReadyH.cons rfl (fun K hK => ?_) AllReadyH.nil
                  go_simp
                  refine hK.out _ _ HS2.out (fun hHeld => ?_)
                  clear hK K
                  try simp [Act.put]
                  refine wpAnyH_take (i := 26) (v := undef) rfl (by kernel_rfl) (by kernel_rfl) (by kernel_rfl) (fun _ _ _ h => h) (Or.inr ⟨by rfl, rfl⟩) hHeld ?rest1150
                  try simp [Act.put]
                  refine wpAnyH_ready (rs := [27]) (by kernel_rfl) (by simp) ?_
                  refine AllReadyH.cons rfl (fun K hK => ?_) AllReadyH.nil
                  go_simp
                  refine hK.out _ _ HS2.out (fun hHeld => ?_)
                  clear hK K
                  try simp [Act.put]
                  refine wpAnyH_ready (rs := [28]) (by kernel_rfl) (by simp) ?_
                  refine AllReadyH.cons rfl (fun K hK => ?_) AllReadyH.nil
                  go_simp
                  refine hK.out _ _ HS2.out (fun hHeld => ?_)
                  clear hK K
                  try simp [Act.put]
                  refine wpAnyH_take (i := 29) (v := undef) rfl (by kernel_rfl) (by kernel_rfl) (by kernel_rfl) (fun _ _ _ h => h) (Or.inr ⟨by rfl, rfl⟩) hHeld ?rest1160
                  try simp [Act.put]
                  refine wpAnyH_take (i := 30) (v := ?v1170) rfl (by kernel_rfl) (by kernel_rfl) (by kernel_rfl) (fun _ _ _ h => h) (Or.inl ⟨by rfl, ?hy1170⟩) hHeld ?rest1170
                  case hy1170 => (intro w' hSw; have s0 : w'.cell? ⟨g, j, none⟩ = some (.string s) := hSw; go_simp; try with_reducible rfl)
                  try simp [Act.put]
                  refine wpAnyH_take (i := 31) (v := ?v1171) rfl (by kernel_rfl) (by kernel_rfl) (by kernel_rfl) (fun _ _ _ h => h) (Or.inl ⟨by rfl, ?hy1171⟩) hHeld ?rest1171
                  case hy1171 => (intro w' hSw; have s0 : w'.cell? ⟨g, j, none⟩ = some (.string s) := hSw; go_simp; try with_reducible rfl)
                  try simp [Act.put]
                  refine wpAnyH_done (by kernel_rfl) (NoPanic.normal ?_) _
                  go_wp2_with fail
                  exact ⟨⟨j + 1, by omega, by go_num, HG2.out⟩, by simp [vInt]; omega⟩
            · have hjm : j = m := by omega
              subst hjm
              have hd : decide ((j : Int) < (j : Int)) = false := by simp
              have HOe := hide (HON.out.below HG.out)
              go_wp2_with fail
              exact ⟨⟨k + 1, by omega, by go_num, GL, Y, HOe.out⟩, by simp [vInt]; omega⟩
        · obtain ⟨ga, gc, hv, _, _⟩ := own_slice HO5.out.row
          subst hv
          have hgd : (if X.may x = 0 then decide (x.kind = 1) else false) = false := by split <;> simp_all
          obtain ⟨m, hm⟩ : ∃ m, gl.length = m := ⟨_, rfl⟩
          rw [hm] at HO5 ⊢
          have HGL := hide hm
          clear hm HX1 HA4 HPX HKX HSK HSM
          have HON := HO5
          clear HO5
          generalize w5 = W at *
          generalize X.app x = Y at *
          generalize gl = GL at *
          by_cases hm0 : X.may x = 0
          · have hq1 : (X.may x == 0) = true := by simpa using hm0
            have hq2 : (x.kind == 1) = false := by simp; exact fun q => hdel ⟨hm0, q⟩
            clear hm0 hdel hgd
            have HML : Hid (m ≤ 31) := by have := HON.out.len; have := HGL.out; have := H30.out; unfold Hid; omega
            go_wp2_with fail
            go_loopw [10] (fun y wi => ∃ j : Nat, j ≤ m ∧ y = .int .i64 j ∧ Below W.heap.size W wi) (fun y _ => m - (vInt y).toNat)
            case atStart => exact ⟨0, by omega, rfl, Below.refl _ _⟩
            case round =>
              obtain ⟨j, hj, rfl, hbi⟩ := hrel
              have HG := hide hbi
              clear hbi
              have hm31 : m ≤ 31 := HML.out
              by_cases hjt : j < m
              · have hd : decide ((j : Int) < (m : Int)) = true := by simp; omega
                have hdi : (j : Int) < (m : Int) := by omega
                have hd0 : (0 : Int) ≤ (j : Int) := by omega
                obtain ⟨s, hs⟩ : ∃ s, GL[j]? = some s := ⟨_, List.getElem?_eq_getElem (by have := HGL.out; omega)⟩
                have HSZ := hide (HON.out.gone s (List.mem_of_getElem? hs))
                have HGO := hide (gone_get HON.out.inv HSZ.out.1)
                have HOK : Hid (okS s) := by have := HSZ.out.2.2; show s.size ≤ 9223372036854775807; omega
                rcases HON.out.row.2 with ⟨_, h0⟩ | ⟨g, cap, cur, hv, hgB, hgc, _⟩
                · have := HGL.out; omega
                · cases hv
                  have HC : Hid (∀ W', Below W.heap.size W W' → W'.cell? ⟨g, j, none⟩ = some (.string s)) := fun W' hW => by
                    have : W.cell? ⟨g, j, none⟩ = some (.string s) := by rw [HON.out.row.cellAt j (by have := HGL.out; omega)]; unfold stS; rw [List.getElem?_map, hs]; rfl
                    exact (hW.cell (p := ⟨g, j, none⟩) (lt_of_block hgc)).trans this
                  have HOi := hide (HON.out.below HG.out)
                  have c1 := HC.out wr HG.out
                  have HQ := hide (ix_get HOi.out.ix s HOK.out)
                  have hze := en_zero
                  clear hs hgB hgc
                  go_wp2_with fail
                  refine HQ.out.mono ?_
                  rintro e w8 ⟨rfl, hb⟩
                  rw [HGO.out.1, HGO.out.2.1]
                  simp only [Option.getD_none, en0, enV]
                  have hb2 : Below w8.heap.size w8 (w8.alloc (.cells #[.string ByteArray.empty, .int .i64 0, .int .i64 0, .int .i64 0, .string ByteArray.empty] 31)) := (Below.refl _ _).alloc (Nat.le_refl _) _
                  have HO8 := hide ((HOi.out.below hb).below hb2)
                  have HG8 := hide ((HG.out.trans (hb.mono HG.out.size)).trans (hb2.mono (HG.out.trans (hb.mono HG.out.size)).size))
                  clear hb hb2 c1 HQ HG HOi
                  go_upto_region 19 with fail
                  generalize w8.alloc (.cells #[.string ByteArray.empty, .int .i64 0, .int .i64 0, .int .i64 0, .string ByteArray.empty] 31) = W8 at *
                  obtain ⟨W0, hW0⟩ : ∃ W0, W0 = W8.drew := ⟨_, rfl⟩
                  have hbd : Below W8.heap.size W8 W0 := by rw [hW0]; exact (Below.refl _ _).drew
                  have HWD := hide hW0
                  have HO0 := hide (HO8.out.below hbd)
                  have HG0 := hide (HG8.out.trans (hbd.mono HG8.out.size))
                  have HS0 := hide (HC.out W0 HG0.out)
                  have hid := HID.out
                  clear hW0 hbd HO8 HG8
                  refine wp_region_noPanic ?_
                  refine wp_region_held_drew (S := fun w' => w'.cell? ⟨g, j, none⟩ = some (.string s)) (by kernel_rfl) (by rw [← HWD.out]; exact HS0.out) (fun hHeld => ?_)
                  rw [← HWD.out] at hHeld ⊢
                  refine wpAnyH_take (i := 0) (v := ?v2001) rfl (by kernel_rfl) (by kernel_rfl) (by kernel_rfl) (fun _ _ _ h => h) (Or.inl ⟨by rfl, ?hy2001⟩) hHeld ?rest2001
                  case hy2001 => (intro w' hSw; have s0 : w'.cell? ⟨g, j, none⟩ = some (.string s) := hSw; go_simp; try with_reducible rfl)
                  try simp [Act.put]
                  refine wpAnyH_take (i := 1) (v := ?v2002) rfl (by kernel_rfl) (by kernel_rfl) (by kernel_rfl) (fun _ _ _ h => h) (Or.inl ⟨by rfl, ?hy2002⟩) hHeld ?rest2002
                  case hy2002 => (intro w' hSw; have s0 : w'.cell? ⟨g, j, none⟩ = some (.string s) := hSw; go_simp; try with_reducible rfl)
                  try simp [Act.put]
                  refine wpAnyH_take (i := 2) (v := ?v2003) rfl (by kernel_rfl) (by kernel_rfl) (by kernel_rfl) (fun _ _ _ h => h) (Or.inl ⟨by rfl, ?hy2003⟩) hHeld ?rest2003
                  case hy2003 => (intro w' hSw; have s0 : w'.cell? ⟨g, j, none⟩ = some (.string s) := hSw; go_simp; try with_reducible rfl)
                  try simp [Act.put]
                  refine wpAnyH_take (i := 3) (v := ?v2004) rfl (by kernel_rfl) (by kernel_rfl) (by kernel_rfl) (fun _ _ _ h => h) (Or.inl ⟨by rfl, ?hy2004⟩) hHeld ?rest2004
                  case hy2004 => (intro w' hSw; have s0 : w'.cell? ⟨g, j, none⟩ = some (.string s) := hSw; go_simp; try with_reducible rfl)
                  try simp [Act.put]
                  refine wpAnyH_take (i := 4) (v := ?v2005) rfl (by kernel_rfl) (by kernel_rfl) (by kernel_rfl) (fun _ _ _ h => h) (Or.inl ⟨by rfl, ?hy2005⟩) hHeld ?rest2005
                  case hy2005 => (intro w' hSw; have s0 : w'.cell? ⟨g, j, none⟩ = some (.string s) := hSw; go_simp; try with_reducible rfl)
                  try simp [Act.put]
                  refine wpAnyH_take (i := 5) (v := ?v2006) rfl (by kernel_rfl) (by kernel_rfl) (by kernel_rfl) (fun _ _ _ h => h) (Or.inl ⟨by rfl, ?hy2006⟩) hHeld ?rest2006
                  case hy2006 => (intro w' hSw; have s0 : w'.cell? ⟨g, j, none⟩ = some (.string s) := hSw; go_simp; try with_reducible rfl)
                  try simp [Act.put]
                  refine wpAnyH_take (i := 6) (v := ?v2007) rfl (by kernel_rfl) (by kernel_rfl) (by kernel_rfl) (fun _ _ _ h => h) (Or.inl ⟨by rfl, ?hy2007⟩) hHeld ?rest2007
                  case hy2007 => (intro w' hSw; have s0 : w'.cell? ⟨g, j, none⟩ = some (.string s) := hSw; go_simp; try with_reducible rfl)
                  try simp [Act.put]
                  refine wpAnyH_take (i := 7) (v := ?v2008) rfl (by kernel_rfl) (by kernel_rfl) (by kernel_rfl) (fun _ _ _ h => h) (Or.inl ⟨by rfl, ?hy2008⟩) hHeld ?rest2008
                  case hy2008 => (intro w' hSw; have s0 : w'.cell? ⟨g, j, none⟩ = some (.string s) := hSw; go_simp; try with_reducible rfl)
                  try simp [Act.put]
                  refine wpAnyH_ready (rs := [8]) (by kernel_rfl) (by simp) ?_
                  refine AllReadyH.cons rfl (fun K hK => ?_) AllReadyH.nil
                  go_simp
                  refine (ix_known HO0.out.ix s HOK.out).mono ?_
                  rintro e W1 ⟨rfl, hb⟩
                  rw [HGO.out.2.2]
                  have HO1 := hide (HO0.out.below hb)
                  have HG1 := hide (HG0.out.trans (hb.mono HG0.out.size))
                  have HS1 := hide (HC.out W1 HG1.out)
                  clear hb
                  refine hK.out _ _ HS1.out (fun hHeld => ?_)
                  clear hK K
                  try simp [Act.put]
                  refine wpAnyH_take (i := 9) (v := ?v2020) rfl (by kernel_rfl) (by kernel_rfl) (by kernel_rfl) (fun _ _ _ h => h) (Or.inl ⟨by rfl, ?hy2020⟩) hHeld ?rest2020
                  case hy2020 => (intro w' hSw; have s0 : w'.cell? ⟨g, j, none⟩ = some (.string s) := hSw; go_simp; try with_reducible rfl)
                  try simp [Act.put]
                  refine wpAnyH_take (i := 10) (v := ?v2021) rfl (by kernel_rfl) (by kernel_rfl) (by kernel_rfl) (fun _ _ _ h => h) (Or.inl ⟨by rfl, ?hy2021⟩) hHeld ?rest2021
                  case hy2021 => (intro w' hSw; have s0 : w'.cell? ⟨g, j, none⟩ = some (.string s) := hSw; go_simp; try with_reducible rfl)
                  try simp [Act.put]
                  refine wpAnyH_take (i := 11) (v := ?v2022) rfl (by kernel_rfl) (by kernel_rfl) (by kernel_rfl) (fun _ _ _ h => h) (Or.inl ⟨by rfl, ?hy2022⟩) hHeld ?rest2022
                  case hy2022 => (intro w' hSw; have s0 : w'.cell? ⟨g, j, none⟩ = some (.string s) := hSw; go_simp; try with_reducible rfl)
                  try simp [Act.put]
                  refine wpAnyH_take (i := 12) (v := ?v2023) rfl (by kernel_rfl) (by kernel_rfl) (by kernel_rfl) (fun _ _ _ h => h) (Or.inl ⟨by rfl, ?hy2023⟩) hHeld ?rest2023
                  case hy2023 => (intro w' hSw; have s0 : w'.cell? ⟨g, j, none⟩ = some (.string s) := hSw; go_simp; try with_reducible rfl)
                  try simp [Act.put]
                  refine wpAnyH_take (i := 14) (v := ?v2024) rfl (by kernel_rfl) (by kernel_rfl) (by kernel_rfl) (fun _ _ _ h => h) (Or.inl ⟨by rfl, ?hy2024⟩) hHeld ?rest2024
                  case hy2024 => (intro w' hSw; have s0 : w'.cell? ⟨g, j, none⟩ = some (.string s) := hSw; go_simp; try with_reducible rfl)
                  try simp [Act.put]
                  refine wpAnyH_ready (rs := [13]) (by kernel_rfl) (by simp) ?_
                  refine AllReadyH.cons rfl (fun K hK => ?_) AllReadyH.nil
                  go_simp
                  refine (ix_next HO1.out.ix (by have := HO1.out.len0 (by omega); omega) HO1.out.inv.h).mono ?_
                  rintro e W2 ⟨N, rfl, hn1, hn2, hb⟩
                  have HNI := hide hn1
                  have HO2 := hide (HO1.out.below hb)
                  have HG2 := hide (HG1.out.trans (hb.mono HG1.out.size))
                  have HS2 := hide (HC.out W2 HG2.out)
                  have hn0 := hn1.2.1
                  have hwr : IntKind.i64.wrap (N + id) = N + id := by rw [IntKind.wrap_i64]; omega
                  clear hb hn1
                  refine hK.out _ _ HS2.out (fun hHeld => ?_)
                  clear hK K
                  try simp [Act.put]
                  by_cases hle : N + id ≤ 1099511627776
                  · have hdl : decide (N + id ≤ 1099511627776) = true := by simpa using hle
                    refine wpAnyH_take (i := 15) (v := ?v2030) rfl (by kernel_rfl) (by kernel_rfl) (by kernel_rfl) (fun _ _ _ h => h) (Or.inl ⟨by rfl, ?hy2030⟩) hHeld ?rest2030
                    case hy2030 => (intro w' hSw; have s0 : w'.cell? ⟨g, j, none⟩ = some (.string s) := hSw; go_simp; try with_reducible rfl)
                    try simp [Act.put]
                    refine wpAnyH_take (i := 16) (v := ?v2031) rfl (by kernel_rfl) (by kernel_rfl) (by kernel_rfl) (fun _ _ _ h => h) (Or.inl ⟨by rfl, ?hy2031⟩) hHeld ?rest2031
                    case hy2031 => (intro w' hSw; have s0 : w'.cell? ⟨g, j, none⟩ = some (.string s) := hSw; go_simp; try with_reducible rfl)
                    try simp [Act.put]
                    refine wpAnyH_take (i := 17) (v := ?v2032) rfl (by kernel_rfl) (by kernel_rfl) (by kernel_rfl) (fun _ _ _ h => h) (Or.inl ⟨by rfl, ?hy2032⟩) hHeld ?rest2032
                    case hy2032 => (intro w' hSw; have s0 : w'.cell? ⟨g, j, none⟩ = some (.string s) := hSw; go_simp; try with_reducible rfl)
                    try simp [Act.put]
                    refine wpAnyH_take (i := 18) (v := ?v2033) rfl (by kernel_rfl) (by kernel_rfl) (by kernel_rfl) (fun _ _ _ h => h) (Or.inl ⟨by rfl, ?hy2033⟩) hHeld ?rest2033
                    case hy2033 => (intro w' hSw; have s0 : w'.cell? ⟨g, j, none⟩ = some (.string s) := hSw; go_simp; try with_reducible rfl)
                    try simp [Act.put]
                    refine wpAnyH_take (i := 19) (v := ?v2034) rfl (by kernel_rfl) (by kernel_rfl) (by kernel_rfl) (fun _ _ _ h => h) (Or.inl ⟨by rfl, ?hy2034⟩) hHeld ?rest2034
                    case hy2034 => (intro w' hSw; have s0 : w'.cell? ⟨g, j, none⟩ = some (.string s) := hSw; go_simp; try with_reducible rfl)
                    try simp [Act.put]
                    refine wpAnyH_take (i := 20) (v := ?v2035) rfl (by kernel_rfl) (by kernel_rfl) (by kernel_rfl) (fun _ _ _ h => h) (Or.inl ⟨by rfl, ?hy2035⟩) hHeld ?rest2035
                    case hy2035 => (intro w' hSw; have s0 : w'.cell? ⟨g, j, none⟩ = some (.string s) := hSw; go_simp; try with_reducible rfl)
                    try simp [Act.put]
                    refine wpAnyH_take (i := 21) (v := ?v2036) rfl (by kernel_rfl) (by kernel_rfl) (by kernel_rfl) (fun _ _ _ h => h) (Or.inl ⟨by rfl, ?hy2036⟩) hHeld ?rest2036
                    case hy2036 => (intro w' hSw; have s0 : w'.cell? ⟨g, j, none⟩ = some (.string s) := hSw; go_simp; try with_reducible rfl)
                    try simp [Act.put]
                    refine wpAnyH_take (i := 22) (v := ?v2037) rfl (by kernel_rfl) (by kernel_rfl) (by kernel_rfl) (fun _ _ _ h => h) (Or.inl ⟨by rfl, ?hy2037⟩) hHeld ?rest2037
                    case hy2037 => (intro w' hSw; have s0 : w'.cell? ⟨g, j, none⟩ = some (.string s) := hSw; go_simp; try with_reducible rfl)
                    try simp [Act.put]
                    refine wpAnyH_take (i := 23) (v := ?v2038) rfl (by kernel_rfl) (by kernel_rfl) (by kernel_rfl) (fun _ _ _ h => h) (Or.inl ⟨by rfl, ?hy2038⟩) hHeld ?rest2038
                    case hy2038 => (intro w' hSw; have s0 : w'.cell? ⟨g, j, none⟩ = some (.string s) := hSw; go_simp; try with_reducible rfl)
                    try simp [Act.put]
                    refine wpAnyH_take (i := 25) (v := ?v2039) rfl (by kernel_rfl) (by kernel_rfl) (by kernel_rfl) (fun _ _ _ h => h) (Or.inl ⟨by rfl, ?hy2039⟩) hHeld ?rest2039
                    case hy2039 => (intro w' hSw; have s0 : w'.cell? ⟨g, j, none⟩ = some (.string s) := hSw; go_simp; try with_reducible rfl)
                    try simp [Act.put]
                    refine wpAnyH_ready (rs := [24]) (by kernel_rfl) (by simp) ?_
                    refine AllReadyH.cons rfl (fun K hK => ?_) AllReadyH.nil
                    go_simp
                    refine (ix_next HO2.out.ix (by have := HO2.out.len0 (by omega); omega) HO2.out.inv.h).mono ?_
                    rintro e W3 ⟨N2, rfl, hn3, hn4, hb⟩
                    obtain rfl := nextIs_same HO2.out.inv.h hn3 HNI.out
                    have HO3 := hide (HO2.out.below hb)
                    have HG3 := hide (HG2.out.trans (hb.mono HG2.out.size))
                    have HS3 := hide (HC.out W3 HG3.out)
                    clear hb hn3 hn4
                    refine hK.out _ _ HS3.out (fun hHeld => ?_)
                    clear hK K
                    try simp [Act.put]
                    refine wpAnyH_take (i := 26) (v := ?v2050) rfl (by kernel_rfl) (by kernel_rfl) (by kernel_rfl) (fun _ _ _ h => h) (Or.inl ⟨by rfl, ?hy2050⟩) hHeld ?rest2050
                    case hy2050 => (intro w' hSw; have s0 : w'.cell? ⟨g, j, none⟩ = some (.string s) := hSw; go_simp; try with_reducible rfl)
                    try simp [Act.put]
                    refine wpAnyH_ready (rs := [27]) (by kernel_rfl) (by simp) ?_
                    refine AllReadyH.cons rfl (fun K hK => ?_) AllReadyH.nil
                    go_simp
                    refine (put_any s (N2 + id) W3).mono ?_
                    rintro e W4 ⟨pa, pc, rfl, hpl, hb⟩
                    have HO4 := hide (HO3.out.below hb)
                    have HG4 := hide (HG3.out.trans (hb.mono HG3.out.size))
                    have HS4 := hide (HC.out W4 HG4.out)
                    have HPL := hide (hpl 0)
                    clear hb hpl
                    refine hK.out _ _ HS4.out (fun hHeld => ?_)
                    clear hK K
                    try simp [Act.put]
                    refine wpAnyH_ready (rs := [28]) (by kernel_rfl) (by simp) ?_
                    refine AllReadyH.cons rfl (fun K hK => ?_) AllReadyH.nil
                    go_simp
                    refine (ix_may HO4.out.ix (inv_len HO4.out.inv) (rPut s (N2 + id)) pa pc HPL.out.at (sm_put HSZ.out.2.2).1 (sm_put HSZ.out.2.2).2).mono ?_
                    rintro e W5 ⟨rfl, hb⟩
                    rw [gone_may HO4.out.inv HSZ.out.1 HSZ.out.2.1 (by constructor <;> omega)]
                    have HO5 := hide (HO4.out.below hb)
                    have HG5 := hide (HG4.out.trans (hb.mono HG4.out.size))
                    have HS5 := hide (HC.out W5 HG5.out)
                    clear hb
                    refine hK.out _ _ HS5.out (fun hHeld => ?_)
                    clear hK K
                    try simp [Act.put]
                    refine wpAnyH_take (i := 29) (v := ?v2060) rfl (by kernel_rfl) (by kernel_rfl) (by kernel_rfl) (fun _ _ _ h => h) (Or.inl ⟨by rfl, ?hy2060⟩) hHeld ?rest2060
                    case hy2060 => (intro w' hSw; have s0 : w'.cell? ⟨g, j, none⟩ = some (.string s) := hSw; go_simp; try with_reducible rfl)
                    try simp [Act.put]
                    refine wpAnyH_take (i := 30) (v := ?v2061) rfl (by kernel_rfl) (by kernel_rfl) (by kernel_rfl) (fun _ _ _ h => h) (Or.inl ⟨by rfl, ?hy2061⟩) hHeld ?rest2061
                    case hy2061 => (intro w' hSw; have s0 : w'.cell? ⟨g, j, none⟩ = some (.string s) := hSw; go_simp; try with_reducible rfl)
                    try simp [Act.put]
                    refine wpAnyH_take (i := 31) (v := ?v2062) rfl (by kernel_rfl) (by kernel_rfl) (by kernel_rfl) (fun _ _ _ h => h) (Or.inl ⟨by rfl, ?hy2062⟩) hHeld ?rest2062
                    case hy2062 => (intro w' hSw; have s0 : w'.cell? ⟨g, j, none⟩ = some (.string s) := hSw; go_simp; try with_reducible rfl)
                    try simp [Act.put]
                    refine wpAnyH_done (by kernel_rfl) (NoPanic.normal ?_) _
                    go_wp2_with fail
                    exact ⟨⟨j + 1, by omega, by go_num, HG5.out⟩, by simp [vInt]; omega⟩
                  · have hdl : decide (N + id ≤ 1099511627776) = false := by simpa using hle
                    refine wpAnyH_take (i := 15) (v := ?v2130) rfl (by kernel_rfl) (by kernel_rfl) (by kernel_rfl) (fun _ _ _ h => h) (Or.inl ⟨by rfl, ?hy2130⟩) hHeld ?rest2130
                    case hy2130 => (intro w' hSw; have s0 : w'.cell? ⟨g, j, none⟩ = some (.string s) := hSw; go_simp; try with_reducible rfl)
                    try simp [Act.put]
                    refine wpAnyH_take (i := 16) (v := ?v2131) rfl (by kernel_rfl) (by kernel_rfl) (by kernel_rfl) (fun _ _ _ h => h) (Or.inl ⟨by rfl, ?hy2131⟩) hHeld ?rest2131
                    case hy2131 => (intro w' hSw; have s0 : w'.cell? ⟨g, j, none⟩ = some (.string s) := hSw; go_simp; try with_reducible rfl)
                    try simp [Act.put]
                    refine wpAnyH_take (i := 17) (v := ?v2132) rfl (by kernel_rfl) (by kernel_rfl) (by kernel_rfl) (fun _ _ _ h => h) (Or.inl ⟨by rfl, ?hy2132⟩) hHeld ?rest2132
                    case hy2132 => (intro w' hSw; have s0 : w'.cell? ⟨g, j, none⟩ = some (.string s) := hSw; go_simp; try with_reducible rfl)
                    try simp [Act.put]
                    refine wpAnyH_take (i := 18) (v := undef) rfl (by kernel_rfl) (by kernel_rfl) (by kernel_rfl) (fun _ _ _ h => h) (Or.inr ⟨by rfl, rfl⟩) hHeld ?rest2140
                    try simp [Act.put]
                    refine wpAnyH_take (i := 19) (v := undef) rfl (by kernel_rfl) (by kernel_rfl) (by kernel_rfl) (fun _ _ _ h => h) (Or.inr ⟨by rfl, rfl⟩) hHeld ?rest2141
                    try simp [Act.put]
                    refine wpAnyH_take (i := 20) (v := undef) rfl (by kernel_rfl) (by kernel_rfl) (by kernel_rfl) (fun _ _ _ h => h) (Or.inr ⟨by rfl, rfl⟩) hHeld ?rest2142
                    try simp [Act.put]
                    refine wpAnyH_take (i := 21) (v := undef) rfl (by kernel_rfl) (by kernel_rfl) (by kernel_rfl) (fun _ _ _ h => h) (Or.inr ⟨by rfl, rfl⟩) hHeld ?rest2143
                    try simp [Act.put]
                    refine wpAnyH_take (i := 22) (v := undef) rfl (by kernel_rfl) (by kernel_rfl) (by kernel_rfl) (fun _ _ _ h => h) (Or.inr ⟨by rfl, rfl⟩) hHeld ?rest2144
                    try simp [Act.put]
                    refine wpAnyH_take (i := 23) (v := undef) rfl (by kernel_rfl) (by kernel_rfl) (by kernel_rfl) (fun _ _ _ h => h) (Or.inr ⟨by rfl, rfl⟩) hHeld ?rest2145
                    try simp [Act.put]
                    refine wpAnyH_take (i := 25) (v := undef) rfl (by kernel_rfl) (by kernel_rfl) (by kernel_rfl) (fun _ _ _ h => h) (Or.inr ⟨by rfl, rfl⟩) hHeld ?rest2146
                    try simp [Act.put]
                    refine wpAnyH_ready (rs := [24]) (by kernel_rfl) (by simp) ?_
                    refine AllReadyH.cons rfl (fun K hK => ?_) AllReadyH.nil
                    go_simp
                    refine hK.out _ _ HS2.out (fun hHeld => ?_)
                    clear hK K
                    try simp [Act.put]
                    refine wpAnyH_take (i := 26) (v := undef) rfl (by kernel_rfl) (by kernel_rfl) (by kernel_rfl) (fun _ _ _ h => h) (Or.inr ⟨by rfl, rfl⟩) hHeld ?rest2150
                    try simp [Act.put]
                    refine wpAnyH_ready (rs := [27]) (by kernel_rfl) (by simp) ?_
                    refine AllReadyH.cons rfl (fun K hK => ?_) AllReadyH.nil
                    go_simp
                    refine hK.out _ _ HS2.out (fun hHeld => ?_)
                    clear hK K
                    try simp [Act.put]
                    refine wpAnyH_ready (rs := [28]) (by kernel_rfl) (by simp) ?_
                    refine AllReadyH.cons rfl (fun K hK => ?_) AllReadyH.nil
                    go_simp
                    refine hK.out _ _ HS2.out (fun hHeld => ?_)
                    clear hK K
                    try simp [Act.put]
                    refine wpAnyH_take (i := 29) (v := undef) rfl (by kernel_rfl) (by kernel_rfl) (by kernel_rfl) (fun _ _ _ h => h) (Or.inr ⟨by rfl, rfl⟩) hHeld ?rest2160
                    try simp [Act.put]
                    refine wpAnyH_take (i := 30) (v := ?v2170) rfl (by kernel_rfl) (by kernel_rfl) (by kernel_rfl) (fun _ _ _ h => h) (Or.inl ⟨by rfl, ?hy2170⟩) hHeld ?rest2170
                    case hy2170 => (intro w' hSw; have s0 : w'.cell? ⟨g, j, none⟩ = some (.string s) := hSw; go_simp; try with_reducible rfl)
                    try simp [Act.put]
                    refine wpAnyH_take (i := 31) (v := ?v2171) rfl (by kernel_rfl) (by kernel_rfl) (by kernel_rfl) (fun _ _ _ h => h) (Or.inl ⟨by rfl, ?hy2171⟩) hHeld ?rest2171
                    case hy2171 => (intro w' hSw; have s0 : w'.cell? ⟨g, j, none⟩ = some (.string s) := hSw; go_simp; try with_reducible rfl)
                    try simp [Act.put]
                    refine wpAnyH_done (by kernel_rfl) (NoPanic.normal ?_) _
                    go_wp2_with fail
                    exact ⟨⟨j + 1, by omega, by go_num, HG2.out⟩, by simp [vInt]; omega⟩
              · have hjm : j = m := by omega
                subst hjm
                have hd : decide ((j : Int) < (j : Int)) = false := by simp
                have HOe := hide (HON.out.below HG.out)
                go_wp2_with fail
                exact ⟨⟨k + 1, by omega, by go_num, GL, Y, HOe.out⟩, by simp [vInt]; omega⟩
          · have hq1 : (X.may x == 0) = false := by simpa using hm0
            clear hm0 hdel hgd
            have HML : Hid (m ≤ 31) := by have := HON.out.len; have := HGL.out; have := H30.out; unfold Hid; omega
            go_wp2_with fail
            go_loopw [10] (fun y wi => ∃ j : Nat, j ≤ m ∧ y = .int .i64 j ∧ Below W.heap.size W wi) (fun y _ => m - (vInt y).toNat)
            case atStart => exact ⟨0, by omega, rfl, Below.refl _ _⟩
            case round =>
              obtain ⟨j, hj, rfl, hbi⟩ := hrel
              have HG := hide hbi
              clear hbi
              have hm31 : m ≤ 31 := HML.out
              by_cases hjt : j < m
              · have hd : decide ((j : Int) < (m : Int)) = true := by simp; omega
                have hdi : (j : Int) < (m : Int) := by omega
                have hd0 : (0 : Int) ≤ (j : Int) := by omega
                obtain ⟨s, hs⟩ : ∃ s, GL[j]? = some s := ⟨_, List.getElem?_eq_getElem (by have := HGL.out; omega)⟩
                have HSZ := hide (HON.out.gone s (List.mem_of_getElem? hs))
                have HGO := hide (gone_get HON.out.inv HSZ.out.1)
                have HOK : Hid (okS s) := by have := HSZ.out.2.2; show s.size ≤ 9223372036854775807; omega
                rcases HON.out.row.2 with ⟨_, h0⟩ | ⟨g, cap, cur, hv, hgB, hgc, _⟩
                · have := HGL.out; omega
                · cases hv
                  have HC : Hid (∀ W', Below W.heap.size W W' → W'.cell? ⟨g, j, none⟩ = some (.string s)) := fun W' hW => by
                    have : W.cell? ⟨g, j, none⟩ = some (.string s) := by rw [HON.out.row.cellAt j (by have := HGL.out; omega)]; unfold stS; rw [List.getElem?_map, hs]; rfl
                    exact (hW.cell (p := ⟨g, j, none⟩) (lt_of_block hgc)).trans this
                  have HOi := hide (HON.out.below HG.out)
                  have c1 := HC.out wr HG.out
                  have HQ := hide (ix_get HOi.out.ix s HOK.out)
                  have hze := en_zero
                  clear hs hgB hgc
                  go_wp2_with fail
                  refine HQ.out.mono ?_
                  rintro e w8 ⟨rfl, hb⟩
                  rw [HGO.out.1, HGO.out.2.1]
                  simp only [Option.getD_none, en0, enV]
                  have hb2 : Below w8.heap.size w8 (w8.alloc (.cells #[.string ByteArray.empty, .int .i64 0, .int .i64 0, .int .i64 0, .string ByteArray.empty] 31)) := (Below.refl _ _).alloc (Nat.le_refl _) _
                  have HO8 := hide ((HOi.out.below hb).below hb2)
                  have HG8 := hide ((HG.out.trans (hb.mono HG.out.size)).trans (hb2.mono (HG.out.trans (hb.mono HG.out.size)).size))
                  clear hb hb2 c1 HQ HG HOi
                  go_upto_region 19 with fail
                  generalize w8.alloc (.cells #[.string ByteArray.empty, .int .i64 0, .int .i64 0, .int .i64 0, .string ByteArray.empty] 31) = W8 at *
                  obtain ⟨W0, hW0⟩ : ∃ W0, W0 = W8.drew := ⟨_, rfl⟩
                  have hbd : Below W8.heap.size W8 W0 := by rw [hW0]; exact (Below.refl _ _).drew
                  have HWD := hide hW0
                  have HO0 := hide (HO8.out.below hbd)
                  have HG0 := hide (HG8.out.trans (hbd.mono HG8.out.size))
                  have HS0 := hide (HC.out W0 HG0.out)
                  have hid := HID.out
                  clear hW0 hbd HO8 HG8
                  refine wp_region_noPanic ?_
                  refine wp_region_held_drew (S := fun w' => w'.cell? ⟨g, j, none⟩ = some (.string s)) (by kernel_rfl) (by rw [← HWD.out]; exact HS0.out) (fun hHeld => ?_)
                  rw [← HWD.out] at hHeld ⊢
                  refine wpAnyH_take (i := 0) (v := ?v3001) rfl (by kernel_rfl) (by kernel_rfl) (by kernel_rfl) (fun _ _ _ h => h) (Or.inl ⟨by rfl, ?hy3001⟩) hHeld ?rest3001
                  case hy3001 => (intro w' hSw; have s0 : w'.cell? ⟨g, j, none⟩ = some (.string s) := hSw; go_simp; try with_reducible rfl)
                  try simp [Act.put]
                  refine wpAnyH_take (i := 1) (v := ?v3002) rfl (by kernel_rfl) (by kernel_rfl) (by kernel_rfl) (fun _ _ _ h => h) (Or.inl ⟨by rfl, ?hy3002⟩) hHeld ?rest3002
                  case hy3002 => (intro w' hSw; have s0 : w'.cell? ⟨g, j, none⟩ = some (.string s) := hSw; go_simp; try with_reducible rfl)
                  try simp [Act.put]
                  refine wpAnyH_take (i := 2) (v := ?v3003) rfl (by kernel_rfl) (by kernel_rfl) (by kernel_rfl) (fun _ _ _ h => h) (Or.inl ⟨by rfl, ?hy3003⟩) hHeld ?rest3003
                  case hy3003 => (intro w' hSw; have s0 : w'.cell? ⟨g, j, none⟩ = some (.string s) := hSw; go_simp; try with_reducible rfl)
                  try simp [Act.put]
                  refine wpAnyH_take (i := 3) (v := ?v3004) rfl (by kernel_rfl) (by kernel_rfl) (by kernel_rfl) (fun _ _ _ h => h) (Or.inl ⟨by rfl, ?hy3004⟩) hHeld ?rest3004
                  case hy3004 => (intro w' hSw; have s0 : w'.cell? ⟨g, j, none⟩ = some (.string s) := hSw; go_simp; try with_reducible rfl)
                  try simp [Act.put]
                  refine wpAnyH_take (i := 4) (v := ?v3005) rfl (by kernel_rfl) (by kernel_rfl) (by kernel_rfl) (fun _ _ _ h => h) (Or.inl ⟨by rfl, ?hy3005⟩) hHeld ?rest3005
                  case hy3005 => (intro w' hSw; have s0 : w'.cell? ⟨g, j, none⟩ = some (.string s) := hSw; go_simp; try with_reducible rfl)
                  try simp [Act.put]
                  refine wpAnyH_take (i := 5) (v := ?v3006) rfl (by kernel_rfl) (by kernel_rfl) (by kernel_rfl) (fun _ _ _ h => h) (Or.inl ⟨by rfl, ?hy3006⟩) hHeld ?rest3006
                  case hy3006 => (intro w' hSw; have s0 : w'.cell? ⟨g, j, none⟩ = some (.string s) := hSw; go_simp; try with_reducible rfl)
                  try simp [Act.put]
                  refine wpAnyH_take (i := 6) (v := ?v3007) rfl (by kernel_rfl) (by kernel_rfl) (by kernel_rfl) (fun _ _ _ h => h) (Or.inl ⟨by rfl, ?hy3007⟩) hHeld ?rest3007
                  case hy3007 => (intro w' hSw; have s0 : w'.cell? ⟨g, j, none⟩ = some (.string s) := hSw; go_simp; try with_reducible rfl)
                  try simp [Act.put]
                  refine wpAnyH_take (i := 7) (v := ?v3008) rfl (by kernel_rfl) (by kernel_rfl) (by kernel_rfl) (fun _ _ _ h => h) (Or.inl ⟨by rfl, ?hy3008⟩) hHeld ?rest3008
                  case hy3008 => (intro w' hSw; have s0 : w'.cell? ⟨g, j, none⟩ = some (.string s) := hSw; go_simp; try with_reducible rfl)
                  try simp [Act.put]
                  refine wpAnyH_ready (rs := [8]) (by kernel_rfl) (by simp) ?_
                  refine AllReadyH.cons rfl (fun K hK => ?_) AllReadyH.nil
                  go_simp
                  refine (ix_known HO0.out.ix s HOK.out).mono ?_
                  rintro e W1 ⟨rfl, hb⟩
                  rw [HGO.out.2.2]
                  have HO1 := hide (HO0.out.below hb)
                  have HG1 := hide (HG0.out.trans (hb.mono HG0.out.size))
                  have HS1 := hide (HC.out W1 HG1.out)
                  clear hb
                  refine hK.out _ _ HS1.out (fun hHeld => ?_)
                  clear hK K
                  try simp [Act.put]
                  refine wpAnyH_take (i := 9) (v := ?v3020) rfl (by kernel_rfl) (by kernel_rfl) (by kernel_rfl) (fun _ _ _ h => h) (Or.inl ⟨by rfl, ?hy3020⟩) hHeld ?rest3020
                  case hy3020 => (intro w' hSw; have s0 : w'.cell? ⟨g, j, none⟩ = some (.string s) := hSw; go_simp; try with_reducible rfl)
                  try simp [Act.put]
                  refine wpAnyH_take (i := 10) (v := ?v3021) rfl (by kernel_rfl) (by kernel_rfl) (by kernel_rfl) (fun _ _ _ h => h) (Or.inl ⟨by rfl, ?hy3021⟩) hHeld ?rest3021
                  case hy3021 => (intro w' hSw; have s0 : w'.cell? ⟨g, j, none⟩ = some (.string s) := hSw; go_simp; try with_reducible rfl)
                  try simp [Act.put]
                  refine wpAnyH_take (i := 11) (v := ?v3022) rfl (by kernel_rfl) (by kernel_rfl) (by kernel_rfl) (fun _ _ _ h => h) (Or.inl ⟨by rfl, ?hy3022⟩) hHeld ?rest3022
                  case hy3022 => (intro w' hSw; have s0 : w'.cell? ⟨g, j, none⟩ = some (.string s) := hSw; go_simp; try with_reducible rfl)
                  try simp [Act.put]
                  refine wpAnyH_take (i := 12) (v := ?v3023) rfl (by kernel_rfl) (by kernel_rfl) (by kernel_rfl) (fun _ _ _ h => h) (Or.inl ⟨by rfl, ?hy3023⟩) hHeld ?rest3023
                  case hy3023 => (intro w' hSw; have s0 : w'.cell? ⟨g, j, none⟩ = some (.string s) := hSw; go_simp; try with_reducible rfl)
                  try simp [Act.put]
                  refine wpAnyH_take (i := 14) (v := ?v3024) rfl (by kernel_rfl) (by kernel_rfl) (by kernel_rfl) (fun _ _ _ h => h) (Or.inl ⟨by rfl, ?hy3024⟩) hHeld ?rest3024
                  case hy3024 => (intro w' hSw; have s0 : w'.cell? ⟨g, j, none⟩ = some (.string s) := hSw; go_simp; try with_reducible rfl)
                  try simp [Act.put]
                  refine wpAnyH_ready (rs := [13]) (by kernel_rfl) (by simp) ?_
                  refine AllReadyH.cons rfl (fun K hK => ?_) AllReadyH.nil
                  go_simp
                  refine (ix_next HO1.out.ix (by have := HO1.out.len0 (by omega); omega) HO1.out.inv.h).mono ?_
                  rintro e W2 ⟨N, rfl, hn1, hn2, hb⟩
                  have HNI := hide hn1
                  have HO2 := hide (HO1.out.below hb)
                  have HG2 := hide (HG1.out.trans (hb.mono HG1.out.size))
                  have HS2 := hide (HC.out W2 HG2.out)
                  have hn0 := hn1.2.1
                  have hwr : IntKind.i64.wrap (N + id) = N + id := by rw [IntKind.wrap_i64]; omega
                  clear hb hn1
                  refine hK.out _ _ HS2.out (fun hHeld => ?_)
                  clear hK K
                  try simp [Act.put]
                  by_cases hle : N + id ≤ 1099511627776
                  · have hdl : decide (N + id ≤ 1099511627776) = true := by simpa using hle
                    refine wpAnyH_take (i := 15) (v := ?v3030) rfl (by kernel_rfl) (by kernel_rfl) (by kernel_rfl) (fun _ _ _ h => h) (Or.inl ⟨by rfl, ?hy3030⟩) hHeld ?rest3030
                    case hy3030 => (intro w' hSw; have s0 : w'.cell? ⟨g, j, none⟩ = some (.string s) := hSw; go_simp; try with_reducible rfl)
                    try simp [Act.put]
                    refine wpAnyH_take (i := 16) (v := ?v3031) rfl (by kernel_rfl) (by kernel_rfl) (by kernel_rfl) (fun _ _ _ h => h) (Or.inl ⟨by rfl, ?hy3031⟩) hHeld ?rest3031
                    case hy3031 => (intro w' hSw; have s0 : w'.cell? ⟨g, j, none⟩ = some (.string s) := hSw; go_simp; try with_reducible rfl)
                    try simp [Act.put]
                    refine wpAnyH_take (i := 17) (v := ?v3032) rfl (by kernel_rfl) (by kernel_rfl) (by kernel_rfl) (fun _ _ _ h => h) (Or.inl ⟨by rfl, ?hy3032⟩) hHeld ?rest3032
                    case hy3032 => (intro w' hSw; have s0 : w'.cell? ⟨g, j, none⟩ = some (.string s) := hSw; go_simp; try with_reducible rfl)
                    try simp [Act.put]
                    refine wpAnyH_take (i := 18) (v := ?v3033) rfl (by kernel_rfl) (by kernel_rfl) (by kernel_rfl) (fun _ _ _ h => h) (Or.inl ⟨by rfl, ?hy3033⟩) hHeld ?rest3033
                    case hy3033 => (intro w' hSw; have s0 : w'.cell? ⟨g, j, none⟩ = some (.string s) := hSw; go_simp; try with_reducible rfl)
                    try simp [Act.put]
                    refine wpAnyH_take (i := 19) (v := ?v3034) rfl (by kernel_rfl) (by kernel_rfl) (by kernel_rfl) (fun _ _ _ h => h) (Or.inl ⟨by rfl, ?hy3034⟩) hHeld ?rest3034
                    case hy3034 => (intro w' hSw; have s0 : w'.cell? ⟨g, j, none⟩ = some (.string s) := hSw; go_simp; try with_reducible rfl)
                    try simp [Act.put]
                    refine wpAnyH_take (i := 20) (v := ?v3035) rfl (by kernel_rfl) (by kernel_rfl) (by kernel_rfl) (fun _ _ _ h => h) (Or.inl ⟨by rfl, ?hy3035⟩) hHeld ?rest3035
                    case hy3035 => (intro w' hSw; have s0 : w'.cell? ⟨g, j, none⟩ = some (.string s) := hSw; go_simp; try with_reducible rfl)
                    try simp [Act.put]
                    refine wpAnyH_take (i := 21) (v := ?v3036) rfl (by kernel_rfl) (by kernel_rfl) (by kernel_rfl) (fun _ _ _ h => h) (Or.inl ⟨by rfl, ?hy3036⟩) hHeld ?rest3036
                    case hy3036 => (intro w' hSw; have s0 : w'.cell? ⟨g, j, none⟩ = some (.string s) := hSw; go_simp; try with_reducible rfl)
                    try simp [Act.put]
                    refine wpAnyH_take (i := 22) (v := ?v3037) rfl (by kernel_rfl) (by kernel_rfl) (by kernel_rfl) (fun _ _ _ h => h) (Or.inl ⟨by rfl, ?hy3037⟩) hHeld ?rest3037
                    case hy3037 => (intro w' hSw; have s0 : w'.cell? ⟨g, j, none⟩ = some (.string s) := hSw; go_simp; try with_reducible rfl)
                    try simp [Act.put]
                    refine wpAnyH_take (i := 23) (v := ?v3038) rfl (by kernel_rfl) (by kernel_rfl) (by kernel_rfl) (fun _ _ _ h => h) (Or.inl ⟨by rfl, ?hy3038⟩) hHeld ?rest3038
                    case hy3038 => (intro w' hSw; have s0 : w'.cell? ⟨g, j, none⟩ = some (.string s) := hSw; go_simp; try with_reducible rfl)
                    try simp [Act.put]
                    refine wpAnyH_take (i := 25) (v := ?v3039) rfl (by kernel_rfl) (by kernel_rfl) (by kernel_rfl) (fun _ _ _ h => h) (Or.inl ⟨by rfl, ?hy3039⟩) hHeld ?rest3039
                    case hy3039 => (intro w' hSw; have s0 : w'.cell? ⟨g, j, none⟩ = some (.string s) := hSw; go_simp; try with_reducible rfl)
                    try simp [Act.put]
                    refine wpAnyH_ready (rs := [24]) (by kernel_rfl) (by simp) ?_
                    refine AllReadyH.cons rfl (fun K hK => ?_) AllReadyH.nil
                    go_simp
                    refine (ix_next HO2.out.ix (by have := HO2.out.len0 (by omega); omega) HO2.out.inv.h).mono ?_
                    rintro e W3 ⟨N2, rfl, hn3, hn4, hb⟩
                    obtain rfl := nextIs_same HO2.out.inv.h hn3 HNI.out
                    have HO3 := hide (HO2.out.below hb)
                    have HG3 := hide (HG2.out.trans (hb.mono HG2.out.size))
                    have HS3 := hide (HC.out W3 HG3.out)
                    clear hb hn3 hn4
                    refine hK.out _ _ HS3.out (fun hHeld => ?_)
                    clear hK K
                    try simp [Act.put]
                    refine wpAnyH_take (i := 26) (v := ?v3050) rfl (by kernel_rfl) (by kernel_rfl) (by kernel_rfl) (fun _ _ _ h => h) (Or.inl ⟨by rfl, ?hy3050⟩) hHeld ?rest3050
                    case hy3050 => (intro w' hSw; have s0 : w'.cell? ⟨g, j, none⟩ = some (.string s) := hSw; go_simp; try with_reducible rfl)
                    try simp [Act.put]
                    refine wpAnyH_ready (rs := [27]) (by kernel_rfl) (by simp) ?_
                    refine AllReadyH.cons rfl (fun K hK => ?_) AllReadyH.nil
                    go_simp
                    refine (put_any s (N2 + id) W3).mono ?_
                    rintro e W4 ⟨pa, pc, rfl, hpl, hb⟩
                    have HO4 := hide (HO3.out.below hb)
                    have HG4 := hide (HG3.out.trans (hb.mono HG3.out.size))
                    have HS4 := hide (HC.out W4 HG4.out)
                    have HPL := hide (hpl 0)
                    clear hb hpl
                    refine hK.out _ _ HS4.out (fun hHeld => ?_)
                    clear hK K
                    try simp [Act.put]
                    refine wpAnyH_ready (rs := [28]) (by kernel_rfl) (by simp) ?_
                    refine AllReadyH.cons rfl (fun K hK => ?_) AllReadyH.nil
                    go_simp
                    refine (ix_may HO4.out.ix (inv_len HO4.out.inv) (rPut s (N2 + id)) pa pc HPL.out.at (sm_put HSZ.out.2.2).1 (sm_put HSZ.out.2.2).2).mono ?_
                    rintro e W5 ⟨rfl, hb⟩
                    rw [gone_may HO4.out.inv HSZ.out.1 HSZ.out.2.1 (by constructor <;> omega)]
                    have HO5 := hide (HO4.out.below hb)
                    have HG5 := hide (HG4.out.trans (hb.mono HG4.out.size))
                    have HS5 := hide (HC.out W5 HG5.out)
                    clear hb
                    refine hK.out _ _ HS5.out (fun hHeld => ?_)
                    clear hK K
                    try simp [Act.put]
                    refine wpAnyH_take (i := 29) (v := ?v3060) rfl (by kernel_rfl) (by kernel_rfl) (by kernel_rfl) (fun _ _ _ h => h) (Or.inl ⟨by rfl, ?hy3060⟩) hHeld ?rest3060
                    case hy3060 => (intro w' hSw; have s0 : w'.cell? ⟨g, j, none⟩ = some (.string s) := hSw; go_simp; try with_reducible rfl)
                    try simp [Act.put]
                    refine wpAnyH_take (i := 30) (v := ?v3061) rfl (by kernel_rfl) (by kernel_rfl) (by kernel_rfl) (fun _ _ _ h => h) (Or.inl ⟨by rfl, ?hy3061⟩) hHeld ?rest3061
                    case hy3061 => (intro w' hSw; have s0 : w'.cell? ⟨g, j, none⟩ = some (.string s) := hSw; go_simp; try with_reducible rfl)
                    try simp [Act.put]
                    refine wpAnyH_take (i := 31) (v := ?v3062) rfl (by kernel_rfl) (by kernel_rfl) (by kernel_rfl) (fun _ _ _ h => h) (Or.inl ⟨by rfl, ?hy3062⟩) hHeld ?rest3062
                    case hy3062 => (intro w' hSw; have s0 : w'.cell? ⟨g, j, none⟩ = some (.string s) := hSw; go_simp; try with_reducible rfl)
                    try simp [Act.put]
                    refine wpAnyH_done (by kernel_rfl) (NoPanic.normal ?_) _
                    go_wp2_with fail
                    exact ⟨⟨j + 1, by omega, by go_num, HG5.out⟩, by simp [vInt]; omega⟩
                  · have hdl : decide (N + id ≤ 1099511627776) = false := by simpa using hle
                    refine wpAnyH_take (i := 15) (v := ?v3130) rfl (by kernel_rfl) (by kernel_rfl) (by kernel_rfl) (fun _ _ _ h => h) (Or.inl ⟨by rfl, ?hy3130⟩) hHeld ?rest3130
                    case hy3130 => (intro w' hSw; have s0 : w'.cell? ⟨g, j, none⟩ = some (.string s) := hSw; go_simp; try with_reducible rfl)
                    try simp [Act.put]
                    refine wpAnyH_take (i := 16) (v := ?v3131) rfl (by kernel_rfl) (by kernel_rfl) (by kernel_rfl) (fun _ _ _ h => h) (Or.inl ⟨by rfl, ?hy3131⟩) hHeld ?rest3131
                    case hy3131 => (intro w' hSw; have s0 : w'.cell? ⟨g, j, none⟩ = some (.string s) := hSw; go_simp; try with_reducible rfl)
                    try simp [Act.put]
                    refine wpAnyH_take (i := 17) (v := ?v3132) rfl (by kernel_rfl) (by kernel_rfl) (by kernel_rfl) (fun _ _ _ h => h) (Or.inl ⟨by rfl, ?hy3132⟩) hHeld ?rest3132
                    case hy3132 => (intro w' hSw; have s0 : w'.cell? ⟨g, j, none⟩ = some (.string s) := hSw; go_simp; try with_reducible rfl)
                    try simp [Act.put]
                    refine wpAnyH_take (i := 18) (v := undef) rfl (by kernel_rfl) (by kernel_rfl) (by kernel_rfl) (fun _ _ _ h => h) (Or.inr ⟨by rfl, rfl⟩) hHeld ?rest3140
                    try simp [Act.put]
                    refine wpAnyH_take (i := 19) (v := undef) rfl (by kernel_rfl) (by kernel_rfl) (by kernel_rfl) (fun _ _ _ h => h) (Or.inr ⟨by rfl, rfl⟩) hHeld ?rest3141
                    try simp [Act.put]
                    refine wpAnyH_take (i := 20) (v := undef) rfl (by kernel_rfl) (by kernel_rfl) (by kernel_rfl) (fun _ _ _ h => h) (Or.inr ⟨by rfl, rfl⟩) hHeld ?rest3142
                    try simp [Act.put]
                    refine wpAnyH_take (i := 21) (v := undef) rfl (by kernel_rfl) (by kernel_rfl) (by kernel_rfl) (fun _ _ _ h => h) (Or.inr ⟨by rfl, rfl⟩) hHeld ?rest3143
                    try simp [Act.put]
                    refine wpAnyH_take (i := 22) (v := undef) rfl (by kernel_rfl) (by kernel_rfl) (by kernel_rfl) (fun _ _ _ h => h) (Or.inr ⟨by rfl, rfl⟩) hHeld ?rest3144
                    try simp [Act.put]
                    refine wpAnyH_take (i := 23) (v := undef) rfl (by kernel_rfl) (by kernel_rfl) (by kernel_rfl) (fun _ _ _ h => h) (Or.inr ⟨by rfl, rfl⟩) hHeld ?rest3145
                    try simp [Act.put]
                    refine wpAnyH_take (i := 25) (v := undef) rfl (by kernel_rfl) (by kernel_rfl) (by kernel_rfl) (fun _ _ _ h => h) (Or.inr ⟨by rfl, rfl⟩) hHeld ?rest3146
                    try simp [Act.put]
                    refine wpAnyH_ready (rs := [24]) (by kernel_rfl) (by simp) ?_
                    refine AllReadyH.cons rfl (fun K hK => ?_) AllReadyH.nil
                    go_simp
                    refine hK.out _ _ HS2.out (fun hHeld => ?_)
                    clear hK K
                    try simp [Act.put]
                    refine wpAnyH_take (i := 26) (v := undef) rfl (by kernel_rfl) (by kernel_rfl) (by kernel_rfl) (fun _ _ _ h => h) (Or.inr ⟨by rfl, rfl⟩) hHeld ?rest3150
                    try simp [Act.put]
                    refine wpAnyH_ready (rs := [27]) (by kernel_rfl) (by simp) ?_
                    refine AllReadyH.cons rfl (fun K hK => ?_) AllReadyH.nil
                    go_simp
                    refine hK.out _ _ HS2.out (fun hHeld => ?_)
                    clear hK K
                    try simp [Act.put]
                    refine wpAnyH_ready (rs := [28]) (by kernel_rfl) (by simp) ?_
                    refine AllReadyH.cons rfl (fun K hK => ?_) AllReadyH.nil
                    go_simp
                    refine hK.out _ _ HS2.out (fun hHeld => ?_)
                    clear hK K
                    try simp [Act.put]
                    refine wpAnyH_take (i := 29) (v := undef) rfl (by kernel_rfl) (by kernel_rfl) (by kernel_rfl) (fun _ _ _ h => h) (Or.inr ⟨by rfl, rfl⟩) hHeld ?rest3160
                    try simp [Act.put]
                    refine wpAnyH_take (i := 30) (v := ?v3170) rfl (by kernel_rfl) (by kernel_rfl) (by kernel_rfl) (fun _ _ _ h => h) (Or.inl ⟨by rfl, ?hy3170⟩) hHeld ?rest3170
                    case hy3170 => (intro w' hSw; have s0 : w'.cell? ⟨g, j, none⟩ = some (.string s) := hSw; go_simp; try with_reducible rfl)
                    try simp [Act.put]
                    refine wpAnyH_take (i := 31) (v := ?v3171) rfl (by kernel_rfl) (by kernel_rfl) (by kernel_rfl) (fun _ _ _ h => h) (Or.inl ⟨by rfl, ?hy3171⟩) hHeld ?rest3171
                    case hy3171 => (intro w' hSw; have s0 : w'.cell? ⟨g, j, none⟩ = some (.string s) := hSw; go_simp; try with_reducible rfl)
                    try simp [Act.put]
                    refine wpAnyH_done (by kernel_rfl) (NoPanic.normal ?_) _
                    go_wp2_with fail
                    exact ⟨⟨j + 1, by omega, by go_num, HG2.out⟩, by simp [vInt]; omega⟩
              · have hjm : j = m := by omega
                subst hjm
                have hd : decide ((j : Int) < (j : Int)) = false := by simp
                have HOe := hide (HON.out.below HG.out)
                go_wp2_with fail
                exact ⟨⟨k + 1, by omega, by go_num, GL, Y, HOe.out⟩, by simp [vInt]; omega⟩
    · have hkl : k = l0 := by omega
      subst hkl
      have hd : decide ((k : Int) < (k : Int)) = false := by simp
      go_wp2_with fail
      refine (live13_any _).mono ?_
      rintro e wz ⟨rfl, hb⟩
      have HF := hide (HA.out.bel.trans (hb.mono HA.out.bel.size))
      clear hb
      go_wp2_with fail
      try go_ret
      exact ⟨rfl, HF.out⟩
end Go.Proofs.Ytonhmihmnkicdaa
