/- The law IndexWithin, walked. (Written by genxi.py.) -/
import Derived.Test.YtonhmihmnkicdaaIxLaw
namespace Go.Proofs.Ytonhmihmnkicdaa
open Go.RowKit
set_option linter.unusedVariables false
theorem bool13 : (Try.prog.info? 4).map (fun i => (i.zero, i.size, i.bytes)) = some (some (.bool false), 1, 1) := by kernel_rfl
theorem make13 (n : Nat) (h : n ≤ 1000000) (w : World) : (Instr.makeSlice 43 (.int .i64 (n : Int)) (.int .i64 (n : Int))).run Try.prog w = .ok (.slice (some ⟨w.heap.size, 0, none⟩) n n) (w.alloc (.cells (fnC n fun _ => .bool false) 4)) := by
  obtain ⟨i0, hi, hz0, hz1, hz2⟩ := info_parts bool13
  have h := run_make (P := Try.prog) w 43 4 i0 (.bool false) Try.underlying43 hi hz0 .i64 .i64 n n (by omega) (by omega) (by rw [hz2]; omega) (by omega)
  rw [hz1] at h
  rw [h]
  simp only [Int.toNat_natCast, Nat.mul_one]
  rw [show (Value.bool false).cells = #[.bool false] from rfl, fnC_made]
/-- an index, its keys, its volumes, and which of these live -/
structure WI (w : World) (I : Ix) (n : Nat) (X : FX) (ka : Option Addr) (KL : List ByteArray) (va : Option Addr) (VL : List VD) (lb m : Nat) (f : Nat → Bool) (W : World) : Prop where
  bel : Below w.heap.size w W
  ix : IxAt w.heap.size W I n X
  ks : StrsAt W ka KL
  vs : VosAt w.heap.size W va VL
  lv : FnAt W lb 4 m (fun p => .bool (f p))
  lo : w.heap.size ≤ lb
section
variable {w : World} {I : Ix} {n : Nat} {X : FX} {ka : Option Addr} {KL : List ByteArray} {va : Option Addr} {VL : List VD} {lb m : Nat} {f : Nat → Bool} {W W' : World}
theorem WI.below (h : WI w I n X ka KL va VL lb m f W) (hb : Below W.heap.size W W') : WI w I n X ka KL va VL lb m f W' :=
  ⟨h.bel.trans (hb.mono h.bel.size), h.ix.below hb, h.ks.below hb, h.vs.below hb, h.lv.below hb h.lv.lt, h.lo⟩
theorem WI.congr (h : WI w I n X ka KL va VL lb m f W) {g : Nat → Bool} (e : ∀ p, p < m → f p = g p) : WI w I n X ka KL va VL lb m g W :=
  ⟨h.bel, h.ix, h.ks, h.vs, h.lv.congr fun p hp => by rw [e p hp], h.lo⟩
theorem fn_bool {g : Nat → Bool} {q : Nat} {v : Value} (h : FnAt W lb 4 m (fun p => .bool (g p))) (hc : W.cell? ⟨lb, q, none⟩ = some v) : ∃ b, v = .bool b := by
  by_cases hq : q < m
  · rw [h.cell hq] at hc; cases hc; exact ⟨_, rfl⟩
  · rw [cell_of_block h, fnC_none _ hq] at hc; cases hc
theorem WI.set (h : WI w I n X ka KL va VL lb m f W) {p : Nat} (hp : p < m) (b : Bool) : WI w I n X ka KL va VL lb m (fun q => if q = p then b else f q) (W.setCell ⟨lb, p, none⟩ (.bool b)) := by
  have hlb := h.lv.lt
  have hset : ∀ i, i ≠ lb → (W.setCell ⟨lb, p, none⟩ (.bool b)).heap[i]? = W.heap[i]? := fun i hi => Below.heap_setCell _ _ _ _ hi
  have md : Mds w.heap.size (fun i => i = lb) W (fun i => i = lb) (W.setCell ⟨lb, p, none⟩ (.bool b)) :=
    ⟨(Below.refl _ _).setCell (p := ⟨lb, p, none⟩) h.lo _, by simp [World.setCell], fun i _ hn => hset i hn, fun i cur fr hc => hset i (fun e => by
      rw [e, show W.heap[lb]? = _ from h.lv] at hc; injection hc with hc; injection hc with _ q; exact absurd q (by decide)), fun i hi => .inl hi⟩
  have hown := h.ix.noown (h.lv.cell hp) (fun m e => by cases e)
  refine ⟨h.bel.trans md.bel, h.ix.mod md (fun i hi e => hown (e ▸ hi)), ?_, ?_, ?_, h.lo⟩
  · rcases h.ks with q | ⟨b1, o, ha, hlt, hc⟩
    · exact .inl q
    · cases KL with
      | nil => exact .inl rfl
      | cons s L =>
        have hne : b1 ≠ lb := fun e => by
          have q := hc 0 s rfl
          rw [e] at q
          obtain ⟨_, e'⟩ := fn_bool h.lv q
          cases e'
        have hcc : ∀ q, (W.setCell ⟨lb, p, none⟩ (.bool b)).cell? ⟨b1, q, none⟩ = W.cell? ⟨b1, q, none⟩ := fun q => by unfold World.cell?; rw [hset b1 hne]
        exact .inr ⟨b1, o, ha, Nat.lt_of_lt_of_le hlt md.size, fun i s hs => (hcc _).trans (hc i s hs)⟩
  · rcases h.vs with q | ⟨b1, o, ha, hlt, vs, hm, hc⟩
    · exact .inl q
    · cases vs with
      | nil => exact .inl hm.symm
      | cons v vs =>
        have hne : b1 ≠ lb := fun e => by
          have q := (hc 0 v rfl).1.c0
          rw [e] at q
          obtain ⟨_, e'⟩ := fn_bool h.lv q
          cases e'
        exact .inr ⟨b1, o, ha, Nat.lt_of_lt_of_le hlt md.size, v :: vs, hm, fun i x hi => ⟨(hc i x hi).1.keep (hset b1 hne), (hc i x hi).2.mod md⟩⟩
  · have := h.lv.set p (.bool b)
    refine this.congr fun q hq => ?_
    by_cases e : q = p
    · simp only [e, if_true]
    · simp only [e, if_false]
end
/-! facts of the lists -/
def livB (X : FX) (KL : List ByteArray) (k : Nat) (v : VD) : Bool := (KL.take k).any fun s => ((X.T s).getD en0).vol == v.id
theorem livB_succ {X : FX} {KL : List ByteArray} {k : Nat} {s : ByteArray} {e : En} (v : VD) (hs : KL[k]? = some s) (hT : X.T s = some e) : livB X KL (k + 1) v = (livB X KL k v || e.vol == v.id) := by
  unfold livB
  rw [List.take_add_one, hs, List.any_append]
  simp [hT]
def vAt (VL : List VD) (p : Nat) : VD := (VL[p]?).getD vd0
theorem key_facts {X : FX} (hi : X.Inv) {s : ByteArray} {e : En} (hT : X.T s = some e) : okS s ∧ OkI e.vol ∧ 0 ≤ e.off ∧ 0 ≤ e.len ∧ (X.V e.vol).isSome = true ∧ e.off + e.len ≤ (X.vol e.vol).len ∧ (X.vol e.vol).len ≤ 384 := by
  obtain ⟨a1, a2, a3, a4, a5, v, a6, a7⟩ := hi.t s e hT
  obtain ⟨n1, n2⟩ := hi.h _ (hi.v _ _ a6).2.1
  have hv : X.vol e.vol = v := by unfold FX.vol; rw [a6]; rfl
  rw [hv, a6]
  exact ⟨a1, ⟨by omega, by omega⟩, a3, a4, rfl, a7, (hi.v _ _ a6).2.2.2.1⟩
theorem vols_facts {X : FX} (hi : X.Inv) {VL : List VD} (h : VolsIs X VL) : (∀ (j : Nat) (v : VD), VL[j]? = some v → X.V v.id = some v) ∧ ∀ (j : Nat) (v v' : VD), VL[j]? = some v → VL[j + 1]? = some v' → v.id < v'.id := by
  obtain ⟨ids, hs, rfl⟩ := h
  have key : ∀ (j : Nat) (v : VD), (ids.map X.vol)[j]? = some v → ∃ id, ids[j]? = some id ∧ X.V id = some v ∧ v.id = id := fun j v hv => by
    rw [List.getElem?_map] at hv
    cases hid : ids[j]? with
    | none => rw [hid] at hv; cases hv
    | some id =>
      rw [hid] at hv
      have hm := (hs.2 id).1 (List.mem_of_getElem? hid)
      cases hV : X.V id with
      | none => rw [hV] at hm; cases hm.2
      | some u =>
        have : v = u := by
          have e : X.vol id = v := by simpa using hv
          rw [← e]; unfold FX.vol; rw [hV]; rfl
        subst this
        exact ⟨id, rfl, hV, (hi.v _ _ hV).1⟩
  refine ⟨fun j v hv => ?_, fun j v v' h1 h2 => ?_⟩
  · obtain ⟨id, _, h2, h3⟩ := key j v hv
    rw [h3]; exact h2
  · obtain ⟨i1, p1, _, e1⟩ := key j v h1
    obtain ⟨i2, p2, _, e2⟩ := key _ v' h2
    rw [e1, e2]
    obtain ⟨l1, q1⟩ := List.getElem?_eq_some_iff.1 p1
    obtain ⟨l2, q2⟩ := List.getElem?_eq_some_iff.1 p2
    have := List.pairwise_iff_getElem.1 hs.1 j (j + 1) l1 l2 (by omega)
    rw [q1, q2] at this
    exact this
theorem keys_facts {X : FX} (hi : X.Inv) {KL : List ByteArray} (h : ListIs X.T ByteArray.empty 1000 KL) (hn : KL.length < 1000) : (∀ s ∈ KL, ∃ e, X.T s = some e) ∧ ∀ s e, X.T s = some e → s ∈ KL := by
  obtain ⟨A, hs, rfl⟩ := h
  have hA : A.take (cutL 1000 A.length) = A := by
    apply List.take_of_length_le
    rw [List.length_take] at hn
    unfold cutL at hn ⊢
    omega
  rw [hA]
  refine ⟨fun s hm => ?_, fun s e he => (hs.2 s).2 ⟨(hi.t s e he).1, by rw [he]; rfl, ?_⟩⟩
  · have := ((hs.2 s).1 hm).2.1
    cases hT : X.T s with
    | none => rw [hT] at this; cases this
    | some e => exact ⟨e, rfl⟩
  · exact List.not_lt_nil _
theorem liv_all {X : FX} (hi : X.Inv) {KL : List ByteArray} (hk : ∀ s e, X.T s = some e → s ∈ KL) {v : VD} (hv : X.V v.id = some v) : livB X KL KL.length v = true := by
  obtain ⟨_, _, _, _, _, s, e, h1, h2⟩ := hi.v _ _ hv
  unfold livB
  rw [List.take_of_length_le (Nat.le_refl _), List.any_eq_true]
  exact ⟨s, hk s e h1, by rw [h1]; simpa using h2⟩
set_option maxRecDepth 100000 in
set_option maxHeartbeats 64000000 in
theorem walkIndexWithin (a0 : Option Addr) (l0 c0 : Nat) (w : World) (h0 : Came 22 w a0 l0 c0) : Calls Try.prog 3 #[.slice a0 l0 c0] w fun e w' => e = .returned (.bool true) ∧ Below w.heap.size w w' := by
  obtain ⟨ls, hls, hc1, z1, hR, hcm⟩ := came_recs h0
  clear h0 hc1
  have HRW := hide hR
  have HLS := hide hls
  have HCM := hide hcm
  have HLK := hide (fun x hx => LocsK.came (hR.2 x hx) : ∀ x ∈ ls, LocsK w.heap.size w x.2.1 x.1.ls)
  clear hR hls hcm
  by_cases h30 : 30 < l0
  · have d1 : decide ((30 : Int) < (l0 : Int)) = true := by simp; omega
    have d2 : decide (30 < l0) = true := by simpa using h30
    clear h30 z1
    go_enter Try.func3, Try.ntmps3
    go_wp2_with fail
    refine (live13_any w).mono ?_
    rintro e w2 ⟨rfl, hb⟩
    have HF := hide hb
    clear hb
    go_wp2_with fail
    try go_ret
    exact ⟨rfl, HF.out⟩
  have d1 : decide ((30 : Int) < (l0 : Int)) = false := by simp; omega
  have d2 : decide (30 < l0) = false := by simpa using h30
  have H30 : Hid (l0 ≤ 30) := by unfold Hid; omega
  clear h30 z1
  go_enter Try.func3, Try.ntmps3
  go_wp2_with fail
  refine (ix_new w).mono ?_
  rintro e w1 ⟨I, rfl, hX, hb⟩
  have HX1 := hide hX
  have HB1 := hide hb
  clear hX hb
  go_wp2_with fail
  go_loopw [4] (fun y wr => ∃ k : Nat, k ≤ l0 ∧ y = .int .i64 k ∧ ∃ X, IxAt w.heap.size wr I (4 * k) X ∧ X.Inv ∧ Below w.heap.size w wr) (fun y _ => l0 - (vInt y).toNat)
  case atStart => exact ⟨0, by omega, rfl, FX.nil, HX1.out, inv_nil, HB1.out⟩
  case round =>
    obtain ⟨k, hk, rfl, X, hix, hiv, hbw⟩ := hrel
    have HIX := hide hix
    have HIV0 := hide hiv
    have HBW := hide hbw
    clear hix hiv hbw
    by_cases hlt : k < l0
    · have hd : decide ((k : Int) < (l0 : Int)) = true := by simp; omega
      have hdi : (k : Int) < (l0 : Int) := by omega
      have hd0 : (0 : Int) ≤ (k : Int) := by omega
      have hl30 : l0 ≤ 30 := H30.out
      obtain ⟨⟨x, xa, xc⟩, hx⟩ : ∃ x, ls[k]? = some x := ⟨_, List.getElem?_eq_getElem (by have := HLS.out; omega)⟩
      have hxm : (x, xa, xc) ∈ ls := List.mem_of_getElem? hx
      have HPN : Hid (∀ W, Below w.heap.size w W → ∃ b1 o1, a0 = some ⟨b1, o1, none⟩ ∧ W.rangeAt b1 (o1 + k * 14) (rtC (x, xa, xc)).toList) := fun W hW => by
        obtain ⟨b1, o1, e, hb1, p1, q1⟩ := (HRW.out.below hW).nth hx
        exact ⟨b1, o1, e, p1⟩
      obtain ⟨b1, o1, rfl, p1⟩ := HPN.out wr HBW.out
      have HPX : Hid (∀ W, Below w.heap.size w W → W.rangeAt b1 (o1 + k * 14) (rtC (x, xa, xc)).toList) := fun W hW => by
        obtain ⟨b2, o2, e, p2⟩ := HPN.out W hW
        cases e; exact p2
      have P1 := hide p1
      have HCX := hide (HCM.out _ hxm)
      have HKX := hide (HLK.out _ hxm)
      have HSX := hide (small_any x xa xc wr HCX.out)
      clear hx hxm p1 HPN
      go_wp2_with (first | (refine wpList_load_mid rfl 33 (.tmp 30) rfl b1 (o1 + k * 14) rfl (rtC (x, xa, xc)).toList _ P1.out Try.underlying33 rfl ref_info ?_; rw [show (rtC (x, xa, xc)).toList.toArray = rcs x xa xc from rfl]))
      refine HSX.out.mono ?_
      rintro e w3 ⟨rfl, hb⟩
      have HIX3 := hide (HIX.out.below hb)
      have HBW3 := hide (HBW.out.trans (hb.mono HBW.out.size))
      clear hb HSX HIX HBW P1
      cases hsx : smlB x with
      | false =>
        go_wp2_with fail
        refine (live13_any w3).mono ?_
        rintro e w4 ⟨rfl, hb⟩
        have HF := hide (HBW3.out.trans (hb.mono HBW3.out.size))
        clear hb
        go_wp2_with fail
        try go_ret
        exact ⟨rfl, HF.out⟩
      | true =>
        have HSM := hide (sm_of HCX.out hsx)
        have P3 := hide (HPX.out w3 HBW3.out)
        clear hsx HCX
        go_wp2_with (first | (refine wpList_load_mid rfl 33 (.tmp 38) rfl b1 (o1 + k * 14) rfl (rtC (x, xa, xc)).toList _ P3.out Try.underlying33 rfl ref_info ?_; rw [show (rtC (x, xa, xc)).toList.toArray = rcs x xa xc from rfl]))
        refine (own13_any x xa xc w3).mono ?_
        rintro e w4 ⟨rfl, hb⟩
        have HIX4 := hide (HIX3.out.below hb)
        have HBW4 := hide (HBW3.out.trans (hb.mono HBW3.out.size))
        clear hb HIX3 HBW3 P3
        have HQ := hide (ix_apply HIX4.out HIV0.out (by omega) x xa xc (HKX.out.mod (Mds.of_below (fun _ => False) HBW4.out (Nat.le_refl _))) HSM.out.1 HSM.out.2)
        go_wp2_with fail
        refine HQ.out.mono ?_
        rintro e w5 ⟨sa, sc, rfl, hsc, hsv, hix, hm⟩
        have HIX5 := hide (hix.mono (m := 4 * (k + 1)) (by omega))
        have HIV := hide (inv_app HIV0.out (sm_ek HSM.out))
        have HBW5 := hide (HBW4.out.trans hm.bel)
        clear hix hm hsc hsv HQ HIX4 HBW4 HKX HPX HSM HIV0 HX1
        generalize X.app x = Y at *
        have HQ := hide (ix_list HIX5.out (by omega) ByteArray.empty 1000)
        go_wp2_with fail
        refine HQ.out.mono ?_
        rintro e w6 ⟨ka, kc, KL, rfl, hkc, hkn, hks, hkl, hb⟩
        have HKF := hide (keys_facts HIV.out hkl (by omega))
        have HKN := hide hkn
        have HIX6 := hide (HIX5.out.below hb)
        have HBW6 := hide (HBW5.out.trans (hb.mono HBW5.out.size))
        have HKS6 := hide hks
        clear hb HQ hkc hkn hks hkl HIX5 HBW5
        have HQ := hide (ix_volumes HIX6.out (by omega) (inv_ls1 HIV.out))
        go_wp2_with fail
        refine HQ.out.mono ?_
        rintro e w7 ⟨va, vc, VL, rfl, hvc, hvn, hvs, hvl, hb⟩
        have HVF := hide (vols_facts HIV.out hvl)
        have HVN := hide hvn
        have hWI : ∀ W, Below w7.heap.size w7 W → w7.heap.size + 1 ≤ W.heap.size → FnAt W w7.heap.size 4 VL.length (fun p => .bool false) → WI w I (4 * (k + 1)) Y ka KL va VL w7.heap.size VL.length (fun p => livB Y KL 0 (vAt VL p)) W := fun W hW _ hF =>
          ⟨(HBW6.out.trans (hb.mono HBW6.out.size)).trans (hW.mono (HBW6.out.trans (hb.mono HBW6.out.size)).size), (HIX6.out.below hb).below hW, (HKS6.out.below hb).below hW, hvs.below hW, hF.congr (fun p _ => by simp [livB]), (HBW6.out.trans (hb.mono HBW6.out.size)).size⟩
        have HWI7 := hide (hWI (w7.alloc (.cells (fnC VL.length fun _ => .bool false) 4)) ((Below.refl _ _).alloc (Nat.le_refl _) _) (by rw [World.size_alloc]; omega) (heap_alloc_new _ _))
        have hmk := make13 VL.length (by omega) w7
        obtain ⟨m, hm⟩ : ∃ m, VL.length = m := ⟨_, rfl⟩
        have HVL := hide hm
        have HM30 : Hid (m ≤ 124) := by unfold Hid; omega
        rw [hm] at HWI7 hmk ⊢
        clear hb HQ hvc hvn hvs hvl HIX6 HBW6 HKS6 hWI hm
        go_upto_region 15 with fail
        generalize w7.alloc (.cells (fnC m fun _ => .bool false) 4) = w8 at *
        generalize w7.heap.size = lb at *
        obtain ⟨nk, hnk⟩ : ∃ nk, KL.length = nk := ⟨_, rfl⟩
        have HNK := hide hnk
        have HK30 : Hid (nk ≤ 124) := by have := HKN.out; unfold Hid; omega
        rw [hnk]
        clear hnk hmk
        go_wp2_with fail
        go_loopw [8] (fun y wr => ∃ q : Nat, q ≤ nk ∧ y = .int .i64 q ∧ WI w I (4 * (k + 1)) Y ka KL va VL lb m (fun p => livB Y KL q (vAt VL p)) wr) (fun y _ => nk - (vInt y).toNat)
        case atStart => exact ⟨0, by omega, rfl, HWI7.out⟩
        case round =>
          obtain ⟨q, hq, rfl, hwi⟩ := hrel
          have HWI := hide hwi
          clear hwi HWI7
          have hnk124 : nk ≤ 124 := HK30.out
          have hm124 : m ≤ 124 := HM30.out
          obtain ⟨wo, hwo⟩ : ∃ wo, wo = wr := ⟨_, rfl⟩
          subst hwo
          by_cases hqt : q < nk
          · have hq1 : decide ((q : Int) < (nk : Int)) = true := by simp; omega
            have hq2 : (q : Int) < (nk : Int) := by omega
            have hq3 : (0 : Int) ≤ (q : Int) := by omega
            obtain ⟨s, hs⟩ : ∃ s, KL[q]? = some s := ⟨_, List.getElem?_eq_getElem (by have := HNK.out; omega)⟩
            obtain ⟨e, hT⟩ := HKF.out.1 s (List.mem_of_getElem? hs)
            have HFA := hide (key_facts HIV.out hT)
            have HSU := hide (fun v => livB_succ (X := Y) v hs hT)
            rcases HWI.out.ks with h0 | ⟨kb, ko, rfl, hkb, hkc⟩
            · rw [h0] at hs; simp at hs
            · have cs := hkc q s hs
              have HQ := hide (ix_get HWI.out.ix s HFA.out.1)
              obtain ⟨e1, e2, e3, e4, e5⟩ := e
              have HTT := hide hT
              clear hs hkc hT
              go_wp2_with fail
              refine HQ.out.mono ?_
              rintro e w9 ⟨rfl, hb⟩
              have hge : Y.getE s = 0 := by unfold FX.getE; rw [HTT.out]; rfl
              rw [hge, HTT.out]
              simp only [Option.getD_some, enV]
              have hb2 : Below w9.heap.size w9 (w9.alloc (.cells #[.string e1, .int .i64 e2, .int .i64 e3, .int .i64 e4, .string e5] 31)) := (Below.refl _ _).alloc (Nat.le_refl _) _
              have HWI9 := hide ((HWI.out.below hb).below hb2)
              have HE9 : Hid ((w9.alloc (.cells #[.string e1, .int .i64 e2, .int .i64 e3, .int .i64 e4, .string e5] 31)).heap[w9.heap.size]? = some (.cells #[.string e1, .int .i64 e2, .int .i64 e3, .int .i64 e4, .string e5] 31 (0, 0))) := heap_alloc_new _ _
              have hze := en_zero
              clear hb hb2 HQ HWI cs hge
              go_upto_region 19 with fail
              generalize w9.alloc (.cells #[.string e1, .int .i64 e2, .int .i64 e3, .int .i64 e4, .string e5] 31) = w10 at *
              generalize w9.heap.size = eb at *
              obtain ⟨g0, g1, g2, g3, g4⟩ := ecs HE9.out
              have HQ := hide (ix_volume HWI9.out.ix (inv_ls1 HIV.out) e2 HFA.out.2.1)
              have hz := vol_zero
              clear g0 g2 g3 g4
              go_wp2_with fail
              refine HQ.out.mono ?_
              rintro e w11 ⟨pa, pc, rfl, hpl, hb⟩
              have hve : Y.volE e2 = 0 := by unfold FX.volE; rw [HFA.out.2.2.2.2.1]; rfl
              rw [hve]
              obtain ⟨⟨v1, v2, v3, vl⟩, hvd⟩ : ∃ d, Y.vol e2 = d := ⟨_, rfl⟩
              have hfa := HFA.out.2.2
              rw [hvd] at hfa hpl ⊢
              simp only at hfa hpl ⊢
              obtain ⟨f1, f2, f3, f4, f5⟩ := hfa
              obtain ⟨vm, hvm⟩ : ∃ vm, vl.length = vm := ⟨_, rfl⟩
              rw [hvm]
              have hb2 : Below w11.heap.size w11 (w11.alloc (.cells #[.int .i64 v1, .int .i64 v2, .int .i64 v3, .slice pa vm pc] 29)) := (Below.refl _ _).alloc (Nat.le_refl _) _
              have HWI12 := hide ((HWI9.out.below hb).below hb2)
              have HE12 := hide ((hb2.block _ (by have := lt_of_block HE9.out; have := hb.size; omega)).trans ((hb.block _ (lt_of_block HE9.out)).trans HE9.out))
              have HVB : Hid ((w11.alloc (.cells #[.int .i64 v1, .int .i64 v2, .int .i64 v3, .slice pa vm pc] 29)).heap[w11.heap.size]? = some (.cells #[.int .i64 v1, .int .i64 v2, .int .i64 v3, .slice pa vm pc] 29 (0, 0))) := heap_alloc_new _ _
              have dA : decide (e3 < 0) = false := by simp; omega
              have dB : decide (e4 < 0) = false := by simp; omega
              have hwr : IntKind.i64.wrap (e3 + e4) = e3 + e4 := by rw [IntKind.wrap_i64]; omega
              have dC : decide (v3 < e3 + e4) = false := by simp; omega
              clear hb hb2 HQ HWI9 HE9 g1 hve hpl hvd hvm f1 f2 f3 f4 f5
              go_upto_region 20 with fail
              generalize w11.alloc (.cells #[.int .i64 v1, .int .i64 v2, .int .i64 v3, .slice pa vm pc] 29) = w12 at *
              generalize w11.heap.size = vbk at *
              obtain ⟨g0, g1, g2, g3, g4⟩ := ecs HE12.out
              obtain ⟨i0, i1, i2, i3⟩ := vcs HVB.out
              clear g0 g4 i0 i1 i3
              go_wp2_with fail
              clear g1 g2 g3 i2 dA dB dC hwr HVB
              go_loopw [13] (fun y wr => ∃ j : Nat, j ≤ m ∧ y = .int .i64 j ∧ WI w I (4 * (k + 1)) Y (some ⟨kb, ko, none⟩) KL va VL lb m (fun p => if p < j then livB Y KL (q + 1) (vAt VL p) else livB Y KL q (vAt VL p)) wr ∧ wr.heap[eb]? = some (.cells #[.string e1, .int .i64 e2, .int .i64 e3, .int .i64 e4, .string e5] 31 (0, 0))) (fun y _ => m - (vInt y).toNat)
              case atStart => exact ⟨0, by omega, rfl, HWI12.out.congr (fun p hp => by simp), HE12.out⟩
              case round =>
                obtain ⟨j, hj, rfl, hwj, hej⟩ := hrel
                have HWJ := hide hwj
                have HEJ := hide hej
                clear hwj hej HWI12 HE12
                by_cases hjt : j < m
                · have hj1 : decide ((j : Int) < (m : Int)) = true := by simp; omega
                  have hj2 : (j : Int) < (m : Int) := by omega
                  have hj3 : (0 : Int) ≤ (j : Int) := by omega
                  obtain ⟨vv, hvv⟩ : ∃ vv, VL[j]? = some vv := ⟨_, List.getElem?_eq_getElem (by have := HVL.out; omega)⟩
                  have hva : vAt VL j = vv := by unfold vAt; rw [hvv]; rfl
                  obtain ⟨W0, hW0⟩ : ∃ W0, W0 = wr.drew := ⟨_, rfl⟩
                  have hbd : Below wr.heap.size wr W0 := by rw [hW0]; exact (Below.refl _ _).drew
                  have HWD := hide hW0
                  have HWI0 := hide (HWJ.out.below hbd)
                  have HE0 := hide ((hbd.block _ (lt_of_block HEJ.out)).trans HEJ.out)
                  obtain ⟨vb, vo, xa', xc', rfl, hvb, hvat, _⟩ := HWI0.out.vs.nth hvv
                  obtain ⟨vj, hvj⟩ : ∃ vj, vv.id = vj := ⟨_, rfl⟩
                  have hc0 := hvat.c0
                  simp only [hvj] at hc0
                  have HS0 := hide (And.intro hc0 (ecs HE0.out).2.1)
                  have hfj : (if j < j then livB Y KL (q + 1) (vAt VL j) else livB Y KL q (vAt VL j)) = livB Y KL q vv := by rw [if_neg (by omega), hva]
                  have hcj := HWI0.out.lv.cell hjt
                  have HFZ := hide (HWI0.out.lv.free j)
                  simp only [hfj] at hcj
                  have HLS := hide (HSU.out vv)
                  simp only [hvj] at HLS
                  have HST := fun b => HWI0.out.set hjt b
                  have hS1 : ∀ b, (W0.setCell ⟨lb, j, none⟩ (.bool b)).cell? ⟨vb, vo + j * 4, none⟩ = some (.int .i64 vj) ∧ (W0.setCell ⟨lb, j, none⟩ (.bool b)).cell? ⟨eb, 1, none⟩ = some (.int .i64 e2) := fun b => by
                    have n1 : vb ≠ lb := fun e => by rw [e] at hc0; obtain ⟨_, e'⟩ := fn_bool HWI0.out.lv hc0; cases e'
                    have n2 : eb ≠ lb := fun e => by
                      have hh := HE0.out
                      rw [e, show W0.heap[lb]? = _ from HWI0.out.lv] at hh
                      exact absurd (Obj.cells.inj (Option.some.inj hh)).2.1 (by decide)
                    have k1 : (W0.setCell ⟨lb, j, none⟩ (.bool b)).heap[vb]? = W0.heap[vb]? := Below.heap_setCell _ _ _ _ n1
                    have k2 : (W0.setCell ⟨lb, j, none⟩ (.bool b)).heap[eb]? = W0.heap[eb]? := Below.heap_setCell _ _ _ _ n2
                    exact ⟨by unfold World.cell? at hc0 ⊢; rw [k1]; exact hc0, (ecs (k2.trans HE0.out)).2.1⟩
                  have HE1 : Hid (∀ b, (W0.setCell ⟨lb, j, none⟩ (.bool b)).heap[eb]? = some (.cells #[.string e1, .int .i64 e2, .int .i64 e3, .int .i64 e4, .string e5] 31 (0, 0))) := fun b => by
                    have n2 : eb ≠ lb := fun e => by
                      have hh := HE0.out
                      rw [e, show W0.heap[lb]? = _ from HWI0.out.lv] at hh
                      exact absurd (Obj.cells.inj (Option.some.inj hh)).2.1 (by decide)
                    exact (Below.heap_setCell _ _ _ _ n2).trans HE0.out
                  have HEND : Hid (∀ b, b = livB Y KL (q + 1) vv → WI w I (4 * (k + 1)) Y (some ⟨kb, ko, none⟩) KL (some ⟨vb, vo, none⟩) VL lb m (fun p => if p < j + 1 then livB Y KL (q + 1) (vAt VL p) else livB Y KL q (vAt VL p)) (W0.setCell ⟨lb, j, none⟩ (.bool b))) := fun b hb => (HST b).congr fun p hp => by
                    by_cases e : p = j
                    · subst e; rw [if_pos rfl, if_pos (by omega), hva, hb]
                    · rw [if_neg e]
                      by_cases h2 : p < j
                      · rw [if_pos h2, if_pos (by omega)]
                      · rw [if_neg h2, if_neg (by omega)]
                  have HSP := hide hS1
                  clear hvv hva hW0 hbd hvat hc0 hfj HST hS1 hvb
                  cases hlb : livB Y KL q vv with
                  | true =>
                    rw [hlb] at hcj HLS
                    have HCJ := hide hcj
                    have HS1 := hide (HSP.out true)
                    clear hcj hlb
                    go_wp2_with fail
                    refine wp_region_noPanic ?_
                    refine wp_region_held_drew (S := fun w' => w'.cell? ⟨vb, vo + j * 4, none⟩ = some (.int .i64 vj) ∧ w'.cell? ⟨eb, 1, none⟩ = some (.int .i64 e2)) (by kernel_rfl) (by rw [← HWD.out]; exact HS0.out) (fun hHeld => ?_)
                    rw [← HWD.out] at hHeld ⊢
                    refine wpAnyH_take (i := 0) (v := ?v1) rfl (by kernel_rfl) (by kernel_rfl) (by kernel_rfl) (fun _ _ _ h => h) (Or.inl ⟨by rfl, ?hy1⟩) hHeld ?rest1
                    case hy1 => (intro w' hSw; obtain ⟨s1, s2⟩ := hSw; go_simp; try with_reducible rfl)
                    try simp [Act.put]
                    refine wpAnyH_take (i := 1) (v := ?v2) rfl (by kernel_rfl) (by kernel_rfl) (by kernel_rfl) (fun _ _ _ h => h) (Or.inl ⟨by rfl, ?hy2⟩) hHeld ?rest2
                    case hy2 => (intro w' hSw; obtain ⟨s1, s2⟩ := hSw; go_simp; try with_reducible rfl)
                    try simp [Act.put]
                    refine wpAnyH_take (i := 2) (v := ?v3) rfl (by kernel_rfl) (by kernel_rfl) (by kernel_rfl) (fun _ _ _ h => h) (Or.inl ⟨by rfl, ?hy3⟩) hHeld ?rest3
                    case hy3 => (intro w' hSw; obtain ⟨s1, s2⟩ := hSw; go_simp; try with_reducible rfl)
                    try simp [Act.put]
                    refine wpAnyH_take (i := 3) (v := ?v4) rfl (by kernel_rfl) (by kernel_rfl) (by kernel_rfl) (fun _ _ _ h => h) (Or.inl ⟨by rfl, ?hy4⟩) hHeld ?rest4
                    case hy4 => (intro w' hSw; obtain ⟨s1, s2⟩ := hSw; go_simp; try with_reducible rfl)
                    try simp [Act.put]
                    refine wpAnyH_take (i := 4) (v := ?v5) rfl (by kernel_rfl) (by kernel_rfl) (by kernel_rfl) (fun _ _ _ h => h) (Or.inl ⟨by rfl, ?hy5⟩) hHeld ?rest5
                    case hy5 => (intro w' hSw; obtain ⟨s1, s2⟩ := hSw; go_simp; try with_reducible rfl)
                    try simp [Act.put]
                    refine wpAnyH_ready (rs := [5]) (by kernel_rfl) (by simp) ?_
                    refine AllReadyH.cons rfl (fun K hK => ?_) AllReadyH.nil
                    have cj := HCJ.out
                    go_simp
                    refine hK.out _ _ HS0.out (fun hHeld => ?_)
                    clear hK K cj
                    try simp [Act.put]
                    refine wpAnyH_take (i := 6) (v := ?v20) rfl (by kernel_rfl) (by kernel_rfl) (by kernel_rfl) (fun _ _ _ h => h) (Or.inl ⟨by rfl, ?hy20⟩) hHeld ?rest20
                    case hy20 => (intro w' hSw; obtain ⟨s1, s2⟩ := hSw; go_simp; try with_reducible rfl)
                    try simp [Act.put]
                    refine wpAnyH_take (i := 7) (v := undef) rfl (by kernel_rfl) (by kernel_rfl) (by kernel_rfl) (fun _ _ _ h => h) (Or.inr ⟨by rfl, rfl⟩) hHeld ?rest30
                    try simp [Act.put]
                    refine wpAnyH_take (i := 8) (v := undef) rfl (by kernel_rfl) (by kernel_rfl) (by kernel_rfl) (fun _ _ _ h => h) (Or.inr ⟨by rfl, rfl⟩) hHeld ?rest31
                    try simp [Act.put]
                    refine wpAnyH_take (i := 9) (v := undef) rfl (by kernel_rfl) (by kernel_rfl) (by kernel_rfl) (fun _ _ _ h => h) (Or.inr ⟨by rfl, rfl⟩) hHeld ?rest32
                    try simp [Act.put]
                    refine wpAnyH_take (i := 10) (v := undef) rfl (by kernel_rfl) (by kernel_rfl) (by kernel_rfl) (fun _ _ _ h => h) (Or.inr ⟨by rfl, rfl⟩) hHeld ?rest33
                    try simp [Act.put]
                    refine wpAnyH_take (i := 11) (v := undef) rfl (by kernel_rfl) (by kernel_rfl) (by kernel_rfl) (fun _ _ _ h => h) (Or.inr ⟨by rfl, rfl⟩) hHeld ?rest34
                    try simp [Act.put]
                    refine wpAnyH_take (i := 12) (v := undef) rfl (by kernel_rfl) (by kernel_rfl) (by kernel_rfl) (fun _ _ _ h => h) (Or.inr ⟨by rfl, rfl⟩) hHeld ?rest35
                    try simp [Act.put]
                    refine wpAnyH_take (i := 13) (v := undef) rfl (by kernel_rfl) (by kernel_rfl) (by kernel_rfl) (fun _ _ _ h => h) (Or.inr ⟨by rfl, rfl⟩) hHeld ?rest36
                    try simp [Act.put]
                    refine wpAnyH_take (i := 14) (v := undef) rfl (by kernel_rfl) (by kernel_rfl) (by kernel_rfl) (fun _ _ _ h => h) (Or.inr ⟨by rfl, rfl⟩) hHeld ?rest37
                    try simp [Act.put]
                    refine wpAnyH_take (i := 15) (v := ?v40) rfl (by kernel_rfl) (by kernel_rfl) (by kernel_rfl) (fun _ _ _ h => h) (Or.inl ⟨by rfl, ?hy40⟩) hHeld ?rest40
                    case hy40 => (intro w' hSw; obtain ⟨s1, s2⟩ := hSw; go_simp; try with_reducible rfl)
                    try simp [Act.put]
                    refine wpAnyH_take (i := 16) (v := ?v41) rfl (by kernel_rfl) (by kernel_rfl) (by kernel_rfl) (fun _ _ _ h => h) (Or.inl ⟨by rfl, ?hy41⟩) hHeld ?rest41
                    case hy41 => (intro w' hSw; obtain ⟨s1, s2⟩ := hSw; go_simp; try with_reducible rfl)
                    try simp [Act.put]
                    refine wpAnyH_ready (rs := [17]) (by kernel_rfl) (by simp) ?_
                    refine AllReadyH.cons rfl (fun K hK => ?_) AllReadyH.nil
                    have fz := HFZ.out
                    have cj := HCJ.out
                    go_simp
                    refine hK.out _ _ HS1.out (fun hHeld => ?_)
                    clear hK K fz cj
                    try simp [Act.put]
                    refine wpAnyH_done (by kernel_rfl) (NoPanic.normal ?_) _
                    go_wp2_with fail
                    exact ⟨⟨j + 1, by omega, by go_num, HEND.out true (by rw [HLS.out]; rfl), HE1.out true⟩, by simp [vInt]; omega⟩
                  | false =>
                    rw [hlb] at hcj HLS
                    have HCJ := hide hcj
                    clear hcj hlb
                    by_cases hid : vj = e2
                    · have hqe : (vj == e2) = true := by simpa using hid
                      have HS1 := hide (HSP.out true)
                      have HLT2 : Hid (true = livB Y KL (q + 1) vv) := by unfold Hid; rw [HLS.out]; symm; simpa using hid.symm
                      clear hid
                      go_wp2_with fail
                      refine wp_region_noPanic ?_
                      refine wp_region_held_drew (S := fun w' => w'.cell? ⟨vb, vo + j * 4, none⟩ = some (.int .i64 vj) ∧ w'.cell? ⟨eb, 1, none⟩ = some (.int .i64 e2)) (by kernel_rfl) (by rw [← HWD.out]; exact HS0.out) (fun hHeld => ?_)
                      rw [← HWD.out] at hHeld ⊢
                      refine wpAnyH_take (i := 0) (v := ?v1101) rfl (by kernel_rfl) (by kernel_rfl) (by kernel_rfl) (fun _ _ _ h => h) (Or.inl ⟨by rfl, ?hy1101⟩) hHeld ?rest1101
                      case hy1101 => (intro w' hSw; obtain ⟨s1, s2⟩ := hSw; go_simp; try with_reducible rfl)
                      try simp [Act.put]
                      refine wpAnyH_take (i := 1) (v := ?v1102) rfl (by kernel_rfl) (by kernel_rfl) (by kernel_rfl) (fun _ _ _ h => h) (Or.inl ⟨by rfl, ?hy1102⟩) hHeld ?rest1102
                      case hy1102 => (intro w' hSw; obtain ⟨s1, s2⟩ := hSw; go_simp; try with_reducible rfl)
                      try simp [Act.put]
                      refine wpAnyH_take (i := 2) (v := ?v1103) rfl (by kernel_rfl) (by kernel_rfl) (by kernel_rfl) (fun _ _ _ h => h) (Or.inl ⟨by rfl, ?hy1103⟩) hHeld ?rest1103
                      case hy1103 => (intro w' hSw; obtain ⟨s1, s2⟩ := hSw; go_simp; try with_reducible rfl)
                      try simp [Act.put]
                      refine wpAnyH_take (i := 3) (v := ?v1104) rfl (by kernel_rfl) (by kernel_rfl) (by kernel_rfl) (fun _ _ _ h => h) (Or.inl ⟨by rfl, ?hy1104⟩) hHeld ?rest1104
                      case hy1104 => (intro w' hSw; obtain ⟨s1, s2⟩ := hSw; go_simp; try with_reducible rfl)
                      try simp [Act.put]
                      refine wpAnyH_take (i := 4) (v := ?v1105) rfl (by kernel_rfl) (by kernel_rfl) (by kernel_rfl) (fun _ _ _ h => h) (Or.inl ⟨by rfl, ?hy1105⟩) hHeld ?rest1105
                      case hy1105 => (intro w' hSw; obtain ⟨s1, s2⟩ := hSw; go_simp; try with_reducible rfl)
                      try simp [Act.put]
                      refine wpAnyH_ready (rs := [5]) (by kernel_rfl) (by simp) ?_
                      refine AllReadyH.cons rfl (fun K hK => ?_) AllReadyH.nil
                      have cj := HCJ.out
                      go_simp
                      refine hK.out _ _ HS0.out (fun hHeld => ?_)
                      clear hK K cj
                      try simp [Act.put]
                      refine wpAnyH_take (i := 6) (v := ?v1120) rfl (by kernel_rfl) (by kernel_rfl) (by kernel_rfl) (fun _ _ _ h => h) (Or.inl ⟨by rfl, ?hy1120⟩) hHeld ?rest1120
                      case hy1120 => (intro w' hSw; obtain ⟨s1, s2⟩ := hSw; go_simp; try with_reducible rfl)
                      try simp [Act.put]
                      refine wpAnyH_take (i := 7) (v := ?v1130) rfl (by kernel_rfl) (by kernel_rfl) (by kernel_rfl) (fun _ _ _ h => h) (Or.inl ⟨by rfl, ?hy1130⟩) hHeld ?rest1130
                      case hy1130 => (intro w' hSw; obtain ⟨s1, s2⟩ := hSw; go_simp; try with_reducible rfl)
                      try simp [Act.put]
                      refine wpAnyH_take (i := 8) (v := ?v1131) rfl (by kernel_rfl) (by kernel_rfl) (by kernel_rfl) (fun _ _ _ h => h) (Or.inl ⟨by rfl, ?hy1131⟩) hHeld ?rest1131
                      case hy1131 => (intro w' hSw; obtain ⟨s1, s2⟩ := hSw; go_simp; try with_reducible rfl)
                      try simp [Act.put]
                      refine wpAnyH_take (i := 9) (v := ?v1132) rfl (by kernel_rfl) (by kernel_rfl) (by kernel_rfl) (fun _ _ _ h => h) (Or.inl ⟨by rfl, ?hy1132⟩) hHeld ?rest1132
                      case hy1132 => (intro w' hSw; obtain ⟨s1, s2⟩ := hSw; go_simp; try with_reducible rfl)
                      try simp [Act.put]
                      refine wpAnyH_take (i := 10) (v := ?v1133) rfl (by kernel_rfl) (by kernel_rfl) (by kernel_rfl) (fun _ _ _ h => h) (Or.inl ⟨by rfl, ?hy1133⟩) hHeld ?rest1133
                      case hy1133 => (intro w' hSw; obtain ⟨s1, s2⟩ := hSw; go_simp; try with_reducible rfl)
                      try simp [Act.put]
                      refine wpAnyH_take (i := 11) (v := ?v1134) rfl (by kernel_rfl) (by kernel_rfl) (by kernel_rfl) (fun _ _ _ h => h) (Or.inl ⟨by rfl, ?hy1134⟩) hHeld ?rest1134
                      case hy1134 => (intro w' hSw; obtain ⟨s1, s2⟩ := hSw; go_simp; try with_reducible rfl)
                      try simp [Act.put]
                      refine wpAnyH_take (i := 12) (v := ?v1135) rfl (by kernel_rfl) (by kernel_rfl) (by kernel_rfl) (fun _ _ _ h => h) (Or.inl ⟨by rfl, ?hy1135⟩) hHeld ?rest1135
                      case hy1135 => (intro w' hSw; obtain ⟨s1, s2⟩ := hSw; go_simp; try with_reducible rfl)
                      try simp [Act.put]
                      refine wpAnyH_take (i := 13) (v := ?v1136) rfl (by kernel_rfl) (by kernel_rfl) (by kernel_rfl) (fun _ _ _ h => h) (Or.inl ⟨by rfl, ?hy1136⟩) hHeld ?rest1136
                      case hy1136 => (intro w' hSw; obtain ⟨s1, s2⟩ := hSw; go_simp; try with_reducible rfl)
                      try simp [Act.put]
                      refine wpAnyH_take (i := 14) (v := ?v1137) rfl (by kernel_rfl) (by kernel_rfl) (by kernel_rfl) (fun _ _ _ h => h) (Or.inl ⟨by rfl, ?hy1137⟩) hHeld ?rest1137
                      case hy1137 => (intro w' hSw; obtain ⟨s1, s2⟩ := hSw; go_simp; try with_reducible rfl)
                      try simp [Act.put]
                      refine wpAnyH_take (i := 15) (v := ?v1138) rfl (by kernel_rfl) (by kernel_rfl) (by kernel_rfl) (fun _ _ _ h => h) (Or.inl ⟨by rfl, ?hy1138⟩) hHeld ?rest1138
                      case hy1138 => (intro w' hSw; obtain ⟨s1, s2⟩ := hSw; go_simp; try with_reducible rfl)
                      try simp [Act.put]
                      refine wpAnyH_take (i := 16) (v := ?v1139) rfl (by kernel_rfl) (by kernel_rfl) (by kernel_rfl) (fun _ _ _ h => h) (Or.inl ⟨by rfl, ?hy1139⟩) hHeld ?rest1139
                      case hy1139 => (intro w' hSw; obtain ⟨s1, s2⟩ := hSw; go_simp; try with_reducible rfl)
                      try simp [Act.put]
                      refine wpAnyH_ready (rs := [17]) (by kernel_rfl) (by simp) ?_
                      refine AllReadyH.cons rfl (fun K hK => ?_) AllReadyH.nil
                      have fz := HFZ.out
                      have cj := HCJ.out
                      go_simp
                      refine hK.out _ _ HS1.out (fun hHeld => ?_)
                      clear hK K fz cj
                      try simp [Act.put]
                      refine wpAnyH_done (by kernel_rfl) (NoPanic.normal ?_) _
                      go_wp2_with fail
                      exact ⟨⟨j + 1, by omega, by go_num, HEND.out true HLT2.out, HE1.out true⟩, by simp [vInt]; omega⟩
                    · have hqe : (vj == e2) = false := by simpa using hid
                      have HS1 := hide (HSP.out false)
                      have HLT2 : Hid (false = livB Y KL (q + 1) vv) := by unfold Hid; rw [HLS.out]; symm; simpa using fun e => hid e.symm
                      clear hid
                      go_wp2_with fail
                      refine wp_region_noPanic ?_
                      refine wp_region_held_drew (S := fun w' => w'.cell? ⟨vb, vo + j * 4, none⟩ = some (.int .i64 vj) ∧ w'.cell? ⟨eb, 1, none⟩ = some (.int .i64 e2)) (by kernel_rfl) (by rw [← HWD.out]; exact HS0.out) (fun hHeld => ?_)
                      rw [← HWD.out] at hHeld ⊢
                      refine wpAnyH_take (i := 0) (v := ?v2101) rfl (by kernel_rfl) (by kernel_rfl) (by kernel_rfl) (fun _ _ _ h => h) (Or.inl ⟨by rfl, ?hy2101⟩) hHeld ?rest2101
                      case hy2101 => (intro w' hSw; obtain ⟨s1, s2⟩ := hSw; go_simp; try with_reducible rfl)
                      try simp [Act.put]
                      refine wpAnyH_take (i := 1) (v := ?v2102) rfl (by kernel_rfl) (by kernel_rfl) (by kernel_rfl) (fun _ _ _ h => h) (Or.inl ⟨by rfl, ?hy2102⟩) hHeld ?rest2102
                      case hy2102 => (intro w' hSw; obtain ⟨s1, s2⟩ := hSw; go_simp; try with_reducible rfl)
                      try simp [Act.put]
                      refine wpAnyH_take (i := 2) (v := ?v2103) rfl (by kernel_rfl) (by kernel_rfl) (by kernel_rfl) (fun _ _ _ h => h) (Or.inl ⟨by rfl, ?hy2103⟩) hHeld ?rest2103
                      case hy2103 => (intro w' hSw; obtain ⟨s1, s2⟩ := hSw; go_simp; try with_reducible rfl)
                      try simp [Act.put]
                      refine wpAnyH_take (i := 3) (v := ?v2104) rfl (by kernel_rfl) (by kernel_rfl) (by kernel_rfl) (fun _ _ _ h => h) (Or.inl ⟨by rfl, ?hy2104⟩) hHeld ?rest2104
                      case hy2104 => (intro w' hSw; obtain ⟨s1, s2⟩ := hSw; go_simp; try with_reducible rfl)
                      try simp [Act.put]
                      refine wpAnyH_take (i := 4) (v := ?v2105) rfl (by kernel_rfl) (by kernel_rfl) (by kernel_rfl) (fun _ _ _ h => h) (Or.inl ⟨by rfl, ?hy2105⟩) hHeld ?rest2105
                      case hy2105 => (intro w' hSw; obtain ⟨s1, s2⟩ := hSw; go_simp; try with_reducible rfl)
                      try simp [Act.put]
                      refine wpAnyH_ready (rs := [5]) (by kernel_rfl) (by simp) ?_
                      refine AllReadyH.cons rfl (fun K hK => ?_) AllReadyH.nil
                      have cj := HCJ.out
                      go_simp
                      refine hK.out _ _ HS0.out (fun hHeld => ?_)
                      clear hK K cj
                      try simp [Act.put]
                      refine wpAnyH_take (i := 6) (v := ?v2120) rfl (by kernel_rfl) (by kernel_rfl) (by kernel_rfl) (fun _ _ _ h => h) (Or.inl ⟨by rfl, ?hy2120⟩) hHeld ?rest2120
                      case hy2120 => (intro w' hSw; obtain ⟨s1, s2⟩ := hSw; go_simp; try with_reducible rfl)
                      try simp [Act.put]
                      refine wpAnyH_take (i := 7) (v := ?v2130) rfl (by kernel_rfl) (by kernel_rfl) (by kernel_rfl) (fun _ _ _ h => h) (Or.inl ⟨by rfl, ?hy2130⟩) hHeld ?rest2130
                      case hy2130 => (intro w' hSw; obtain ⟨s1, s2⟩ := hSw; go_simp; try with_reducible rfl)
                      try simp [Act.put]
                      refine wpAnyH_take (i := 8) (v := ?v2131) rfl (by kernel_rfl) (by kernel_rfl) (by kernel_rfl) (fun _ _ _ h => h) (Or.inl ⟨by rfl, ?hy2131⟩) hHeld ?rest2131
                      case hy2131 => (intro w' hSw; obtain ⟨s1, s2⟩ := hSw; go_simp; try with_reducible rfl)
                      try simp [Act.put]
                      refine wpAnyH_take (i := 9) (v := ?v2132) rfl (by kernel_rfl) (by kernel_rfl) (by kernel_rfl) (fun _ _ _ h => h) (Or.inl ⟨by rfl, ?hy2132⟩) hHeld ?rest2132
                      case hy2132 => (intro w' hSw; obtain ⟨s1, s2⟩ := hSw; go_simp; try with_reducible rfl)
                      try simp [Act.put]
                      refine wpAnyH_take (i := 10) (v := ?v2133) rfl (by kernel_rfl) (by kernel_rfl) (by kernel_rfl) (fun _ _ _ h => h) (Or.inl ⟨by rfl, ?hy2133⟩) hHeld ?rest2133
                      case hy2133 => (intro w' hSw; obtain ⟨s1, s2⟩ := hSw; go_simp; try with_reducible rfl)
                      try simp [Act.put]
                      refine wpAnyH_take (i := 11) (v := ?v2134) rfl (by kernel_rfl) (by kernel_rfl) (by kernel_rfl) (fun _ _ _ h => h) (Or.inl ⟨by rfl, ?hy2134⟩) hHeld ?rest2134
                      case hy2134 => (intro w' hSw; obtain ⟨s1, s2⟩ := hSw; go_simp; try with_reducible rfl)
                      try simp [Act.put]
                      refine wpAnyH_take (i := 12) (v := ?v2135) rfl (by kernel_rfl) (by kernel_rfl) (by kernel_rfl) (fun _ _ _ h => h) (Or.inl ⟨by rfl, ?hy2135⟩) hHeld ?rest2135
                      case hy2135 => (intro w' hSw; obtain ⟨s1, s2⟩ := hSw; go_simp; try with_reducible rfl)
                      try simp [Act.put]
                      refine wpAnyH_take (i := 13) (v := ?v2136) rfl (by kernel_rfl) (by kernel_rfl) (by kernel_rfl) (fun _ _ _ h => h) (Or.inl ⟨by rfl, ?hy2136⟩) hHeld ?rest2136
                      case hy2136 => (intro w' hSw; obtain ⟨s1, s2⟩ := hSw; go_simp; try with_reducible rfl)
                      try simp [Act.put]
                      refine wpAnyH_take (i := 14) (v := ?v2137) rfl (by kernel_rfl) (by kernel_rfl) (by kernel_rfl) (fun _ _ _ h => h) (Or.inl ⟨by rfl, ?hy2137⟩) hHeld ?rest2137
                      case hy2137 => (intro w' hSw; obtain ⟨s1, s2⟩ := hSw; go_simp; try with_reducible rfl)
                      try simp [Act.put]
                      refine wpAnyH_take (i := 15) (v := ?v2138) rfl (by kernel_rfl) (by kernel_rfl) (by kernel_rfl) (fun _ _ _ h => h) (Or.inl ⟨by rfl, ?hy2138⟩) hHeld ?rest2138
                      case hy2138 => (intro w' hSw; obtain ⟨s1, s2⟩ := hSw; go_simp; try with_reducible rfl)
                      try simp [Act.put]
                      refine wpAnyH_take (i := 16) (v := ?v2139) rfl (by kernel_rfl) (by kernel_rfl) (by kernel_rfl) (fun _ _ _ h => h) (Or.inl ⟨by rfl, ?hy2139⟩) hHeld ?rest2139
                      case hy2139 => (intro w' hSw; obtain ⟨s1, s2⟩ := hSw; go_simp; try with_reducible rfl)
                      try simp [Act.put]
                      refine wpAnyH_ready (rs := [17]) (by kernel_rfl) (by simp) ?_
                      refine AllReadyH.cons rfl (fun K hK => ?_) AllReadyH.nil
                      have fz := HFZ.out
                      have cj := HCJ.out
                      go_simp
                      refine hK.out _ _ HS1.out (fun hHeld => ?_)
                      clear hK K fz cj
                      try simp [Act.put]
                      refine wpAnyH_done (by kernel_rfl) (NoPanic.normal ?_) _
                      go_wp2_with fail
                      exact ⟨⟨j + 1, by omega, by go_num, HEND.out false HLT2.out, HE1.out false⟩, by simp [vInt]; omega⟩
                · have hjm : j = m := by omega
                  have hj1 : decide ((j : Int) < (m : Int)) = false := by simp; omega
                  have HWN := hide (HWJ.out.congr (g := fun p => livB Y KL (q + 1) (vAt VL p)) (fun p hp => by rw [if_pos (by omega)]))
                  clear HWJ
                  go_wp2_with fail
                  exact ⟨⟨q + 1, by omega, by go_num, HWN.out⟩, by simp [vInt]; omega⟩
          · have hqm : q = nk := by omega
            subst hqm
            have hq1 : decide ((q : Int) < (q : Int)) = false := by simp
            have hqK : q = KL.length := by have := HNK.out; omega
            have HWK := hide (HWI.out.congr (g := fun p => livB Y KL KL.length (vAt VL p)) (fun p hp => by rw [hqK]))
            clear HWI hqK
            go_wp2_with fail
            go_loopw [14] (fun y wr => ∃ j : Nat, j ≤ m ∧ y = .int .i64 j ∧ WI w I (4 * (k + 1)) Y ka KL va VL lb m (fun p => livB Y KL KL.length (vAt VL p)) wr) (fun y _ => m - (vInt y).toNat)
            case atStart => exact ⟨0, by omega, rfl, HWK.out⟩
            case round =>
              obtain ⟨j, hj, rfl, hwj⟩ := hrel
              have HWJ := hide hwj
              clear hwj HWK
              by_cases hjt : j < m
              · have hj1 : decide ((j : Int) < (m : Int)) = true := by simp; omega
                have hj2 : (j : Int) < (m : Int) := by omega
                have hj3 : (0 : Int) ≤ (j : Int) := by omega
                obtain ⟨vv, hvv⟩ : ∃ vv, VL[j]? = some vv := ⟨_, List.getElem?_eq_getElem (by have := HVL.out; omega)⟩
                have hva : vAt VL j = vv := by unfold vAt; rw [hvv]; rfl
                have hV := HVF.out.1 j vv hvv
                have hlv : livB Y KL KL.length vv = true := liv_all HIV.out HKF.out.2 hV
                have HVJ0 : OkI vv.id ∧ Y.H vv.id = true := by
                  have h2 := (HIV.out.v _ _ hV).2.1
                  obtain ⟨n1, n2⟩ := HIV.out.h _ h2
                  exact ⟨⟨by omega, by omega⟩, h2⟩
                obtain ⟨W0, hW0⟩ : ∃ W0, W0 = wr.drew := ⟨_, rfl⟩
                have hbd : Below wr.heap.size wr W0 := by rw [hW0]; exact (Below.refl _ _).drew
                have HWD := hide hW0
                have HWI0 := hide (HWJ.out.below hbd)
                obtain ⟨vb, vo, xa', xc', rfl, hvb, hvat, _⟩ := HWI0.out.vs.nth hvv
                have hcj := HWI0.out.lv.cell hjt
                simp only [hva, hlv] at hcj
                have hllt := HWI0.out.lv.lt
                by_cases hj0 : 0 < j
                · have hj4 : decide ((0 : Int) < (j : Int)) = true := by simp; omega
                  have hj5 : decide (0 < j) = true := by simpa using hj0
                  have hj6 : IntKind.i64.wrap ((j : Int) - 1) = ((j - 1 : Nat) : Int) := by rw [IntKind.wrap_i64]; omega
                  have hj7 : ((j - 1 : Nat) : Int) < (m : Int) := by omega
                  have hj8 : (0 : Int) ≤ ((j - 1 : Nat) : Int) := by omega
                  obtain ⟨vu, hvu⟩ : ∃ vu, VL[j - 1]? = some vu := ⟨_, List.getElem?_eq_getElem (by have := HVL.out; omega)⟩
                  have hlt2 := HVF.out.2 (j - 1) vu vv hvu (by rw [show j - 1 + 1 = j by omega]; exact hvv)
                  obtain ⟨vb2, vo2, xa2, xc2, hva2, hvb2, hvat2, _⟩ := HWI0.out.vs.nth hvu
                  cases hva2
                  have hc0 := hvat.c0
                  have hc1 := hvat2.c0
                  simp only at hc0 hc1
                  obtain ⟨vj, hvj⟩ : ∃ vj, vv.id = vj := ⟨_, rfl⟩
                  obtain ⟨vi, hvi⟩ : ∃ vi, vu.id = vi := ⟨_, rfl⟩
                  rw [hvj] at hc0 HVJ0 hlt2
                  rw [hvi] at hc1 hlt2
                  have dlt : decide (vj ≤ vi) = false := by simp; omega
                  have HVJ := hide HVJ0
                  have HS0 := hide (And.intro hcj (And.intro hc0 hc1))
                  have HSA : Hid (∀ W1, Below W0.heap.size W0 W1 → W1.cell? ⟨lb, j, none⟩ = some (.bool true) ∧ W1.cell? ⟨vb, vo + j * 4, none⟩ = some (.int .i64 vj) ∧ W1.cell? ⟨vb, vo + (j - 1) * 4, none⟩ = some (.int .i64 vi)) := fun W1 hb => ⟨(hb.cell (p := ⟨lb, j, none⟩) hllt).trans hcj, (hb.cell (p := ⟨vb, vo + j * 4, none⟩) hvb).trans hc0, (hb.cell (p := ⟨vb, vo + (j - 1) * 4, none⟩) hvb).trans hc1⟩
                  clear hvv hva hV hlv HVJ0 hW0 hbd hvat hcj hvu hlt2 hvat2 hc0 hc1 hvj hvi hvb hvb2 hllt
                  go_wp2_with fail
                  refine wp_region_noPanic ?_
                  refine wp_region_held_drew (S := fun w' => w'.cell? ⟨lb, j, none⟩ = some (.bool true) ∧ w'.cell? ⟨vb, vo + j * 4, none⟩ = some (.int .i64 vj) ∧ w'.cell? ⟨vb, vo + (j - 1) * 4, none⟩ = some (.int .i64 vi)) (by kernel_rfl) (by rw [← HWD.out]; exact HS0.out) (fun hHeld => ?_)
                  rw [← HWD.out] at hHeld ⊢
                  refine wpAnyH_take (i := 0) (v := ?v500) rfl (by kernel_rfl) (by kernel_rfl) (by kernel_rfl) (fun _ _ _ h => h) (Or.inl ⟨by rfl, ?hy500⟩) hHeld ?rest500
                  case hy500 => (intro w' hSw; obtain ⟨s1, s2, s3⟩ := hSw; go_simp; try with_reducible rfl)
                  try simp [Act.put]
                  refine wpAnyH_take (i := 1) (v := ?v501) rfl (by kernel_rfl) (by kernel_rfl) (by kernel_rfl) (fun _ _ _ h => h) (Or.inl ⟨by rfl, ?hy501⟩) hHeld ?rest501
                  case hy501 => (intro w' hSw; obtain ⟨s1, s2, s3⟩ := hSw; go_simp; try with_reducible rfl)
                  try simp [Act.put]
                  refine wpAnyH_take (i := 2) (v := ?v502) rfl (by kernel_rfl) (by kernel_rfl) (by kernel_rfl) (fun _ _ _ h => h) (Or.inl ⟨by rfl, ?hy502⟩) hHeld ?rest502
                  case hy502 => (intro w' hSw; obtain ⟨s1, s2, s3⟩ := hSw; go_simp; try with_reducible rfl)
                  try simp [Act.put]
                  refine wpAnyH_take (i := 3) (v := ?v503) rfl (by kernel_rfl) (by kernel_rfl) (by kernel_rfl) (fun _ _ _ h => h) (Or.inl ⟨by rfl, ?hy503⟩) hHeld ?rest503
                  case hy503 => (intro w' hSw; obtain ⟨s1, s2, s3⟩ := hSw; go_simp; try with_reducible rfl)
                  try simp [Act.put]
                  refine wpAnyH_take (i := 4) (v := ?v504) rfl (by kernel_rfl) (by kernel_rfl) (by kernel_rfl) (fun _ _ _ h => h) (Or.inl ⟨by rfl, ?hy504⟩) hHeld ?rest504
                  case hy504 => (intro w' hSw; obtain ⟨s1, s2, s3⟩ := hSw; go_simp; try with_reducible rfl)
                  try simp [Act.put]
                  refine wpAnyH_take (i := 5) (v := ?v505) rfl (by kernel_rfl) (by kernel_rfl) (by kernel_rfl) (fun _ _ _ h => h) (Or.inl ⟨by rfl, ?hy505⟩) hHeld ?rest505
                  case hy505 => (intro w' hSw; obtain ⟨s1, s2, s3⟩ := hSw; go_simp; try with_reducible rfl)
                  try simp [Act.put]
                  refine wpAnyH_take (i := 6) (v := ?v506) rfl (by kernel_rfl) (by kernel_rfl) (by kernel_rfl) (fun _ _ _ h => h) (Or.inl ⟨by rfl, ?hy506⟩) hHeld ?rest506
                  case hy506 => (intro w' hSw; obtain ⟨s1, s2, s3⟩ := hSw; go_simp; try with_reducible rfl)
                  try simp [Act.put]
                  refine wpAnyH_take (i := 7) (v := ?v507) rfl (by kernel_rfl) (by kernel_rfl) (by kernel_rfl) (fun _ _ _ h => h) (Or.inl ⟨by rfl, ?hy507⟩) hHeld ?rest507
                  case hy507 => (intro w' hSw; obtain ⟨s1, s2, s3⟩ := hSw; go_simp; try with_reducible rfl)
                  try simp [Act.put]
                  refine wpAnyH_take (i := 8) (v := ?v508) rfl (by kernel_rfl) (by kernel_rfl) (by kernel_rfl) (fun _ _ _ h => h) (Or.inl ⟨by rfl, ?hy508⟩) hHeld ?rest508
                  case hy508 => (intro w' hSw; obtain ⟨s1, s2, s3⟩ := hSw; go_simp; try with_reducible rfl)
                  try simp [Act.put]
                  refine wpAnyH_take (i := 9) (v := ?v509) rfl (by kernel_rfl) (by kernel_rfl) (by kernel_rfl) (fun _ _ _ h => h) (Or.inl ⟨by rfl, ?hy509⟩) hHeld ?rest509
                  case hy509 => (intro w' hSw; obtain ⟨s1, s2, s3⟩ := hSw; go_simp; try with_reducible rfl)
                  try simp [Act.put]
                  refine wpAnyH_take (i := 10) (v := ?v510) rfl (by kernel_rfl) (by kernel_rfl) (by kernel_rfl) (fun _ _ _ h => h) (Or.inl ⟨by rfl, ?hy510⟩) hHeld ?rest510
                  case hy510 => (intro w' hSw; obtain ⟨s1, s2, s3⟩ := hSw; go_simp; try with_reducible rfl)
                  try simp [Act.put]
                  refine wpAnyH_take (i := 11) (v := ?v511) rfl (by kernel_rfl) (by kernel_rfl) (by kernel_rfl) (fun _ _ _ h => h) (Or.inl ⟨by rfl, ?hy511⟩) hHeld ?rest511
                  case hy511 => (intro w' hSw; obtain ⟨s1, s2, s3⟩ := hSw; go_simp; try with_reducible rfl)
                  try simp [Act.put]
                  refine wpAnyH_ready (rs := [12]) (by kernel_rfl) (by simp) ?_
                  refine AllReadyH.cons rfl (fun K hK => ?_) AllReadyH.nil
                  go_simp
                  refine (ix_next HWI0.out.ix (by omega) HIV.out.h).mono ?_
                  rintro e W1 ⟨N, rfl, hn1, hn2, hb⟩
                  have HWI1 := hide (HWI0.out.below hb)
                  have HS1 := hide (HSA.out W1 hb)
                  have hlN : decide (N ≤ vj) = false := by have := hn1.1 vj HVJ.out.1 HVJ.out.2; simp; omega
                  clear hn1 hn2 hb
                  refine hK.out _ _ HS1.out (fun hHeld => ?_)
                  clear hK K
                  try simp [Act.put]
                  refine wpAnyH_take (i := 13) (v := ?v520) rfl (by kernel_rfl) (by kernel_rfl) (by kernel_rfl) (fun _ _ _ h => h) (Or.inl ⟨by rfl, ?hy520⟩) hHeld ?rest520
                  case hy520 => (intro w' hSw; obtain ⟨s1, s2, s3⟩ := hSw; go_simp; try with_reducible rfl)
                  try simp [Act.put]
                  refine wpAnyH_take (i := 14) (v := ?v521) rfl (by kernel_rfl) (by kernel_rfl) (by kernel_rfl) (fun _ _ _ h => h) (Or.inl ⟨by rfl, ?hy521⟩) hHeld ?rest521
                  case hy521 => (intro w' hSw; obtain ⟨s1, s2, s3⟩ := hSw; go_simp; try with_reducible rfl)
                  try simp [Act.put]
                  refine wpAnyH_take (i := 15) (v := ?v522) rfl (by kernel_rfl) (by kernel_rfl) (by kernel_rfl) (fun _ _ _ h => h) (Or.inl ⟨by rfl, ?hy522⟩) hHeld ?rest522
                  case hy522 => (intro w' hSw; obtain ⟨s1, s2, s3⟩ := hSw; go_simp; try with_reducible rfl)
                  try simp [Act.put]
                  refine wpAnyH_take (i := 16) (v := ?v523) rfl (by kernel_rfl) (by kernel_rfl) (by kernel_rfl) (fun _ _ _ h => h) (Or.inl ⟨by rfl, ?hy523⟩) hHeld ?rest523
                  case hy523 => (intro w' hSw; obtain ⟨s1, s2, s3⟩ := hSw; go_simp; try with_reducible rfl)
                  try simp [Act.put]
                  refine wpAnyH_take (i := 17) (v := ?v524) rfl (by kernel_rfl) (by kernel_rfl) (by kernel_rfl) (fun _ _ _ h => h) (Or.inl ⟨by rfl, ?hy524⟩) hHeld ?rest524
                  case hy524 => (intro w' hSw; obtain ⟨s1, s2, s3⟩ := hSw; go_simp; try with_reducible rfl)
                  try simp [Act.put]
                  refine wpAnyH_take (i := 18) (v := ?v525) rfl (by kernel_rfl) (by kernel_rfl) (by kernel_rfl) (fun _ _ _ h => h) (Or.inl ⟨by rfl, ?hy525⟩) hHeld ?rest525
                  case hy525 => (intro w' hSw; obtain ⟨s1, s2, s3⟩ := hSw; go_simp; try with_reducible rfl)
                  try simp [Act.put]
                  refine wpAnyH_take (i := 19) (v := ?v540) rfl (by kernel_rfl) (by kernel_rfl) (by kernel_rfl) (fun _ _ _ h => h) (Or.inl ⟨by rfl, ?hy540⟩) hHeld ?rest540
                  case hy540 => (intro w' hSw; obtain ⟨s1, s2, s3⟩ := hSw; go_simp; try with_reducible rfl)
                  try simp [Act.put]
                  refine wpAnyH_take (i := 20) (v := ?v541) rfl (by kernel_rfl) (by kernel_rfl) (by kernel_rfl) (fun _ _ _ h => h) (Or.inl ⟨by rfl, ?hy541⟩) hHeld ?rest541
                  case hy541 => (intro w' hSw; obtain ⟨s1, s2, s3⟩ := hSw; go_simp; try with_reducible rfl)
                  try simp [Act.put]
                  refine wpAnyH_take (i := 21) (v := ?v542) rfl (by kernel_rfl) (by kernel_rfl) (by kernel_rfl) (fun _ _ _ h => h) (Or.inl ⟨by rfl, ?hy542⟩) hHeld ?rest542
                  case hy542 => (intro w' hSw; obtain ⟨s1, s2, s3⟩ := hSw; go_simp; try with_reducible rfl)
                  try simp [Act.put]
                  refine wpAnyH_take (i := 22) (v := ?v543) rfl (by kernel_rfl) (by kernel_rfl) (by kernel_rfl) (fun _ _ _ h => h) (Or.inl ⟨by rfl, ?hy543⟩) hHeld ?rest543
                  case hy543 => (intro w' hSw; obtain ⟨s1, s2, s3⟩ := hSw; go_simp; try with_reducible rfl)
                  try simp [Act.put]
                  refine wpAnyH_take (i := 23) (v := ?v544) rfl (by kernel_rfl) (by kernel_rfl) (by kernel_rfl) (fun _ _ _ h => h) (Or.inl ⟨by rfl, ?hy544⟩) hHeld ?rest544
                  case hy544 => (intro w' hSw; obtain ⟨s1, s2, s3⟩ := hSw; go_simp; try with_reducible rfl)
                  try simp [Act.put]
                  refine wpAnyH_take (i := 24) (v := ?v545) rfl (by kernel_rfl) (by kernel_rfl) (by kernel_rfl) (fun _ _ _ h => h) (Or.inl ⟨by rfl, ?hy545⟩) hHeld ?rest545
                  case hy545 => (intro w' hSw; obtain ⟨s1, s2, s3⟩ := hSw; go_simp; try with_reducible rfl)
                  try simp [Act.put]
                  refine wpAnyH_take (i := 25) (v := ?v546) rfl (by kernel_rfl) (by kernel_rfl) (by kernel_rfl) (fun _ _ _ h => h) (Or.inl ⟨by rfl, ?hy546⟩) hHeld ?rest546
                  case hy546 => (intro w' hSw; obtain ⟨s1, s2, s3⟩ := hSw; go_simp; try with_reducible rfl)
                  try simp [Act.put]
                  refine wpAnyH_take (i := 26) (v := ?v547) rfl (by kernel_rfl) (by kernel_rfl) (by kernel_rfl) (fun _ _ _ h => h) (Or.inl ⟨by rfl, ?hy547⟩) hHeld ?rest547
                  case hy547 => (intro w' hSw; obtain ⟨s1, s2, s3⟩ := hSw; go_simp; try with_reducible rfl)
                  try simp [Act.put]
                  refine wpAnyH_take (i := 27) (v := ?v548) rfl (by kernel_rfl) (by kernel_rfl) (by kernel_rfl) (fun _ _ _ h => h) (Or.inl ⟨by rfl, ?hy548⟩) hHeld ?rest548
                  case hy548 => (intro w' hSw; obtain ⟨s1, s2, s3⟩ := hSw; go_simp; try with_reducible rfl)
                  try simp [Act.put]
                  refine wpAnyH_take (i := 28) (v := ?v549) rfl (by kernel_rfl) (by kernel_rfl) (by kernel_rfl) (fun _ _ _ h => h) (Or.inl ⟨by rfl, ?hy549⟩) hHeld ?rest549
                  case hy549 => (intro w' hSw; obtain ⟨s1, s2, s3⟩ := hSw; go_simp; try with_reducible rfl)
                  try simp [Act.put]
                  refine wpAnyH_take (i := 29) (v := ?v550) rfl (by kernel_rfl) (by kernel_rfl) (by kernel_rfl) (fun _ _ _ h => h) (Or.inl ⟨by rfl, ?hy550⟩) hHeld ?rest550
                  case hy550 => (intro w' hSw; obtain ⟨s1, s2, s3⟩ := hSw; go_simp; try with_reducible rfl)
                  try simp [Act.put]
                  refine wpAnyH_take (i := 30) (v := ?v551) rfl (by kernel_rfl) (by kernel_rfl) (by kernel_rfl) (fun _ _ _ h => h) (Or.inl ⟨by rfl, ?hy551⟩) hHeld ?rest551
                  case hy551 => (intro w' hSw; obtain ⟨s1, s2, s3⟩ := hSw; go_simp; try with_reducible rfl)
                  try simp [Act.put]
                  refine wpAnyH_take (i := 31) (v := ?v552) rfl (by kernel_rfl) (by kernel_rfl) (by kernel_rfl) (fun _ _ _ h => h) (Or.inl ⟨by rfl, ?hy552⟩) hHeld ?rest552
                  case hy552 => (intro w' hSw; obtain ⟨s1, s2, s3⟩ := hSw; go_simp; try with_reducible rfl)
                  try simp [Act.put]
                  refine wpAnyH_take (i := 32) (v := ?v553) rfl (by kernel_rfl) (by kernel_rfl) (by kernel_rfl) (fun _ _ _ h => h) (Or.inl ⟨by rfl, ?hy553⟩) hHeld ?rest553
                  case hy553 => (intro w' hSw; obtain ⟨s1, s2, s3⟩ := hSw; go_simp; try with_reducible rfl)
                  try simp [Act.put]
                  refine wpAnyH_done (by kernel_rfl) (NoPanic.normal ?_) _
                  go_wp2_with fail
                  exact ⟨⟨j + 1, by omega, by go_num, HWI1.out⟩, by simp [vInt]; omega⟩
                · have hj0' : j = 0 := by omega
                  subst hj0'
                  have hj4 : decide ((0 : Int) < ((0 : Nat) : Int)) = false := by simp
                  have hj5 : decide (0 < 0) = false := by simp
                  have hc0 := hvat.c0
                  simp only at hc0
                  obtain ⟨vj, hvj⟩ : ∃ vj, vv.id = vj := ⟨_, rfl⟩
                  rw [hvj] at hc0 HVJ0
                  have HVJ := hide HVJ0
                  have HS0 := hide (And.intro hcj hc0)
                  have HSA : Hid (∀ W1, Below W0.heap.size W0 W1 → W1.cell? ⟨lb, 0, none⟩ = some (.bool true) ∧ W1.cell? ⟨vb, vo + 0 * 4, none⟩ = some (.int .i64 vj)) := fun W1 hb => ⟨(hb.cell (p := ⟨lb, 0, none⟩) hllt).trans hcj, (hb.cell (p := ⟨vb, vo + 0 * 4, none⟩) hvb).trans hc0⟩
                  clear hvv hva hV hlv HVJ0 hW0 hbd hvat hcj hc0 hvj hvb hllt
                  go_wp2_with fail
                  refine wp_region_noPanic ?_
                  refine wp_region_held_drew (S := fun w' => w'.cell? ⟨lb, 0, none⟩ = some (.bool true) ∧ w'.cell? ⟨vb, vo + 0 * 4, none⟩ = some (.int .i64 vj)) (by kernel_rfl) (by rw [← HWD.out]; exact HS0.out) (fun hHeld => ?_)
                  rw [← HWD.out] at hHeld ⊢
                  refine wpAnyH_take (i := 0) (v := ?v600) rfl (by kernel_rfl) (by kernel_rfl) (by kernel_rfl) (fun _ _ _ h => h) (Or.inl ⟨by rfl, ?hy600⟩) hHeld ?rest600
                  case hy600 => (intro w' hSw; obtain ⟨s1, s2⟩ := hSw; go_simp; try with_reducible rfl)
                  try simp [Act.put]
                  refine wpAnyH_take (i := 1) (v := ?v601) rfl (by kernel_rfl) (by kernel_rfl) (by kernel_rfl) (fun _ _ _ h => h) (Or.inl ⟨by rfl, ?hy601⟩) hHeld ?rest601
                  case hy601 => (intro w' hSw; obtain ⟨s1, s2⟩ := hSw; go_simp; try with_reducible rfl)
                  try simp [Act.put]
                  refine wpAnyH_take (i := 2) (v := ?v602) rfl (by kernel_rfl) (by kernel_rfl) (by kernel_rfl) (fun _ _ _ h => h) (Or.inl ⟨by rfl, ?hy602⟩) hHeld ?rest602
                  case hy602 => (intro w' hSw; obtain ⟨s1, s2⟩ := hSw; go_simp; try with_reducible rfl)
                  try simp [Act.put]
                  refine wpAnyH_take (i := 3) (v := ?v603) rfl (by kernel_rfl) (by kernel_rfl) (by kernel_rfl) (fun _ _ _ h => h) (Or.inl ⟨by rfl, ?hy603⟩) hHeld ?rest603
                  case hy603 => (intro w' hSw; obtain ⟨s1, s2⟩ := hSw; go_simp; try with_reducible rfl)
                  try simp [Act.put]
                  refine wpAnyH_take (i := 4) (v := ?v604) rfl (by kernel_rfl) (by kernel_rfl) (by kernel_rfl) (fun _ _ _ h => h) (Or.inl ⟨by rfl, ?hy604⟩) hHeld ?rest604
                  case hy604 => (intro w' hSw; obtain ⟨s1, s2⟩ := hSw; go_simp; try with_reducible rfl)
                  try simp [Act.put]
                  refine wpAnyH_take (i := 5) (v := ?v605) rfl (by kernel_rfl) (by kernel_rfl) (by kernel_rfl) (fun _ _ _ h => h) (Or.inl ⟨by rfl, ?hy605⟩) hHeld ?rest605
                  case hy605 => (intro w' hSw; obtain ⟨s1, s2⟩ := hSw; go_simp; try with_reducible rfl)
                  try simp [Act.put]
                  refine wpAnyH_take (i := 6) (v := ?v606) rfl (by kernel_rfl) (by kernel_rfl) (by kernel_rfl) (fun _ _ _ h => h) (Or.inl ⟨by rfl, ?hy606⟩) hHeld ?rest606
                  case hy606 => (intro w' hSw; obtain ⟨s1, s2⟩ := hSw; go_simp; try with_reducible rfl)
                  try simp [Act.put]
                  refine wpAnyH_take (i := 7) (v := ?v607) rfl (by kernel_rfl) (by kernel_rfl) (by kernel_rfl) (fun _ _ _ h => h) (Or.inl ⟨by rfl, ?hy607⟩) hHeld ?rest607
                  case hy607 => (intro w' hSw; obtain ⟨s1, s2⟩ := hSw; go_simp; try with_reducible rfl)
                  try simp [Act.put]
                  refine wpAnyH_take (i := 8) (v := ?v608) rfl (by kernel_rfl) (by kernel_rfl) (by kernel_rfl) (fun _ _ _ h => h) (Or.inl ⟨by rfl, ?hy608⟩) hHeld ?rest608
                  case hy608 => (intro w' hSw; obtain ⟨s1, s2⟩ := hSw; go_simp; try with_reducible rfl)
                  try simp [Act.put]
                  refine wpAnyH_take (i := 9) (v := ?v609) rfl (by kernel_rfl) (by kernel_rfl) (by kernel_rfl) (fun _ _ _ h => h) (Or.inl ⟨by rfl, ?hy609⟩) hHeld ?rest609
                  case hy609 => (intro w' hSw; obtain ⟨s1, s2⟩ := hSw; go_simp; try with_reducible rfl)
                  try simp [Act.put]
                  refine wpAnyH_take (i := 10) (v := ?v610) rfl (by kernel_rfl) (by kernel_rfl) (by kernel_rfl) (fun _ _ _ h => h) (Or.inl ⟨by rfl, ?hy610⟩) hHeld ?rest610
                  case hy610 => (intro w' hSw; obtain ⟨s1, s2⟩ := hSw; go_simp; try with_reducible rfl)
                  try simp [Act.put]
                  refine wpAnyH_take (i := 11) (v := ?v611) rfl (by kernel_rfl) (by kernel_rfl) (by kernel_rfl) (fun _ _ _ h => h) (Or.inl ⟨by rfl, ?hy611⟩) hHeld ?rest611
                  case hy611 => (intro w' hSw; obtain ⟨s1, s2⟩ := hSw; go_simp; try with_reducible rfl)
                  try simp [Act.put]
                  refine wpAnyH_ready (rs := [12]) (by kernel_rfl) (by simp) ?_
                  refine AllReadyH.cons rfl (fun K hK => ?_) AllReadyH.nil
                  go_simp
                  refine (ix_next HWI0.out.ix (by omega) HIV.out.h).mono ?_
                  rintro e W1 ⟨N, rfl, hn1, hn2, hb⟩
                  have HWI1 := hide (HWI0.out.below hb)
                  have HS1 := hide (HSA.out W1 hb)
                  have hlN : decide (N ≤ vj) = false := by have := hn1.1 vj HVJ.out.1 HVJ.out.2; simp; omega
                  clear hn1 hn2 hb
                  refine hK.out _ _ HS1.out (fun hHeld => ?_)
                  clear hK K
                  try simp [Act.put]
                  refine wpAnyH_take (i := 13) (v := ?v620) rfl (by kernel_rfl) (by kernel_rfl) (by kernel_rfl) (fun _ _ _ h => h) (Or.inl ⟨by rfl, ?hy620⟩) hHeld ?rest620
                  case hy620 => (intro w' hSw; obtain ⟨s1, s2⟩ := hSw; go_simp; try with_reducible rfl)
                  try simp [Act.put]
                  refine wpAnyH_take (i := 14) (v := ?v621) rfl (by kernel_rfl) (by kernel_rfl) (by kernel_rfl) (fun _ _ _ h => h) (Or.inl ⟨by rfl, ?hy621⟩) hHeld ?rest621
                  case hy621 => (intro w' hSw; obtain ⟨s1, s2⟩ := hSw; go_simp; try with_reducible rfl)
                  try simp [Act.put]
                  refine wpAnyH_take (i := 15) (v := ?v622) rfl (by kernel_rfl) (by kernel_rfl) (by kernel_rfl) (fun _ _ _ h => h) (Or.inl ⟨by rfl, ?hy622⟩) hHeld ?rest622
                  case hy622 => (intro w' hSw; obtain ⟨s1, s2⟩ := hSw; go_simp; try with_reducible rfl)
                  try simp [Act.put]
                  refine wpAnyH_take (i := 16) (v := ?v623) rfl (by kernel_rfl) (by kernel_rfl) (by kernel_rfl) (fun _ _ _ h => h) (Or.inl ⟨by rfl, ?hy623⟩) hHeld ?rest623
                  case hy623 => (intro w' hSw; obtain ⟨s1, s2⟩ := hSw; go_simp; try with_reducible rfl)
                  try simp [Act.put]
                  refine wpAnyH_take (i := 17) (v := ?v624) rfl (by kernel_rfl) (by kernel_rfl) (by kernel_rfl) (fun _ _ _ h => h) (Or.inl ⟨by rfl, ?hy624⟩) hHeld ?rest624
                  case hy624 => (intro w' hSw; obtain ⟨s1, s2⟩ := hSw; go_simp; try with_reducible rfl)
                  try simp [Act.put]
                  refine wpAnyH_take (i := 18) (v := ?v625) rfl (by kernel_rfl) (by kernel_rfl) (by kernel_rfl) (fun _ _ _ h => h) (Or.inl ⟨by rfl, ?hy625⟩) hHeld ?rest625
                  case hy625 => (intro w' hSw; obtain ⟨s1, s2⟩ := hSw; go_simp; try with_reducible rfl)
                  try simp [Act.put]
                  refine wpAnyH_take (i := 19) (v := undef) rfl (by kernel_rfl) (by kernel_rfl) (by kernel_rfl) (fun _ _ _ h => h) (Or.inr ⟨by rfl, rfl⟩) hHeld ?rest640
                  try simp [Act.put]
                  refine wpAnyH_take (i := 20) (v := undef) rfl (by kernel_rfl) (by kernel_rfl) (by kernel_rfl) (fun _ _ _ h => h) (Or.inr ⟨by rfl, rfl⟩) hHeld ?rest641
                  try simp [Act.put]
                  refine wpAnyH_take (i := 21) (v := undef) rfl (by kernel_rfl) (by kernel_rfl) (by kernel_rfl) (fun _ _ _ h => h) (Or.inr ⟨by rfl, rfl⟩) hHeld ?rest642
                  try simp [Act.put]
                  refine wpAnyH_take (i := 22) (v := undef) rfl (by kernel_rfl) (by kernel_rfl) (by kernel_rfl) (fun _ _ _ h => h) (Or.inr ⟨by rfl, rfl⟩) hHeld ?rest643
                  try simp [Act.put]
                  refine wpAnyH_take (i := 23) (v := undef) rfl (by kernel_rfl) (by kernel_rfl) (by kernel_rfl) (fun _ _ _ h => h) (Or.inr ⟨by rfl, rfl⟩) hHeld ?rest644
                  try simp [Act.put]
                  refine wpAnyH_take (i := 24) (v := undef) rfl (by kernel_rfl) (by kernel_rfl) (by kernel_rfl) (fun _ _ _ h => h) (Or.inr ⟨by rfl, rfl⟩) hHeld ?rest645
                  try simp [Act.put]
                  refine wpAnyH_take (i := 25) (v := undef) rfl (by kernel_rfl) (by kernel_rfl) (by kernel_rfl) (fun _ _ _ h => h) (Or.inr ⟨by rfl, rfl⟩) hHeld ?rest646
                  try simp [Act.put]
                  refine wpAnyH_take (i := 26) (v := undef) rfl (by kernel_rfl) (by kernel_rfl) (by kernel_rfl) (fun _ _ _ h => h) (Or.inr ⟨by rfl, rfl⟩) hHeld ?rest647
                  try simp [Act.put]
                  refine wpAnyH_take (i := 27) (v := undef) rfl (by kernel_rfl) (by kernel_rfl) (by kernel_rfl) (fun _ _ _ h => h) (Or.inr ⟨by rfl, rfl⟩) hHeld ?rest648
                  try simp [Act.put]
                  refine wpAnyH_take (i := 28) (v := undef) rfl (by kernel_rfl) (by kernel_rfl) (by kernel_rfl) (fun _ _ _ h => h) (Or.inr ⟨by rfl, rfl⟩) hHeld ?rest649
                  try simp [Act.put]
                  refine wpAnyH_take (i := 29) (v := undef) rfl (by kernel_rfl) (by kernel_rfl) (by kernel_rfl) (fun _ _ _ h => h) (Or.inr ⟨by rfl, rfl⟩) hHeld ?rest650
                  try simp [Act.put]
                  refine wpAnyH_take (i := 30) (v := undef) rfl (by kernel_rfl) (by kernel_rfl) (by kernel_rfl) (fun _ _ _ h => h) (Or.inr ⟨by rfl, rfl⟩) hHeld ?rest651
                  try simp [Act.put]
                  refine wpAnyH_take (i := 31) (v := ?v660) rfl (by kernel_rfl) (by kernel_rfl) (by kernel_rfl) (fun _ _ _ h => h) (Or.inl ⟨by rfl, ?hy660⟩) hHeld ?rest660
                  case hy660 => (intro w' hSw; obtain ⟨s1, s2⟩ := hSw; go_simp; try with_reducible rfl)
                  try simp [Act.put]
                  refine wpAnyH_take (i := 32) (v := ?v661) rfl (by kernel_rfl) (by kernel_rfl) (by kernel_rfl) (fun _ _ _ h => h) (Or.inl ⟨by rfl, ?hy661⟩) hHeld ?rest661
                  case hy661 => (intro w' hSw; obtain ⟨s1, s2⟩ := hSw; go_simp; try with_reducible rfl)
                  try simp [Act.put]
                  refine wpAnyH_done (by kernel_rfl) (NoPanic.normal ?_) _
                  go_wp2_with fail
                  exact ⟨⟨0 + 1, by omega, by go_num, HWI1.out⟩, by simp [vInt]; omega⟩
              · have hjm : j = m := by omega
                have hj1 : decide ((j : Int) < (m : Int)) = false := by simp; omega
                have HF : Hid (∃ X, IxAt w.heap.size wr I (4 * (k + 1)) X ∧ X.Inv ∧ Below w.heap.size w wr) := ⟨Y, HWJ.out.ix, HIV.out, HWJ.out.bel⟩
                go_wp2_with fail
                exact ⟨⟨k + 1, by omega, by go_num, HF.out⟩, by simp [vInt]; omega⟩
    · have hkl : k = l0 := by omega
      subst hkl
      have hd : decide ((k : Int) < (k : Int)) = false := by simp
      go_wp2_with fail
      refine (live13_any _).mono ?_
      rintro e wz ⟨rfl, hb⟩
      have HF := hide (HBW.out.trans (hb.mono HBW.out.size))
      clear hb
      go_wp2_with fail
      try go_ret
      exact ⟨rfl, HF.out⟩
end Go.Proofs.Ytonhmihmnkicdaa
