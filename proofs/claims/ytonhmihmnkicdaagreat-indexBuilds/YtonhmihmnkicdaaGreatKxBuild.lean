/- The document's Next. The document's Build; what the laws need besides. -/
import Derived.Test.YtonhmihmnkicdaaGreatKxGet
import Derived.Test.YtonhmihmnkicdaaGreatIxVols
import Derived.Test.YtonhmihmnkicdaaGreatKxApp
import Derived.Test.YtonhmihmnkicdaaGreatIxApply
import Derived.Test.YtonhmihmnkicdaaGreatIxLaid
import Derived.Test.YtonhmihmnkicdaaGreatCameRecs
namespace Go.Proofs.YtonhmihmnkicdaaGreat
open Go.RowKit
set_option linter.unusedVariables false
set_option maxRecDepth 100000 in
set_option maxHeartbeats 4000000 in
theorem kx_next {B : Nat} {w : World} {K : Kx} {S : KS} {X : FX} (h : KxAt B w K S) (hr : Rel S X) (hi : X.Inv) (hn : S.H.length ≤ 100000) : Calls Tryz.prog 50 #[.pointer (some ⟨K.kb, 0, none⟩)] w fun e w' => ∃ N, e = .returned (.int .i64 N) ∧ NextIs X.H N ∧ w = w' := by
  obtain ⟨-, -, -, c3⟩ := h.cells
  have HE := hide h.h
  obtain ⟨m, hm⟩ : ∃ m, S.H.length = m := ⟨_, rfl⟩
  rw [hm] at hn
  have HM := hide hm
  obtain ⟨a, c, hv, _, _⟩ := own_slice h.h
  rw [hv, hm] at c3
  have HV := hide hv
  have HRL := hide hr
  have HNI := hide (fun id (hid : id ∈ S.H) => hi.h id ((hr.h id).2 hid))
  clear h hv hm hr hi
  go_enter Tryz.func50, Tryz.ntmps50
  go_wp2_with fail
  go_loopw [3, 4] (fun z y wr => ∃ j : Nat, j ≤ m ∧ y = .int .i64 j ∧ z = .int .i64 (nextF (S.H.take j)) ∧ w = wr) (fun z y _ => m - (kIx y).toNat)
  case atStart => exact ⟨0, by omega, rfl, by simp [nextF], rfl⟩
  case round =>
    obtain ⟨j, hj, rfl, rfl, rfl⟩ := hrel
    by_cases hlt : j < m
    · have hd : decide ((j : Int) < (m : Int)) = true := by simp; omega
      have hdi : (j : Int) < (m : Int) := by omega
      have hd0 : (0 : Int) ≤ (j : Int) := by omega
      obtain ⟨e, he⟩ : ∃ e, S.H[j]? = some e := ⟨_, List.getElem?_eq_getElem (by have := HM.out; omega)⟩
      have hrow := HE.out
      rw [HV.out, HM.out] at hrow
      rcases row_form hrow with ⟨_, h0⟩ | ⟨g, c', hv', _, hgl⟩
      · omega
      · cases hv'
        have cc := row_cell (a := none) hrow (p := j) (v := .int .i64 e) (by unfold kiS; rw [List.getElem?_map, he]; rfl)
        have HT : Hid (nextF (S.H.take (j + 1)) = max (nextF (S.H.take j)) (e + 1)) := by
          unfold Hid
          rw [List.take_add_one, he]
          show nextF (S.H.take j ++ [e]) = _
          rw [nextF_snoc, wadd_ok (HNI.out e (List.mem_of_getElem? he))]
        have hwr : IntKind.i64.wrap (e + 1) = e + 1 := by have := HNI.out e (List.mem_of_getElem? he); unfold numR at this; rw [IntKind.wrap_i64]; omega
        clear hrow he
        generalize nextF (S.H.take j) = N at *
        go_wp2_with fail
        exact ⟨⟨j + 1, by omega, by go_num, by rw [HT.out], trivial⟩, by simp [kIx]; omega⟩
    · have hd : decide ((j : Int) < (m : Int)) = false := by simp; omega
      have HF : Hid (NextIs X.H (nextF (S.H.take j))) := by
        have hT : S.H.take j = S.H := List.take_of_length_le (by have := HM.out; omega)
        unfold Hid
        rw [hT]
        obtain ⟨a1, a2, a3, a4⟩ := nextG S.H 0 HNI.out (by omega) (by omega)
        refine ⟨fun id _ hh => a3 id ((HRL.out.h id).1 hh), a1, ?_⟩
        rcases a4 with q | q
        · exact .inl q
        · exact .inr ((HRL.out.h _).2 q)
      generalize nextF (S.H.take j) = N at *
      go_wp2_with fail
      try go_ret
      exact ⟨N, rfl, HF.out, rfl⟩
end Go.Proofs.YtonhmihmnkicdaaGreat
namespace Go.Proofs.YtonhmihmnkicdaaGreat
open Go.RowKit
set_option linter.unusedVariables false
theorem kx_new {B : Nat} {W : World} (hB : B ≤ W.heap.size) : KxAt B (W.alloc (.cells #[.slice none 0 0, .slice none 0 0, .slice none 0 0, .slice none 0 0] 32)) ⟨W.heap.size, .slice none 0 0, .slice none 0 0, .slice none 0 0, .slice none 0 0⟩ KS.nil :=
  ⟨heap_alloc_new _ _, World.ownsRow_nil _ _ _ _, World.ownsRow_nil _ _ _ _, RowV.nil _ _, World.ownsRow_nil _ _ _ _, hB⟩
theorem nil_le (n : Nat) : KS.nil.le n := ⟨Nat.zero_le _, Nat.zero_le _, Nat.zero_le _, Nat.zero_le _⟩
def KBuilt (l : List Rc) (w : World) (e : Ending) (w' : World) : Prop :=
  ∃ K S k, e = .returned (.tuple #[.pointer (some ⟨K.kb, 0, none⟩), .int .i64 (k : Nat)]) ∧ BuildIs l k ∧ KxAt w.heap.size w' K S ∧ Rel S (appN FX.nil (l.take k)) ∧ S.le l.length ∧ Below w.heap.size w w'
theorem build_same {l : List Rc} {k j : Nat} (h : BuildIs l k) (h' : BuildIs l j) : k = j := by
  obtain ⟨a1, a2, a3⟩ := h
  obtain ⟨b1, b2, b3⟩ := h'
  rcases Nat.lt_trichotomy k j with q | q | q
  · obtain ⟨r, hr⟩ : ∃ r, l[k]? = some r := ⟨_, List.getElem?_eq_getElem (by omega)⟩
    exact absurd (b2 k r q hr) (a3 r hr)
  · exact q
  · obtain ⟨r, hr⟩ : ∃ r, l[j]? = some r := ⟨_, List.getElem?_eq_getElem (by omega)⟩
    exact absurd (a2 j r q hr) (b3 r hr)
structure KB (l : List Rc) (w : World) (K : Kx) (S : KS) (k : Nat) (wr : World) : Prop where
  kx : KxAt w.heap.size wr K S
  rel : Rel S (appN FX.nil (l.take k))
  le : S.le k
  ok : ∀ i r, i < k → l[i]? = some r → (appN FX.nil (l.take i)).may r = 0
  bel : Below w.heap.size w wr
set_option maxRecDepth 100000 in
set_option maxHeartbeats 16000000 in
theorem kx_build (a : Option Addr) (m c : Nat) (l : List RT) (w : World) (hl : l.length = m) (hm : m ≤ 1000) (h : RecsAt w a l) (hs : ∀ x ∈ l, x.1.sm) : Calls Tryz.prog 17 #[.slice a m c] w (KBuilt (l.map Prod.fst) w) := by
  have HL := hide hl
  have HR := hide h
  have HS := hide hs
  have HKK := hide (fun x hx => LocsK.came (h.2 x hx) : ∀ x ∈ l, LocsK w.heap.size w x.2.1 x.1.ls)
  have HIV : Hid (∀ k, (appN FX.nil ((l.map Prod.fst).take k)).Inv) := fun k => inv_appN inv_nil _ fun r hr => by
    obtain ⟨x, hx, rfl⟩ := List.mem_map.1 (List.mem_of_mem_take hr)
    exact sm_ek (hs x hx)
  have HLM : Hid ((l.map Prod.fst).length = m) := by unfold Hid; rw [List.length_map]; exact hl
  have HNW := hide (kx_new (Nat.le_refl w.heap.size))
  have HB0 : Hid (Below w.heap.size w (w.alloc (.cells #[.slice none 0 0, .slice none 0 0, .slice none 0 0, .slice none 0 0] 32))) := (Below.refl _ _).alloc (Nat.le_refl _) _
  clear hl h hs
  go_enter Tryz.func17, Tryz.ntmps17
  go_upto_region 2 with fail
  generalize w.alloc (.cells #[.slice none 0 0, .slice none 0 0, .slice none 0 0, .slice none 0 0] 32) = W1 at *
  obtain ⟨kb, hkb⟩ : ∃ kb, w.heap.size = kb := ⟨_, rfl⟩
  have HKB := hide hkb
  rw [hkb]
  have HNW2 : Hid (KxAt w.heap.size W1 ⟨kb, .slice none 0 0, .slice none 0 0, .slice none 0 0, .slice none 0 0⟩ KS.nil) := by have := HNW.out; rw [hkb] at this ⊢; exact this
  clear hkb HNW
  go_wp2_with fail
  go_loopw [5] (fun y wr => ∃ (k : Nat) (K : Kx) (S : KS), k ≤ m ∧ y = .int .i64 k ∧ K.kb = kb ∧ Hid (KB (l.map Prod.fst) w K S k wr)) (fun y _ => m - (kIx y).toNat)
  case atStart => exact ⟨0, ⟨kb, .slice none 0 0, .slice none 0 0, .slice none 0 0, .slice none 0 0⟩, KS.nil, by omega, rfl, rfl, hide ⟨HNW2.out, by simpa [appN] using rel_nil, nil_le _, fun i r hi => by omega, HB0.out⟩⟩
  case round =>
    obtain ⟨k, K, S, hk, rfl, hKb, HO⟩ := hrel
    have HKb := hide hKb
    by_cases hlt : k < m
    · have hd : decide ((k : Int) < (m : Int)) = true := by simp; omega
      have hdi : (k : Int) < (m : Int) := by omega
      have hd0 : (0 : Int) ≤ (k : Int) := by omega
      obtain ⟨⟨x, xa, xc⟩, hx⟩ : ∃ x, l[k]? = some x := ⟨_, List.getElem?_eq_getElem (by have := HL.out; omega)⟩
      have hxm : (x, xa, xc) ∈ l := List.mem_of_getElem? hx
      obtain ⟨b1, o1, rfl, hb1, p1, q1⟩ := (HR.out.below HO.out.bel).nth hx
      have P1 := hide p1
      have hxr : (l.map Prod.fst)[k]? = some x := by rw [List.getElem?_map, hx]; rfl
      have HXR := hide hxr
      have HSX := hide (HS.out _ hxm)
      have HLX := hide ((HKK.out _ hxm).mod (Mds.of_below (fun _ => False) HO.out.bel (Nat.le_refl _)))
      have HQ := hide (kx_apply HO.out.kx HO.out.rel (HIV.out k) (HO.out.le.mono (by omega)) x xa xc HLX.out HSX.out.1)
      rw [hKb] at HQ
      clear hx hxm p1 q1 hxr hb1 hKb
      go_wp2_with (first | (refine wpList_load_mid rfl 40 (.tmp 20) rfl b1 (o1 + k * 14) rfl (rtC (x, xa, xc)).toList _ P1.out Tryz.underlying40 rfl ref_info ?_; rw [show (rtC (x, xa, xc)).toList.toArray = rcs x xa xc from rfl]))
      refine HQ.out.mono ?_
      rintro e W2 ⟨K2, a2, c2, rfl, h1, h2, h3, h4, h5⟩
      have H3 := hide (h3.trans HKb.out)
      have H4 := hide h4
      have H5 := hide (HO.out.bel.trans h5.bel)
      obtain ⟨n2, hn2⟩ : ∃ n2, ((appN FX.nil ((l.map Prod.fst).take k)).appO x).length = n2 := ⟨_, rfl⟩
      rw [hn2]
      clear h1 h2 h3 h4 h5 hn2 HQ
      by_cases hm0 : (appN FX.nil ((l.map Prod.fst).take k)).may x = 0
      · have HN : Hid (KB (l.map Prod.fst) w K2 (S.app (appN FX.nil ((l.map Prod.fst).take k)) x) (k + 1) W2) := by
          refine ⟨H4.out, ?_, app_le HO.out.le, fun i r hi hir => ?_, H5.out⟩
          · rw [appN_take HXR.out]; exact rel_app HO.out.rel (HIV.out k)
          · by_cases q : i = k
            · subst q; rw [HXR.out] at hir; cases hir; exact hm0
            · exact HO.out.ok i r (by omega) hir
        rw [hm0]
        clear hm0
        go_wp2_with fail
        all_goals exact ⟨⟨k + 1, K2, S.app (appN FX.nil ((l.map Prod.fst).take k)) x, by omega, by go_num, H3.out, HN⟩, by simp [kIx]; omega⟩
      · have HBI : Hid (BuildIs (l.map Prod.fst) k) := ⟨by rw [HLM.out]; omega, HO.out.ok, fun r hr => by rw [HXR.out] at hr; cases hr; exact hm0⟩
        have HK2 : Hid (KxAt w.heap.size W2 K2 S) := by have := H4.out; unfold KS.app at this; rw [if_neg hm0] at this; exact this
        have HLE : Hid (S.le (l.map Prod.fst).length) := HO.out.le.mono (by rw [HLM.out]; omega)
        have q8 : ((appN FX.nil ((l.map Prod.fst).take k)).may x != 0) = true := by simpa using hm0
        have q9 : ((appN FX.nil ((l.map Prod.fst).take k)).may x == 0) = false := by simpa using hm0
        generalize (appN FX.nil ((l.map Prod.fst).take k)).may x = mv at *
        clear hm0
        go_wp2_with fail
        try go_returns
        unfold KBuilt
        exact ⟨K2, S, k, by rw [H3.out]; rfl, HBI.out, HK2.out, HO.out.rel, HLE.out, H5.out⟩
    · have hd : decide ((k : Int) < (m : Int)) = false := by simp; omega
      have hkm : k = m := by omega
      have HBI : Hid (BuildIs (l.map Prod.fst) k) := ⟨by rw [HLM.out]; omega, HO.out.ok, fun r hr => by have := (List.getElem?_eq_some_iff.1 hr).1; rw [HLM.out] at this; omega⟩
      have HLE : Hid (S.le (l.map Prod.fst).length) := HO.out.le.mono (by rw [HLM.out]; omega)
      have HKM := hide hkm
      clear hkm hKb
      go_wp2_with fail
      try go_returns
      unfold KBuilt
      exact ⟨K, S, k, by rw [HKb.out, HKM.out]; rfl, HBI.out, HO.out.kx, HO.out.rel, HLE.out, HO.out.bel⟩
/-! what lies beside the document's index -/
theorem VosAt.kx {B : Nat} {w w' : World} {K : Kx} {S : KS} {a : Option Addr} {L : List VD} {A' : Nat → Prop} (h : VosAt B w a L) (ht : VoT w a) (hk : KxAt B w K S) (m : Mds B K.own w A' w') : VosAt B w' a L := by
  rcases h with q | ⟨b, o, ha, hlt, vs, hm, hc⟩
  · exact .inl q
  · obtain ⟨cur, fr, hb⟩ := ht b o ha
    have hb' : w'.heap[b]? = w.heap[b]? := m.blk b hlt (hk.other hb (by decide))
    exact .inr ⟨b, o, ha, Nat.lt_of_lt_of_le hlt m.size, vs, hm, fun i x hi => ⟨(hc i x hi).1.keep hb', (hc i x hi).2.mod m⟩⟩
theorem appO_small {X : FX} (hi : X.Inv) (r : Rc) : (X.appO r).length ≤ 2 ∧ ∀ x ∈ X.appO r, x.ls.length ≤ 1000000 := by
  have hv : ∀ id, (X.vol id).ls.length ≤ 1000000 := fun id => by have := inv_ls hi id; omega
  have he : ((X.end r.f).vol r.t).ls.length ≤ 1000000 := by
    show ((vset X.V r.f none r.t).getD vd0).ls.length ≤ _
    unfold vset
    split
    · exact Nat.zero_le _
    · exact hv r.t
  unfold FX.appO
  split
  · unfold FX.doO
    split
    · exact ⟨by simp, fun x hx => by simp at hx⟩
    · split
      · unfold FX.remO
        split
        · exact ⟨by simp, fun x hx => by simp at hx⟩
        · exact ⟨by simp, fun x hx => by rw [List.mem_singleton.1 hx]; exact hv _⟩
      · split
        · exact ⟨by simp, fun x hx => by rw [List.mem_singleton.1 hx]; exact hv _⟩
        · refine ⟨by simp [FX.mrgO], fun x hx => ?_⟩
          unfold FX.mrgO at hx
          simp at hx
          rcases hx with rfl | rfl
          · exact hv _
          · exact he
  · exact ⟨by simp, fun x hx => by simp at hx⟩
/-- both indexes behind k records -/
structure AP (w : World) (I : Ix) (K : Kx) (k : Nat) (X : FX) (S : KS) (wr : World) : Prop where
  bel : Below w.heap.size w wr
  ix : IxAt w.heap.size wr I (4 * k) X
  kx : KxAt w.heap.size wr K S
  rel : Rel S X
  inv : X.Inv
  le : S.le k
theorem AP.below {w : World} {I : Ix} {K : Kx} {k : Nat} {X : FX} {S : KS} {wr w' : World} (h : AP w I K k X S wr) (hb : Below wr.heap.size wr w') : AP w I K k X S w' :=
  ⟨h.bel.trans (hb.mono h.bel.size), h.ix.below hb, h.kx.below hb, h.rel, h.inv, h.le⟩
end Go.Proofs.YtonhmihmnkicdaaGreat
