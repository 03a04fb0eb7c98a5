/- What the law's same answers: an index tells what the document's does. (Written by genks.py.) -/
import Derived.Test.YtonhmihmnkicdaaGreatKxApp
import Derived.Test.YtonhmihmnkicdaaGreatKxBuild
import Derived.Test.YtonhmihmnkicdaaGreatIxLaw
import Derived.SizedLaws
namespace Go.Proofs.YtonhmihmnkicdaaGreat
open Go.RowKit
set_option linter.unusedVariables false
/-- what a law knows of a slice that came in, and of what all in it weighs -/
def CameSz (t : TypeId) (w : World) (a : Option Addr) (l c : Nat) : Prop := ∃ (H : Type) (enc : TypeId × Value → H) (d : DataW H) (ps : List MemPlace), DataW.Trod enc Tryz.prog w 0 (fun _ => true) true t (.slice a l c) d ps ∧ ∀ n ∈ d.weights Tryz.prog t, n ≤ reachBytes
theorem wts_mem {H : Type} {P : Program} {e : TypeId} : ∀ {ds : List (DataW H)} {d : DataW H}, d ∈ ds → ∀ n ∈ d.weights P e, n ∈ DataW.weightsAll P e ds
  | d0 :: ds, d, hd, n, hn => by
    simp only [DataW.weightsAll, List.mem_append]
    rcases List.mem_cons.1 hd with rfl | h
    · exact Or.inl hn
    · exact Or.inr (wts_mem h n hn)
theorem came_keys {w : World} {a : Option Addr} {l c : Nat} (h : CameSz 23 w a l c) : ∃ ls : List ByteArray, ls.length = l ∧ l ≤ 9223372036854775807 ∧ StrsAt w a ls ∧ ∀ s ∈ ls, okS s := by
  obtain ⟨H, enc, d, ps, ⟨fuel, hf⟩, hw⟩ := h
  rcases Go.ChangeShapes.open_strings Tryz.underlying23 Tryz.underlying9 (by kernel_rfl) hf with ⟨hcs, _⟩ | ⟨x, l', c', ss, hcs, _, hl, hm, hz, hy, hcell, _⟩
  · simp [Value.cells] at hcs
    obtain ⟨rfl, rfl, rfl⟩ := hcs
    exact ⟨[], rfl, by omega, .inl rfl, fun s hs => by simp at hs⟩
  · simp [Value.cells] at hcs
    obtain ⟨rfl, rfl, rfl⟩ := hcs
    simp only [if_true] at hz
    unfold maxLen at hm
    refine ⟨ss.take l, by rw [List.length_take]; omega, by omega, ?_, ?_⟩
    · by_cases h0 : l = 0
      · exact .inl (by subst h0; rfl)
      · obtain ⟨e, hb⟩ := plain_addr (hcell 0 (by omega))
        refine .inr ⟨x.block, x.off, by rw [← e], hb, fun i s hs => ?_⟩
        have hi : i < l := by have := (List.getElem?_eq_some_iff.1 hs).1; rw [List.length_take] at this; omega
        rw [List.getElem?_take, if_pos hi] at hs
        have := hcell i (by omega)
        rw [e, add_plain] at this
        rw [this, List.getD_eq_getElem?_getD, hs]; rfl
    · intro s hs
      have hmem : (DataW.lit (.string s.data.toList) : DataW H) ∈ Go.ChangeShapes.strs (ss.take l) := by
        unfold Go.ChangeShapes.strs
        exact List.mem_map.2 ⟨s, hs, rfl⟩
      have h1 := hw s.data.toList.length (by
        have hd : d = _ := congrArg Prod.fst hy
        rw [hd]
        simp only [DataW.weights, Tryz.underlying23, List.mem_cons, List.mem_append]
        exact Or.inr (Or.inl (wts_mem hmem _ (List.mem_singleton.2 rfl))))
      unfold reachBytes at h1
      have h2 : s.data.toList.length = s.size := by rw [Array.length_toList]; rfl
      show s.size ≤ 9223372036854775807
      omega
theorem LocsK.up {B B' : Nat} {w : World} {a : Option Addr} {l : List (Int × Int)} (h : LocsK B w a l) (hB : B ≤ B') : LocsK B' w a l := by
  rcases h with q | ⟨b, o, h1, h2, h3, h4⟩
  · exact .inl q
  · exact .inr ⟨b, o, h1, h2, by rcases h3 with q | q; exact .inl (by omega); exact .inr q, h4⟩
theorem VosAt.up {B B' : Nat} {w : World} {a : Option Addr} {L : List VD} (h : VosAt B w a L) (hB : B ≤ B') : VosAt B' w a L := by
  rcases h with q | ⟨b, o, h1, h2, vs, h3, h4⟩
  · exact .inl q
  · exact .inr ⟨b, o, h1, h2, vs, h3, fun i x hx => ⟨(h4 i x hx).1, (h4 i x hx).2.up hB⟩⟩
theorem rel_vols {S : KS} {X : FX} (h : Rel S X) (hi : X.Inv) : VolsIs X S.V := by
  refine ⟨S.V.map VD.id, ⟨List.pairwise_map.2 h.kv, fun x => ?_⟩, ?_⟩
  · rw [List.mem_map]
    constructor
    · rintro ⟨v, hv, rfl⟩
      have hV := h.ofV hv
      exact ⟨numR_ok (hi.h _ (hi.v _ _ hV).2.1), by rw [hV]; rfl⟩
    · rintro ⟨_, hs⟩
      cases hV : X.V x with
      | none => rw [hV] at hs; cases hs
      | some v => exact ⟨v, h.memV hV⟩
  · rw [List.map_map]
    conv => lhs; rw [← List.map_id S.V]
    refine List.map_congr_left fun v hv => ?_
    show v = X.vol v.id
    unfold FX.vol
    rw [h.ofV hv]; rfl
set_option maxRecDepth 100000 in
set_option maxHeartbeats 32000000 in
theorem kx_same {B1 B n : Nat} {I : Ix} {X : FX} {K : Kx} {S : KS} {w : World} (hX : IxAt B1 w I n X) (hK : KxAt B w K S) (hr : Rel S X) (hi : X.Inv) (hn : n ≤ 1000) (hS : S.le 99998) (hVn : S.V.length ≤ 1000) (a : Option Addr) (m c : Nat) (ks : List ByteArray) (hl : ks.length = m) (hm : m ≤ 1000) (hks : StrsAt w a ks) (hok : ∀ s ∈ ks, okS s) : Calls Tryz.prog 14 #[.pointer (some ⟨I.xb, 0, none⟩), .pointer (some ⟨K.kb, 0, none⟩), .slice a m c] w fun e w' => e = .returned (.bool true) ∧ Below w.heap.size w w' := by
  have HX := hide hX
  have HK0 := hide hK
  have HRL := hide hr
  have HIV := hide hi
  have HSL := hide hS
  have HVN := hide hVn
  have HKL := hide hl
  have HKS := hide hks
  have HKO := hide hok
  clear hX hK hr hi hS hVn hl hks hok
  go_enter Tryz.func14, Tryz.ntmps14
  go_wp2_with fail
  go_loopw [7] (fun y wr => ∃ i : Nat, i ≤ m ∧ y = .int .i64 i ∧ Hid (Below w.heap.size w wr)) (fun y _ => m - (kIx y).toNat)
  case atStart => exact ⟨0, by omega, rfl, hide (Below.refl _ _)⟩
  case round =>
    obtain ⟨i, hi, rfl, HB⟩ := hrel
    by_cases hlt : i < m
    · have hd : decide ((i : Int) < (m : Int)) = true := by simp; omega
      have hi1 : (i : Int) < (m : Int) := by omega
      have hi2 : (0 : Int) ≤ (i : Int) := by omega
      obtain ⟨s, hs⟩ : ∃ s, ks[i]? = some s := ⟨_, List.getElem?_eq_getElem (by have := HKL.out; omega)⟩
      have HOK := hide (HKO.out s (List.mem_of_getElem? hs))
      rcases HKS.out with q | ⟨g, o, rfl, hgl, hc⟩
      · rw [q] at hs; simp at hs
      have HGL := hide hgl
      have HC := hide (hc i s hs)
      have ck := (HB.out.cell (p := ⟨g, o + i, none⟩) hgl).trans (hc i s hs)
      obtain ⟨e, he⟩ : ∃ e, (X.T s).getD en0 = e := ⟨_, rfl⟩
      have HEE := hide he
      clear hs hgl hc he
      go_wp2_with fail
      refine (ix_get (HX.out.below HB.out) s HOK.out).mono ?_
      rintro e9 W2 ⟨rfl, hb2⟩
      rw [HEE.out]
      simp only [enV]
      have hb3 := hb2.trans ((ensB W2 e).mono hb2.size)
      have HB3 := hide (HB.out.trans (hb3.mono HB.out.size))
      have H8 := hide (ensH W2 e)
      have hw2 : wr.heap.size ≤ W2.heap.size := hb2.size
      clear hb2 hb3 ck
      go_upto_region 5 with (first | (refine wpList_store_row rfl 38 (.tmp 8) (.tmp 30) rfl W2.heap.size #[.string e.key, .int .i64 e.vol, .int .i64 e.off, .int .i64 e.len, .string e.dig] rfl rfl 38 _ (heap_alloc_new _ _) en_info4 rfl (en_one _ _ _ _ _) ?_))
      generalize (W2.alloc (.cells #[.string ⟨#[]⟩, .int .i64 0, .int .i64 0, .int .i64 0, .string ⟨#[]⟩] 38)).setRow W2.heap.size #[.string e.key, .int .i64 e.vol, .int .i64 e.off, .int .i64 e.len, .string e.dig] = W3 at *
      generalize W2.heap.size = b8 at *
      have ck := (HB3.out.cell (p := ⟨g, o + i, none⟩) HGL.out).trans HC.out
      go_wp2_with fail
      refine (kx_get (HK0.out.below HB3.out) HRL.out HSL.out.fit.e s).mono ?_
      rintro e9 W4 ⟨rfl, hb4⟩
      rw [HEE.out]
      simp only [enV]
      have hb5 := hb4.trans ((ensB W4 e).mono hb4.size)
      have HB5 := hide (HB3.out.trans (hb5.mono HB3.out.size))
      have H85 := hide ((hb5.block _ (lt_of_block H8.out)).trans H8.out)
      have H105 := hide (ensH W4 e)
      clear hb4 hb5 ck H8
      go_upto_region 6 with (first | (refine wpList_store_row rfl 38 (.tmp 10) (.tmp 39) rfl W4.heap.size #[.string e.key, .int .i64 e.vol, .int .i64 e.off, .int .i64 e.len, .string e.dig] rfl rfl 38 _ (heap_alloc_new _ _) en_info4 rfl (en_one _ _ _ _ _) ?_))
      generalize (W4.alloc (.cells #[.string ⟨#[]⟩, .int .i64 0, .int .i64 0, .int .i64 0, .string ⟨#[]⟩] 38)).setRow W4.heap.size #[.string e.key, .int .i64 e.vol, .int .i64 e.off, .int .i64 e.len, .string e.dig] = W5 at *
      generalize W4.heap.size = b10 at *
      obtain ⟨Wd, hWd⟩ : ∃ Wd, Wd = W5.drew := ⟨_, rfl⟩
      have HWD := hide hWd
      have hbd : Below W5.heap.size W5 Wd := by rw [hWd]; exact (Below.refl _ _).drew
      have HBD := hide (HB5.out.trans (hbd.mono HB5.out.size))
      have HIX := hide (HX.out.below HBD.out)
      have HKX := hide (HK0.out.below HBD.out)
      have hs8 := (hbd.block _ (lt_of_block H85.out)).trans H85.out
      have hs10 := (hbd.block _ (lt_of_block H105.out)).trans H105.out
      have HSS : Hid (∀ W', Below Wd.heap.size Wd W' → W'.heap[b8]? = some (.cells #[.string e.key, .int .i64 e.vol, .int .i64 e.off, .int .i64 e.len, .string e.dig] 38 (0, 0)) ∧ W'.heap[b10]? = some (.cells #[.string e.key, .int .i64 e.vol, .int .i64 e.off, .int .i64 e.len, .string e.dig] 38 (0, 0)) ∧ W'.cell? ⟨g, o + i, none⟩ = some (.string s)) := fun W' hb => ⟨(hb.block _ (lt_of_block hs8)).trans hs8, (hb.block _ (lt_of_block hs10)).trans hs10, ((HBD.out.trans (hb.mono HBD.out.size)).cell (p := ⟨g, o + i, none⟩) HGL.out).trans HC.out⟩
      have HQ0 := hide (Below.refl Wd.heap.size Wd)
      clear hWd hbd hs8 hs10
      refine wp_region_noPanic ?_
      refine wp_region_held_drew (S := fun w' => w'.heap[b8]? = some (.cells #[.string e.key, .int .i64 e.vol, .int .i64 e.off, .int .i64 e.len, .string e.dig] 38 (0, 0)) ∧ w'.heap[b10]? = some (.cells #[.string e.key, .int .i64 e.vol, .int .i64 e.off, .int .i64 e.len, .string e.dig] 38 (0, 0)) ∧ w'.cell? ⟨g, o + i, none⟩ = some (.string s)) (by kernel_rfl) (by rw [← HWD.out]; exact HSS.out _ (Below.refl _ _)) (fun hHeld => ?_)
      rw [← HWD.out] at hHeld ⊢
      refine wpAnyH_take (i := 0) (v := ?v1) rfl (by kernel_rfl) (by kernel_rfl) (by kernel_rfl) (fun _ _ _ h => h) (Or.inl ⟨by rfl, ?hy1⟩) hHeld ?rest1
      case hy1 => (intro w' hSw; obtain ⟨s8, s10, sk⟩ := hSw; have t8 := en5 s8; have t10 := en5 s10; obtain ⟨x80, x81, x82, x83, x84⟩ := t8; obtain ⟨y80, y81, y82, y83, y84⟩ := t10; go_simp; try with_reducible rfl)
      try simp [Act.put]
      refine wpAnyH_take (i := 1) (v := ?v2) rfl (by kernel_rfl) (by kernel_rfl) (by kernel_rfl) (fun _ _ _ h => h) (Or.inl ⟨by rfl, ?hy2⟩) hHeld ?rest2
      case hy2 => (intro w' hSw; obtain ⟨s8, s10, sk⟩ := hSw; have t8 := en5 s8; have t10 := en5 s10; obtain ⟨x80, x81, x82, x83, x84⟩ := t8; obtain ⟨y80, y81, y82, y83, y84⟩ := t10; go_simp; try with_reducible rfl)
      try simp [Act.put]
      refine wpAnyH_take (i := 2) (v := ?v3) rfl (by kernel_rfl) (by kernel_rfl) (by kernel_rfl) (fun _ _ _ h => h) (Or.inl ⟨by rfl, ?hy3⟩) hHeld ?rest3
      case hy3 => (intro w' hSw; obtain ⟨s8, s10, sk⟩ := hSw; have t8 := en5 s8; have t10 := en5 s10; obtain ⟨x80, x81, x82, x83, x84⟩ := t8; obtain ⟨y80, y81, y82, y83, y84⟩ := t10; go_simp; try with_reducible rfl)
      try simp [Act.put]
      refine wpAnyH_take (i := 3) (v := ?v4) rfl (by kernel_rfl) (by kernel_rfl) (by kernel_rfl) (fun _ _ _ h => h) (Or.inl ⟨by rfl, ?hy4⟩) hHeld ?rest4
      case hy4 => (intro w' hSw; obtain ⟨s8, s10, sk⟩ := hSw; have t8 := en5 s8; have t10 := en5 s10; obtain ⟨x80, x81, x82, x83, x84⟩ := t8; obtain ⟨y80, y81, y82, y83, y84⟩ := t10; go_simp; try with_reducible rfl)
      try simp [Act.put]
      refine wpAnyH_take (i := 4) (v := ?v5) rfl (by kernel_rfl) (by kernel_rfl) (by kernel_rfl) (fun _ _ _ h => h) (Or.inl ⟨by rfl, ?hy5⟩) hHeld ?rest5
      case hy5 => (intro w' hSw; obtain ⟨s8, s10, sk⟩ := hSw; have t8 := en5 s8; have t10 := en5 s10; obtain ⟨x80, x81, x82, x83, x84⟩ := t8; obtain ⟨y80, y81, y82, y83, y84⟩ := t10; go_simp; try with_reducible rfl)
      try simp [Act.put]
      refine wpAnyH_take (i := 5) (v := ?v6) rfl (by kernel_rfl) (by kernel_rfl) (by kernel_rfl) (fun _ _ _ h => h) (Or.inl ⟨by rfl, ?hy6⟩) hHeld ?rest6
      case hy6 => (intro w' hSw; obtain ⟨s8, s10, sk⟩ := hSw; have t8 := en5 s8; have t10 := en5 s10; obtain ⟨x80, x81, x82, x83, x84⟩ := t8; obtain ⟨y80, y81, y82, y83, y84⟩ := t10; go_simp; try with_reducible rfl)
      try simp [Act.put]
      refine wpAnyH_take (i := 6) (v := ?v7) rfl (by kernel_rfl) (by kernel_rfl) (by kernel_rfl) (fun _ _ _ h => h) (Or.inl ⟨by rfl, ?hy7⟩) hHeld ?rest7
      case hy7 => (intro w' hSw; obtain ⟨s8, s10, sk⟩ := hSw; have t8 := en5 s8; have t10 := en5 s10; obtain ⟨x80, x81, x82, x83, x84⟩ := t8; obtain ⟨y80, y81, y82, y83, y84⟩ := t10; go_simp; try with_reducible rfl)
      try simp [Act.put]
      refine wpAnyH_take (i := 7) (v := ?v8) rfl (by kernel_rfl) (by kernel_rfl) (by kernel_rfl) (fun _ _ _ h => h) (Or.inl ⟨by rfl, ?hy8⟩) hHeld ?rest8
      case hy8 => (intro w' hSw; obtain ⟨s8, s10, sk⟩ := hSw; have t8 := en5 s8; have t10 := en5 s10; obtain ⟨x80, x81, x82, x83, x84⟩ := t8; obtain ⟨y80, y81, y82, y83, y84⟩ := t10; go_simp; try with_reducible rfl)
      try simp [Act.put]
      refine wpAnyH_take (i := 8) (v := ?v9) rfl (by kernel_rfl) (by kernel_rfl) (by kernel_rfl) (fun _ _ _ h => h) (Or.inl ⟨by rfl, ?hy9⟩) hHeld ?rest9
      case hy9 => (intro w' hSw; obtain ⟨s8, s10, sk⟩ := hSw; have t8 := en5 s8; have t10 := en5 s10; obtain ⟨x80, x81, x82, x83, x84⟩ := t8; obtain ⟨y80, y81, y82, y83, y84⟩ := t10; go_simp; try with_reducible rfl)
      try simp [Act.put]
      refine wpAnyH_take (i := 9) (v := ?v10) rfl (by kernel_rfl) (by kernel_rfl) (by kernel_rfl) (fun _ _ _ h => h) (Or.inl ⟨by rfl, ?hy10⟩) hHeld ?rest10
      case hy10 => (intro w' hSw; obtain ⟨s8, s10, sk⟩ := hSw; have t8 := en5 s8; have t10 := en5 s10; obtain ⟨x80, x81, x82, x83, x84⟩ := t8; obtain ⟨y80, y81, y82, y83, y84⟩ := t10; go_simp; try with_reducible rfl)
      try simp [Act.put]
      refine wpAnyH_take (i := 10) (v := ?v11) rfl (by kernel_rfl) (by kernel_rfl) (by kernel_rfl) (fun _ _ _ h => h) (Or.inl ⟨by rfl, ?hy11⟩) hHeld ?rest11
      case hy11 => (intro w' hSw; obtain ⟨s8, s10, sk⟩ := hSw; have t8 := en5 s8; have t10 := en5 s10; obtain ⟨x80, x81, x82, x83, x84⟩ := t8; obtain ⟨y80, y81, y82, y83, y84⟩ := t10; go_simp; try with_reducible rfl)
      try simp [Act.put]
      refine wpAnyH_take (i := 11) (v := ?v12) rfl (by kernel_rfl) (by kernel_rfl) (by kernel_rfl) (fun _ _ _ h => h) (Or.inl ⟨by rfl, ?hy12⟩) hHeld ?rest12
      case hy12 => (intro w' hSw; obtain ⟨s8, s10, sk⟩ := hSw; have t8 := en5 s8; have t10 := en5 s10; obtain ⟨x80, x81, x82, x83, x84⟩ := t8; obtain ⟨y80, y81, y82, y83, y84⟩ := t10; go_simp; try with_reducible rfl)
      try simp [Act.put]
      refine wpAnyH_take (i := 12) (v := ?v13) rfl (by kernel_rfl) (by kernel_rfl) (by kernel_rfl) (fun _ _ _ h => h) (Or.inl ⟨by rfl, ?hy13⟩) hHeld ?rest13
      case hy13 => (intro w' hSw; obtain ⟨s8, s10, sk⟩ := hSw; have t8 := en5 s8; have t10 := en5 s10; obtain ⟨x80, x81, x82, x83, x84⟩ := t8; obtain ⟨y80, y81, y82, y83, y84⟩ := t10; go_simp; try with_reducible rfl)
      try simp [Act.put]
      refine wpAnyH_take (i := 13) (v := ?v14) rfl (by kernel_rfl) (by kernel_rfl) (by kernel_rfl) (fun _ _ _ h => h) (Or.inl ⟨by rfl, ?hy14⟩) hHeld ?rest14
      case hy14 => (intro w' hSw; obtain ⟨s8, s10, sk⟩ := hSw; have t8 := en5 s8; have t10 := en5 s10; obtain ⟨x80, x81, x82, x83, x84⟩ := t8; obtain ⟨y80, y81, y82, y83, y84⟩ := t10; go_simp; try with_reducible rfl)
      try simp [Act.put]
      refine wpAnyH_take (i := 15) (v := ?v15) rfl (by kernel_rfl) (by kernel_rfl) (by kernel_rfl) (fun _ _ _ h => h) (Or.inl ⟨by rfl, ?hy15⟩) hHeld ?rest15
      case hy15 => (intro w' hSw; obtain ⟨s8, s10, sk⟩ := hSw; have t8 := en5 s8; have t10 := en5 s10; obtain ⟨x80, x81, x82, x83, x84⟩ := t8; obtain ⟨y80, y81, y82, y83, y84⟩ := t10; go_simp; try with_reducible rfl)
      try simp [Act.put]
      refine wpAnyH_take (i := 16) (v := ?v16) rfl (by kernel_rfl) (by kernel_rfl) (by kernel_rfl) (fun _ _ _ h => h) (Or.inl ⟨by rfl, ?hy16⟩) hHeld ?rest16
      case hy16 => (intro w' hSw; obtain ⟨s8, s10, sk⟩ := hSw; have t8 := en5 s8; have t10 := en5 s10; obtain ⟨x80, x81, x82, x83, x84⟩ := t8; obtain ⟨y80, y81, y82, y83, y84⟩ := t10; go_simp; try with_reducible rfl)
      try simp [Act.put]
      refine wpAnyH_take (i := 17) (v := ?v17) rfl (by kernel_rfl) (by kernel_rfl) (by kernel_rfl) (fun _ _ _ h => h) (Or.inl ⟨by rfl, ?hy17⟩) hHeld ?rest17
      case hy17 => (intro w' hSw; obtain ⟨s8, s10, sk⟩ := hSw; have t8 := en5 s8; have t10 := en5 s10; obtain ⟨x80, x81, x82, x83, x84⟩ := t8; obtain ⟨y80, y81, y82, y83, y84⟩ := t10; go_simp; try with_reducible rfl)
      try simp [Act.put]
      refine wpAnyH_take (i := 18) (v := ?v18) rfl (by kernel_rfl) (by kernel_rfl) (by kernel_rfl) (fun _ _ _ h => h) (Or.inl ⟨by rfl, ?hy18⟩) hHeld ?rest18
      case hy18 => (intro w' hSw; obtain ⟨s8, s10, sk⟩ := hSw; have t8 := en5 s8; have t10 := en5 s10; obtain ⟨x80, x81, x82, x83, x84⟩ := t8; obtain ⟨y80, y81, y82, y83, y84⟩ := t10; go_simp; try with_reducible rfl)
      try simp [Act.put]
      refine wpAnyH_take (i := 19) (v := ?v19) rfl (by kernel_rfl) (by kernel_rfl) (by kernel_rfl) (fun _ _ _ h => h) (Or.inl ⟨by rfl, ?hy19⟩) hHeld ?rest19
      case hy19 => (intro w' hSw; obtain ⟨s8, s10, sk⟩ := hSw; have t8 := en5 s8; have t10 := en5 s10; obtain ⟨x80, x81, x82, x83, x84⟩ := t8; obtain ⟨y80, y81, y82, y83, y84⟩ := t10; go_simp; try with_reducible rfl)
      try simp [Act.put]
      refine wpAnyH_ready (rs := [14]) (by kernel_rfl) (by simp) ?_
      refine AllReadyH.cons rfl (fun KN hK => ?_) AllReadyH.nil
      go_simp
      refine (ix_known (HIX.out.below HQ0.out) s HOK.out).mono ?_
      rintro e9 V1 ⟨rfl, hb⟩
      have HQ1 := hide (HQ0.out.trans (hb.mono HQ0.out.size))
      clear hb
      refine hK.out _ _ (HSS.out _ HQ1.out) (fun hHeld => ?_)
      clear hK KN
      try simp [Act.put]
      refine wpAnyH_ready (rs := [20]) (by kernel_rfl) (by simp) ?_
      refine AllReadyH.cons rfl (fun KN hK => ?_) AllReadyH.nil
      go_simp
      refine (kx_known (HKX.out.below HQ1.out) HRL.out HSL.out.fit.g HSL.out.fit.e s).mono ?_
      rintro e9 V2 ⟨rfl, rfl⟩
      refine hK.out _ _ (HSS.out _ HQ1.out) (fun hHeld => ?_)
      clear hK KN
      try simp [Act.put]
      refine wpAnyH_take (i := 21) (v := ?v31) rfl (by kernel_rfl) (by kernel_rfl) (by kernel_rfl) (fun _ _ _ h => h) (Or.inl ⟨by rfl, ?hy31⟩) hHeld ?rest31
      case hy31 => (intro w' hSw; obtain ⟨s8, s10, sk⟩ := hSw; have t8 := en5 s8; have t10 := en5 s10; obtain ⟨x80, x81, x82, x83, x84⟩ := t8; obtain ⟨y80, y81, y82, y83, y84⟩ := t10; go_simp; try with_reducible rfl)
      try simp [Act.put]
      refine wpAnyH_take (i := 22) (v := ?v32) rfl (by kernel_rfl) (by kernel_rfl) (by kernel_rfl) (fun _ _ _ h => h) (Or.inl ⟨by rfl, ?hy32⟩) hHeld ?rest32
      case hy32 => (intro w' hSw; obtain ⟨s8, s10, sk⟩ := hSw; have t8 := en5 s8; have t10 := en5 s10; obtain ⟨x80, x81, x82, x83, x84⟩ := t8; obtain ⟨y80, y81, y82, y83, y84⟩ := t10; go_simp; try with_reducible rfl)
      try simp [Act.put]
      refine wpAnyH_take (i := 23) (v := ?v33) rfl (by kernel_rfl) (by kernel_rfl) (by kernel_rfl) (fun _ _ _ h => h) (Or.inl ⟨by rfl, ?hy33⟩) hHeld ?rest33
      case hy33 => (intro w' hSw; obtain ⟨s8, s10, sk⟩ := hSw; have t8 := en5 s8; have t10 := en5 s10; obtain ⟨x80, x81, x82, x83, x84⟩ := t8; obtain ⟨y80, y81, y82, y83, y84⟩ := t10; go_simp; try with_reducible rfl)
      try simp [Act.put]
      refine wpAnyH_take (i := 24) (v := ?v34) rfl (by kernel_rfl) (by kernel_rfl) (by kernel_rfl) (fun _ _ _ h => h) (Or.inl ⟨by rfl, ?hy34⟩) hHeld ?rest34
      case hy34 => (intro w' hSw; obtain ⟨s8, s10, sk⟩ := hSw; have t8 := en5 s8; have t10 := en5 s10; obtain ⟨x80, x81, x82, x83, x84⟩ := t8; obtain ⟨y80, y81, y82, y83, y84⟩ := t10; go_simp; try with_reducible rfl)
      try simp [Act.put]
      refine wpAnyH_take (i := 25) (v := ?v35) rfl (by kernel_rfl) (by kernel_rfl) (by kernel_rfl) (fun _ _ _ h => h) (Or.inl ⟨by rfl, ?hy35⟩) hHeld ?rest35
      case hy35 => (intro w' hSw; obtain ⟨s8, s10, sk⟩ := hSw; have t8 := en5 s8; have t10 := en5 s10; obtain ⟨x80, x81, x82, x83, x84⟩ := t8; obtain ⟨y80, y81, y82, y83, y84⟩ := t10; go_simp; try with_reducible rfl)
      try simp [Act.put]
      refine wpAnyH_take (i := 26) (v := ?v36) rfl (by kernel_rfl) (by kernel_rfl) (by kernel_rfl) (fun _ _ _ h => h) (Or.inl ⟨by rfl, ?hy36⟩) hHeld ?rest36
      case hy36 => (intro w' hSw; obtain ⟨s8, s10, sk⟩ := hSw; have t8 := en5 s8; have t10 := en5 s10; obtain ⟨x80, x81, x82, x83, x84⟩ := t8; obtain ⟨y80, y81, y82, y83, y84⟩ := t10; go_simp; try with_reducible rfl)
      try simp [Act.put]
      refine wpAnyH_take (i := 27) (v := ?v37) rfl (by kernel_rfl) (by kernel_rfl) (by kernel_rfl) (fun _ _ _ h => h) (Or.inl ⟨by rfl, ?hy37⟩) hHeld ?rest37
      case hy37 => (intro w' hSw; obtain ⟨s8, s10, sk⟩ := hSw; have t8 := en5 s8; have t10 := en5 s10; obtain ⟨x80, x81, x82, x83, x84⟩ := t8; obtain ⟨y80, y81, y82, y83, y84⟩ := t10; go_simp; try with_reducible rfl)
      try simp [Act.put]
      refine wpAnyH_take (i := 28) (v := ?v38) rfl (by kernel_rfl) (by kernel_rfl) (by kernel_rfl) (fun _ _ _ h => h) (Or.inl ⟨by rfl, ?hy38⟩) hHeld ?rest38
      case hy38 => (intro w' hSw; obtain ⟨s8, s10, sk⟩ := hSw; have t8 := en5 s8; have t10 := en5 s10; obtain ⟨x80, x81, x82, x83, x84⟩ := t8; obtain ⟨y80, y81, y82, y83, y84⟩ := t10; go_simp; try with_reducible rfl)
      try simp [Act.put]
      refine wpAnyH_take (i := 30) (v := ?v39) rfl (by kernel_rfl) (by kernel_rfl) (by kernel_rfl) (fun _ _ _ h => h) (Or.inl ⟨by rfl, ?hy39⟩) hHeld ?rest39
      case hy39 => (intro w' hSw; obtain ⟨s8, s10, sk⟩ := hSw; have t8 := en5 s8; have t10 := en5 s10; obtain ⟨x80, x81, x82, x83, x84⟩ := t8; obtain ⟨y80, y81, y82, y83, y84⟩ := t10; go_simp; try with_reducible rfl)
      try simp [Act.put]
      refine wpAnyH_take (i := 31) (v := ?v40) rfl (by kernel_rfl) (by kernel_rfl) (by kernel_rfl) (fun _ _ _ h => h) (Or.inl ⟨by rfl, ?hy40⟩) hHeld ?rest40
      case hy40 => (intro w' hSw; obtain ⟨s8, s10, sk⟩ := hSw; have t8 := en5 s8; have t10 := en5 s10; obtain ⟨x80, x81, x82, x83, x84⟩ := t8; obtain ⟨y80, y81, y82, y83, y84⟩ := t10; go_simp; try with_reducible rfl)
      try simp [Act.put]
      refine wpAnyH_take (i := 32) (v := ?v41) rfl (by kernel_rfl) (by kernel_rfl) (by kernel_rfl) (fun _ _ _ h => h) (Or.inl ⟨by rfl, ?hy41⟩) hHeld ?rest41
      case hy41 => (intro w' hSw; obtain ⟨s8, s10, sk⟩ := hSw; have t8 := en5 s8; have t10 := en5 s10; obtain ⟨x80, x81, x82, x83, x84⟩ := t8; obtain ⟨y80, y81, y82, y83, y84⟩ := t10; go_simp; try with_reducible rfl)
      try simp [Act.put]
      refine wpAnyH_take (i := 33) (v := ?v42) rfl (by kernel_rfl) (by kernel_rfl) (by kernel_rfl) (fun _ _ _ h => h) (Or.inl ⟨by rfl, ?hy42⟩) hHeld ?rest42
      case hy42 => (intro w' hSw; obtain ⟨s8, s10, sk⟩ := hSw; have t8 := en5 s8; have t10 := en5 s10; obtain ⟨x80, x81, x82, x83, x84⟩ := t8; obtain ⟨y80, y81, y82, y83, y84⟩ := t10; go_simp; try with_reducible rfl)
      try simp [Act.put]
      refine wpAnyH_take (i := 34) (v := ?v43) rfl (by kernel_rfl) (by kernel_rfl) (by kernel_rfl) (fun _ _ _ h => h) (Or.inl ⟨by rfl, ?hy43⟩) hHeld ?rest43
      case hy43 => (intro w' hSw; obtain ⟨s8, s10, sk⟩ := hSw; have t8 := en5 s8; have t10 := en5 s10; obtain ⟨x80, x81, x82, x83, x84⟩ := t8; obtain ⟨y80, y81, y82, y83, y84⟩ := t10; go_simp; try with_reducible rfl)
      try simp [Act.put]
      refine wpAnyH_ready (rs := [29]) (by kernel_rfl) (by simp) ?_
      refine AllReadyH.cons rfl (fun KN hK => ?_) AllReadyH.nil
      go_simp
      refine (ix_list (HIX.out.below HQ1.out) (by omega) s 3).mono ?_
      rintro e9 V3 ⟨a3, c3, L3, rfl, hc3, hn3, hs3, hl3, hb⟩
      have HS3 := hide hs3
      have HL3 := hide hl3
      have hn3x := hn3
      clear hs3 hl3
      have HQ2 := hide (HQ1.out.trans (hb.mono HQ1.out.size))
      clear hb
      refine hK.out _ _ (HSS.out _ HQ2.out) (fun hHeld => ?_)
      clear hK KN
      try simp [Act.put]
      refine wpAnyH_ready (rs := [35]) (by kernel_rfl) (by simp) ?_
      refine AllReadyH.cons rfl (fun KN hK => ?_) AllReadyH.nil
      go_simp
      refine (kx_list (HKX.out.below HQ2.out) HRL.out HIV.out HSL.out.fit.e s 3).mono ?_
      rintro e9 V4 ⟨a4, c4, L4, rfl, hc4, hn4, hs4, hl4, hb⟩
      obtain rfl := listIs_same HL3.out hl4
      have HS3b := hide (HS3.out.below hb)
      have HS4 := hide hs4
      clear hs4 hl4 hn4
      have HQ3 := hide (HQ2.out.trans (hb.mono HQ2.out.size))
      clear hb
      refine hK.out _ _ (HSS.out _ HQ3.out) (fun hHeld => ?_)
      clear hK KN
      try simp [Act.put]
      refine wpAnyH_ready (rs := [36]) (by kernel_rfl) (by simp) ?_
      refine AllReadyH.cons rfl (fun KN hK => ?_) AllReadyH.nil
      go_simp
      refine (keys_same a3 a4 c3 c4 L3.length L3 _ rfl (by omega) HS3b.out HS4.out).mono ?_
      rintro e9 V5 ⟨rfl, hb⟩
      have HQ4 := hide (HQ3.out.trans (hb.mono HQ3.out.size))
      clear hb
      refine hK.out _ _ (HSS.out _ HQ4.out) (fun hHeld => ?_)
      clear hK KN
      try simp [Act.put]
      refine wpAnyH_take (i := 37) (v := ?v51) rfl (by kernel_rfl) (by kernel_rfl) (by kernel_rfl) (fun _ _ _ h => h) (Or.inl ⟨by rfl, ?hy51⟩) hHeld ?rest51
      case hy51 => (intro w' hSw; obtain ⟨s8, s10, sk⟩ := hSw; have t8 := en5 s8; have t10 := en5 s10; obtain ⟨x80, x81, x82, x83, x84⟩ := t8; obtain ⟨y80, y81, y82, y83, y84⟩ := t10; go_simp; try with_reducible rfl)
      try simp [Act.put]
      refine wpAnyH_take (i := 38) (v := ?v52) rfl (by kernel_rfl) (by kernel_rfl) (by kernel_rfl) (fun _ _ _ h => h) (Or.inl ⟨by rfl, ?hy52⟩) hHeld ?rest52
      case hy52 => (intro w' hSw; obtain ⟨s8, s10, sk⟩ := hSw; have t8 := en5 s8; have t10 := en5 s10; obtain ⟨x80, x81, x82, x83, x84⟩ := t8; obtain ⟨y80, y81, y82, y83, y84⟩ := t10; go_simp; try with_reducible rfl)
      try simp [Act.put]
      refine wpAnyH_done (by kernel_rfl) (NoPanic.normal ?_) _
      go_wp2_with fail
      all_goals exact ⟨⟨i + 1, by omega, by go_num, hide (HBD.out.trans (HQ4.out.mono HBD.out.size))⟩, by simp [kIx]; omega⟩
    · have hd : decide ((i : Int) < (m : Int)) = false := by simp; omega
      go_wp2_with fail
      go_loopw [12] (fun y wq => ∃ id : Int, -1 ≤ id ∧ id ≤ 8 ∧ y = .int .i64 id ∧ Hid (Below w.heap.size w wq)) (fun y _ => (8 - kIx y).toNat)
      case atStart => exact ⟨-1, by omega, by omega, rfl, HB⟩
      case round =>
        obtain ⟨id, hd1, hd2, rfl, HB⟩ := hrel
        obtain ⟨W, hW⟩ : ∃ W, W = wr := ⟨_, rfl⟩
        subst hW
        by_cases hq : id < 8
        · have hdq : decide (id < (8 : Int)) = true := by simpa using hq
          have hwi : IntKind.i64.wrap (id + 1) = id + 1 := by rw [IntKind.wrap_i64]; omega
          have HLN := hide (inv_ls HIV.out id)
          go_wp2_with fail
          refine (ix_volume (HX.out.below HB.out) (inv_ls1 HIV.out) id ⟨by omega, by omega⟩).mono ?_
          rintro e9 W2 ⟨pa, pc, rfl, hlk, hb2⟩
          obtain ⟨D, hD⟩ : ∃ D, X.vol id = D := ⟨_, rfl⟩
          rw [hD] at hlk HLN ⊢
          have HDD := hide hD
          obtain ⟨d1, d2, d3, dl⟩ := D
          obtain ⟨dm, hdm⟩ : ∃ dm, dl.length = dm := ⟨_, rfl⟩
          simp only [hdm] at hlk ⊢
          have HDM := hide hdm
          have hb3 := hb2.trans ((vstB W2 d1 d2 d3 pa dm pc).mono hb2.size)
          have HB3 := hide (HB.out.trans (hb3.mono HB.out.size))
          have H13 := hide (vstH W2 d1 d2 d3 pa dm pc)
          have HLA := hide (hlk.below (vstB W2 d1 d2 d3 pa dm pc))
          clear hb2 hb3 hlk hdm hD
          go_upto_region 12 with (first | (refine wpList_store_row rfl 36 (.tmp 13) (.tmp 88) rfl W2.heap.size #[.int .i64 d1, .int .i64 d2, .int .i64 d3, .slice pa dm pc] rfl rfl 36 _ (heap_alloc_new _ _) vol_size4 rfl (vol_one _ _ _ _ _ _) ?_))
          generalize (W2.alloc (.cells #[.int .i64 0, .int .i64 0, .int .i64 0, .slice none 0 0] 36)).setRow W2.heap.size #[.int .i64 d1, .int .i64 d2, .int .i64 d3, .slice pa dm pc] = W3 at *
          generalize W2.heap.size = b13 at *
          go_wp2_with fail
          refine (kx_volume (HK0.out.below HB3.out) HRL.out HSL.out.fit.v id).mono ?_
          rintro e9 W4 ⟨qa, qc, rfl, hlk, hb4⟩
          rw [HDD.out] at hlk ⊢
          simp only [HDM.out] at hlk ⊢
          have hb5 := hb4.trans ((vstB W4 d1 d2 d3 qa dm qc).mono hb4.size)
          have HB5 := hide (HB3.out.trans (hb5.mono HB3.out.size))
          have H135 := hide ((hb5.block _ (lt_of_block H13.out)).trans H13.out)
          have H155 := hide (vstH W4 d1 d2 d3 qa dm qc)
          have HLA5 := hide (HLA.out.below hb5)
          have HLB5 := hide (hlk.below (vstB W4 d1 d2 d3 qa dm qc))
          clear hb4 hb5 hlk H13 HLA
          go_upto_region 13 with (first | (refine wpList_store_row rfl 36 (.tmp 15) (.tmp 94) rfl W4.heap.size #[.int .i64 d1, .int .i64 d2, .int .i64 d3, .slice qa dm qc] rfl rfl 36 _ (heap_alloc_new _ _) vol_size4 rfl (vol_one _ _ _ _ _ _) ?_))
          generalize (W4.alloc (.cells #[.int .i64 0, .int .i64 0, .int .i64 0, .slice none 0 0] 36)).setRow W4.heap.size #[.int .i64 d1, .int .i64 d2, .int .i64 d3, .slice qa dm qc] = W5 at *
          generalize W4.heap.size = b15 at *
          go_wp2_with (first | (refine wpList_load_row rfl 36 (.tmp 13) rfl b13 rfl 36 #[.int .i64 d1, .int .i64 d2, .int .i64 d3, .slice pa dm pc] (0, 0) _ H135.out Tryz.underlying36 rfl vol_size4 ?_) | (refine wpList_load_row rfl 36 (.tmp 15) rfl b15 rfl 36 #[.int .i64 d1, .int .i64 d2, .int .i64 d3, .slice qa dm qc] (0, 0) _ H155.out Tryz.underlying36 rfl vol_size4 ?_))
          refine (vol_same_any d1 d2 d3 d1 d2 d3 pa qa dm dm pc qc dl dl W5 HDM.out HDM.out (by have h1 : dl.length ≤ 9 := HLN.out; have h2 := HDM.out; omega) (by have h1 : dl.length ≤ 9 := HLN.out; have h2 := HDM.out; omega) HLA5.out.at HLB5.out.at).mono ?_
          rintro e9 W6 ⟨rfl, hb6⟩
          have htr : (d1 == d1 && (d2 == d2 && (d3 == d3 && decide (dl = dl)))) = true := by simp
          rw [htr]
          have HB6 := hide (HB5.out.trans (hb6.mono HB5.out.size))
          clear hb6 htr
          generalize X.volE id = ve at *
          go_wp2_with fail
          all_goals exact ⟨⟨id + 1, by omega, by omega, rfl, HB6⟩, by simp [kIx]; omega⟩
        · have hdq : decide (id < (8 : Int)) = false := by simpa using hq
          go_wp2_with fail
          refine (ix_volumes (HX.out.below HB.out) (by omega) (inv_ls1 HIV.out)).mono ?_
          rintro e9 W1 ⟨a1, c1, L1, rfl, hc1, hn1, hv1, hi1, hb⟩
          have HB1 := hide (HB.out.trans (hb.mono HB.out.size))
          have HV1 := hide hv1
          have HI1 := hide hi1
          have hL1 : L1 = S.V := volsIs_same hi1 (rel_vols HRL.out HIV.out)
          obtain ⟨l1, hl1⟩ : ∃ l1, L1.length = l1 := ⟨_, rfl⟩
          rw [hl1]
          have HLE := hide hL1
          have HL1 := hide hl1
          clear hb hv1 hi1 hL1 hc1
          go_wp2_with fail
          refine (kx_volumes (HK0.out.below HB1.out)).mono ?_
          rintro e9 W2 ⟨a2, c2, rfl, hc2, hv2, rfl⟩
          have HV2 := hide hv2
          rw [← HLE.out, HL1.out]
          rw [← HLE.out] at HV2 HVN
          clear hc2 hv2
          go_wp2_with fail
          refine (vosame_any (max B1 B) a1 a2 c1 c2 l1 l1 L1 L1 _ HL1.out HL1.out (by have := HVN.out; have := HL1.out; omega) (by have := HVN.out; have := HL1.out; omega) (HV1.out.up (Nat.le_max_left _ _)) (HV2.out.up (Nat.le_max_right _ _)) (volsIs_ls HIV.out HI1.out) (volsIs_ls HIV.out HI1.out)).mono ?_
          rintro e9 W3 ⟨rfl, hb⟩
          rw [show decide (L1 = L1) = true by simp]
          have HB3 := hide (HB1.out.trans (hb.mono HB1.out.size))
          clear hb
          go_wp2_with fail
          refine (ix_next (HX.out.below HB3.out) (by omega) HIV.out.h).mono ?_
          rintro e9 W4 ⟨N, rfl, hn4, _, hb⟩
          have HB4 := hide (HB3.out.trans (hb.mono HB3.out.size))
          have HN4 := hide hn4
          clear hb hn4
          go_wp2_with fail
          refine (kx_next (HK0.out.below HB4.out) HRL.out HIV.out HSL.out.fit.h).mono ?_
          rintro e9 W5 ⟨M, rfl, hn5, rfl⟩
          obtain rfl := nextIs_same HIV.out.h HN4.out hn5
          clear hn5
          go_wp2_with fail
          refine (ix_list (HX.out.below HB4.out) (by omega) ⟨#[]⟩ 1000).mono ?_
          rintro e9 W6 ⟨a3, c3, L3, rfl, hc3, hn3, hs3, hl3, hb⟩
          have HB6 := hide (HB4.out.trans (hb.mono HB4.out.size))
          have HS3 := hide hs3
          have HL3 := hide hl3
          have HN3 := hide hn3
          obtain ⟨l3, hl3e⟩ : ∃ l3, L3.length = l3 := ⟨_, rfl⟩
          rw [hl3e]
          have HLN3 := hide hl3e
          clear hb hs3 hl3 hc3 hn3 hl3e
          go_wp2_with fail
          refine (kx_list (HK0.out.below HB6.out) HRL.out HIV.out HSL.out.fit.e ⟨#[]⟩ 1000).mono ?_
          rintro e9 W7 ⟨a4, c4, L4, rfl, hc4, hn4, hs4, hl4, hb⟩
          obtain rfl := listIs_same HL3.out hl4
          have HB7 := hide (HB6.out.trans (hb.mono HB6.out.size))
          have HS4 := hide hs4
          have HS3b := hide (HS3.out.below hb)
          rw [HLN3.out]
          clear hb hs4 hl4 hc4 hn4
          go_wp2_with fail
          refine (keys_same a3 a4 c3 c4 l3 L3 _ HLN3.out (by have := HLN3.out; have := HN3.out; omega) HS3b.out HS4.out).mono ?_
          rintro e9 W8 ⟨rfl, hb⟩
          have HB8 := hide (HB7.out.trans (hb.mono HB7.out.size))
          clear hb
          go_wp2_with fail
          try go_ret
          exact ⟨rfl, HB8.out⟩
end Go.Proofs.YtonhmihmnkicdaaGreat
