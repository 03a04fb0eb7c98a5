/- What State of a model tells. (Written by genms.py.) -/
import Derived.Test.YtlpibpkbgmcclaaGreatDoorMdListX
import Derived.Test.YtlpibpkbgmcclaaGreatDoorMdSmallX
import Derived.Test.YtlpibpkbgmcclaaGreatDoorMdMemX
namespace Go.Proofs.YtlpibpkbgmcclaaGreatDoor
open Go.RowKit Go.Maps Go.Sort Go.Shelf
set_option linter.unusedVariables false
theorem str_mem {w : World} {b n : Nat} {D0 : DataW Value} (hown : w.ownsMap Tryz.prog 9 hv b n D0) (x : List UInt8) : x ∈ strKeys D0 ↔ Maps.has D0 (.string x) = true := by
  obtain ⟨es', hD', hko⟩ := hown.keysOf
  subst hD'
  have hk : ∀ p ∈ es', ∃ x, p.1 = .string x := fun p hp => by obtain ⟨v, hv⟩ := hko p hp; obtain ⟨x, _, hx, _⟩ := Maps.keyOf_str Tryz.underlying9 hv; exact ⟨x, hx⟩
  show (x ∈ es'.map fun p => strOf p.1) ↔ _
  rw [has_eq, List.any_eq_true, List.mem_map]
  constructor
  · rintro ⟨p, hp', rfl⟩
    obtain ⟨a, ha⟩ := hk p hp'
    exact ⟨p, hp', by rw [ha]; simp [Lit.sameKey, strOf]⟩
  · rintro ⟨p, hp', hs⟩
    obtain ⟨a, ha⟩ := hk p hp'
    rw [ha] at hs
    exact ⟨p, hp', by rw [ha]; simpa [Lit.sameKey, strOf] using hs⟩
theorem all_rising {T : MT} {w : World} {b n : Nat} {D0 : DataW Value} (hT : T.Ok) (hown : w.ownsMap Tryz.prog 9 hv b n D0) (h : Came1 T D0 n) {ss : List (List UInt8)} (hp : ss.Perm (strKeys D0)) : Rising (fun k => (T k).isSome = true) ((ss.mergeSort fun x y => decide (x ≤ y)).map bk) := by
  refine sort_rising ((hp.nodup_iff).2 h.nd) fun x => hp.mem_iff.trans ((str_mem hown x).trans ?_)
  constructor
  · intro hh
    have hok : okS (bk x) := by
      have := h.le _ ((str_mem hown x).2 hh)
      show (bk x).size ≤ _
      rw [bk_size]; exact this
    rw [← h.has _ hok, bk_lit]; exact hh
  · intro hh
    rw [← bk_lit, h.has _ (ok_okS hT hh)]; exact hh
theorem sts_snoc (T : MT) (k : ByteArray) : ∀ A : List ByteArray, sts T (A ++ [k]) = sts T A ++ enS T k
  | [] => by simp [sts]
  | a :: A => by show enS T a ++ sts T (A ++ [k]) = _; rw [sts_snoc T k A]; show _ = (enS T a ++ sts T A) ++ _; rw [ByteArray.append_assoc]
theorem enS_size {T : MT} (hT : T.Ok) (k : ByteArray) : (enS T k).size ≤ 834 := by
  unfold enS
  cases hk : T k with
  | none => simp
  | some y =>
    obtain ⟨v, g⟩ := y
    obtain ⟨h1, h2⟩ := hT k _ hk
    have := h1.2.1
    cases g with
    | true => simp only [if_true]; rw [ByteArray.size_append]; have : (⟨#[33, 32]⟩ : ByteArray).size = 2 := rfl; omega
    | false =>
      simp only [Bool.false_eq_true, if_false]
      simp only [ByteArray.size_append, hexS_size]
      have e1 : (⟨#[61]⟩ : ByteArray).size = 1 := rfl
      have e2 : (⟨#[32]⟩ : ByteArray).size = 1 := rfl
      simp only at h2
      omega
theorem sts_size {T : MT} (hT : T.Ok) : ∀ A : List ByteArray, (sts T A).size ≤ 834 * A.length
  | [] => by simp [sts]
  | a :: A => by show (enS T a ++ sts T A).size ≤ _; rw [ByteArray.size_append]; have := enS_size hT a; have := sts_size hT A; simp only [List.length_cons]; omega
/-- keys in a row of their own -/
def RowS (B : Nat) (A : List ByteArray) (a : Option Addr) (w : World) : Prop := A = [] ∨ ∃ g o cur fr, a = some ⟨g, o, none⟩ ∧ B < g ∧ w.heap[g]? = some (.cells cur 9 fr) ∧ ∀ i s, A[i]? = some s → cur[o + i]? = some (.string s)
theorem RowS.kw {B : Nat} {A : List ByteArray} {a : Option Addr} {w w' : World} (h : RowS B A a w) (k : Kw B B w w') : RowS B A a w' := by
  rcases h with h | ⟨g, o, cur, fr, h1, h2, h3, h4⟩
  · exact .inl h
  · exact .inr ⟨g, o, cur, fr, h1, h2, k.keep g cur _ fr (by omega) (by decide) h3, h4⟩
theorem RowS.of_own {W : World} {B B' m cap : Nat} {a : Option Addr} {A : List (List UInt8)} (h : W.ownsRow B' 9 1 (.slice a m cap) m (A.map encStr)) (hm : A.length = m) (hB : B < B') : RowS B (A.map bk) a W := by
  by_cases h0 : A = []
  · exact .inl (by rw [h0]; rfl)
  · rcases h.2 with ⟨hv, hz⟩ | ⟨g', cap', cur, hv, hb, hg, _⟩
    · cases A with
      | nil => exact absurd rfl h0
      | cons x A => simp at hm; omega
    · injection hv with e1 e2 e3
      subst e1
      refine .inr ⟨g', 0, cur, _, rfl, by omega, hg, fun i s hs => ?_⟩
      rw [List.getElem?_map] at hs
      cases hA : A[i]? with
      | none => rw [hA] at hs; cases hs
      | some x =>
        rw [hA] at hs
        simp at hs
        have hi : i < A.length := (List.getElem?_eq_some_iff.1 hA).1
        have hc := h.cellAt i (by omega)
        rw [List.getElem?_map, hA] at hc
        unfold World.cell? at hc
        simp only [hg] at hc
        rw [Nat.zero_add]
        rw [← hs]
        exact hc
theorem RowS.at {B : Nat} {A : List ByteArray} {a : Option Addr} {w : World} (h : RowS B A a w) {i : Nat} {s : ByteArray} (hs : A[i]? = some s) : ∃ g o, a = some ⟨g, o, none⟩ ∧ w.cell? ⟨g, o + i, none⟩ = some (.string s) := by
  rcases h with h | ⟨g, o, cur, fr, h1, h2, h3, h4⟩
  · rw [h] at hs; simp at hs
  · refine ⟨g, o, h1, ?_⟩
    unfold World.cell?
    rw [h3]
    exact h4 i s hs
theorem sorts_in (m : Nat) : AnyZ.SortsIn Tryz.prog Tryz.sortedS_ren Fence.wide m :=
  ⟨fun blk off cap ss W hH hblk hsz => callsIn_wide.2 (Tryz.slices_Sort_string blk off cap ss W hH hblk hsz), fun p cap W => callsIn_wide.2 (Tryz.slices_Sort_string_none p cap W)⟩
theorem keys_calls (mb : Option Nat) (W : World) : Calls Tryz.prog 24 #[.map mb] W fun e w' => e = .returned (.func (.func 39) #[] #[.pointer (some ⟨W.heap.size, 0, none⟩)]) ∧ w' = W.alloc (.cells #[.map mb] 42) :=
  (callsIn_wide (n := 5)).1 (AnyZ.keys_in Tryz.keysH Fence.wide 5 trivial rfl mb W)
set_option maxHeartbeats 4000000 in
theorem sorted_calls {W : World} {b n : Nat} {D0 : DataW Value} (hown : W.ownsMap Tryz.prog 9 hv b n D0) (hn : n ≤ 1000000) : Calls Tryz.prog 23 #[.func (.func 39) #[] #[.pointer (some ⟨W.heap.size, 0, none⟩)]] (W.alloc (.cells #[.map (some b)] 42)) fun e w' => ∃ (v : Value) (ss : List (List UInt8)), e = .returned v ∧ ss.Perm (strKeys D0) ∧
      w'.ownsRow (W.heap.size + 1) 9 1 v ss.length ((ss.mergeSort (fun x y => decide (x ≤ y))).map encStr) ∧ (v = .slice none 0 0 ↔ ss = []) ∧ Below (W.heap.size + 1) (W.alloc (.cells #[.map (some b)] 42)) w' := by
  have hbl := hown.lt
  have hsz := hown.size_le
  have hseq : SeqGives Fence.wide 2 Tryz.prog 39 #[.pointer (some ⟨W.heap.size, 0, none⟩)] encStr (fun ss => ss.Perm (strKeys D0)) (Maps.size D0) (W.alloc (.cells #[.map (some b)] 42)) :=
    AnyZ.keys_gives (ρ := Tryz.keysH_ren) { Tryz.keysH with } Fence.wide _ trivial rfl (by omega) W.heap.size b n D0 (R := hv) _ (by simp) (by simp) (by
      obtain ⟨es, clock, hb, Ft, hs, hD⟩ := hown
      exact ⟨es, clock, (Below.heap_alloc _ _ b hbl).trans hb, Ft, hs, hD⟩)
  have cS := AnyZ.sorted_in Tryz.sortedS Fence.wide 5 trivial trivial trivial trivial rfl (by omega) (sorts_in _) (enters_of Tryz.func38 (by kernel_rfl) rfl) 39 #[.pointer (some ⟨W.heap.size, 0, none⟩)] trivial (enters_of Tryz.func39 (by kernel_rfl) rfl) _ _ (by unfold maxLen; omega) (by omega) _ hseq
  have c2 := (callsIn_wide (n := 5)).1 cS
  rw [World.size_alloc] at c2
  exact c2
set_option maxRecDepth 100000 in
set_option maxHeartbeats 16000000 in
theorem md_state {w : World} {x b n : Nat} {T : MT} (h : MdAt w x b n T) (hn : n ≤ 1000) : Calls Tryz.prog 10 #[.pointer (some ⟨x, 0, none⟩)] w fun e w' => ∃ s, e = .returned (.string s) ∧ StIs T s ∧ Below w.heap.size w w' := by
  have hb1 : Below w.heap.size w (w.alloc (.cells #[.pointer none, .slice none 0 0] 59)) := (Below.refl _ _).alloc (Nat.le_refl _) _
  have HW := hide (wt_new w)
  have HM := hide (h.below hb1)
  have HB := hide hb1
  have HOK := hide h.ok
  have HM0 := hide h
  clear h hb1
  have cx := HM.out.c0
  go_enter Tryz.func10, Tryz.ntmps10
  go_upto_region 4 with fail
  generalize hW1 : w.alloc (.cells #[.pointer none, .slice none 0 0] 59) = w1 at *
  clear hW1
  obtain ⟨D0, hown, hcame⟩ := HM.out.came
  have hsc := sorted_calls hown (by omega)
  have HSC := hide hsc
  have HOW := hide hown
  have HCA := hide hcame
  clear hsc hown hcame
  go_wp2_with fail
  refine (keys_calls _ _).mono ?_
  rintro e w2 ⟨rfl, rfl⟩
  go_wp2_with fail
  refine HSC.out.mono ?_
  rintro e w3 ⟨v, ss, rfl, hp, hrow, _, hb⟩
  have hb3 : Below w1.heap.size w1 w3 := (((Below.refl _ w1).alloc (Nat.le_refl _) (.cells #[.map (some b)] 42))).trans (hb.mono (by omega))
  have hA := all_rising HOK.out HOW.out HCA.out hp
  obtain ⟨a, cap, rfl, hcap⟩ : ∃ a cap, v = .slice a ss.length cap ∧ ss.length ≤ cap := by
    rcases hrow.2 with ⟨rfl, hz⟩ | ⟨g, cap, cur, rfl, _, _, q, _⟩
    · exact ⟨none, 0, by rw [hz], by omega⟩
    · exact ⟨_, cap, rfl, q⟩
  have hml : ss.length ≤ 1000 := by have := HCA.out.len; have := hp.length_eq; omega
  have hRS := RowS.of_own (B := w.heap.size) hrow (by simp) (by have := HB.out.size; have := HW.out.lt; omega)
  have hAl : (((ss.mergeSort fun x y => decide (x ≤ y))).map bk).length = ss.length := by simp
  generalize ((ss.mergeSort fun x y => decide (x ≤ y))).map bk = A at *
  generalize ss.length = m at *
  have HWT := hide (HW.out.below hb3)
  have HM3 := hide (HM.out.below hb3)
  have HB3 := hide (HB.out.trans (hb3.mono HB.out.size))
  have HA := hide hA
  have HAL := hide hAl
  have HRS := hide hRS
  have hcapI : (m : Int) ≤ (cap : Int) := by omega
  clear hrow hp hb hb3 hA hRS hAl hcap HSC HOW HCA cx HM HW HB
  go_wp2_with fail
  go_loopw [16] (fun y wr => ∃ k : Nat, k ≤ m ∧ y = .int .i64 k ∧ Below w3.heap.size w3 w3 ∧ Below w.heap.size w wr ∧ Wt w.heap.size w.heap.size (sts T (A.take k)) wr ∧ RowS w.heap.size A a wr) (fun y _ => m - (intOf y).toNat)
  case atStart => exact ⟨0, by omega, rfl, Below.refl _ _, HB3.out, by simpa [sts] using HWT.out, HRS.out⟩
  case round =>
    obtain ⟨k, hk, rfl, _, hbw, hwt, hrs⟩ := hrel
    by_cases hlt : k < m
    · obtain ⟨s, hs⟩ : ∃ s, A[k]? = some s := ⟨_, List.getElem?_eq_getElem (by have := HAL.out; omega)⟩
      obtain ⟨g, o, rfl, hc⟩ := hrs.at hs
      have hTs := (HA.out.2 s).1 (List.mem_of_getElem? hs)
      obtain ⟨⟨yv, yg⟩, hy⟩ := Option.isSome_iff_exists.1 hTs
      have hks := HOK.out _ _ hy
      have hk32 := hks.1.2.1
      have hv4 : yv.size ≤ 400 := hks.2
      have hss := sts_size HOK.out (A.take k)
      rw [List.length_take] at hss
      have htk : sts T (A.take (k + 1)) = sts T (A.take k) ++ enS T s := by
        rw [← sts_snoc, List.take_add_one, hs]; rfl
      have HTK := hide htk
      have HBW := hide hbw
      have HWT1 := hide hwt
      have HRS1 := hide hrs
      have HY := hide hy
      have HSS : Hid ((sts T (A.take k)).size ≤ 834000) := by show _ ≤ _; omega
      have hk0 : (0 : Int) ≤ (k : Int) := Int.natCast_nonneg _
      have hkn : (k : Int) < (m : Int) := by omega
      clear hs hTs hks hss htk hbw hwt hrs hy
      go_wp2_with fail
      refine (wstr_any w.heap.size w.heap.size _ s _ HWT1.out (by have := HSS.out; omega) HBW.out.size).mono ?_
      rintro e w4 ⟨rfl, hw4, hk4⟩
      have HW4 := hide hw4
      have HB4 := hide (HBW.out.trans hk4.low)
      have HRS4 := hide (HRS1.out.kw hk4)
      clear hw4 hk4 hc
      have HM4 := hide (HM0.out.below HB4.out)
      have cx4 := HM4.out.c0
      have hlk : (Instr.lookup 42 (.map (some b)) (.string s) false).run Tryz.prog w4 = .ok (.agg #[.string yv, .bool yg]) w4 := by
        have := HM4.out.m.look1 ke_str Tryz.underlying42 (hd_zero w4) (ok_okS HOK.out (by rw [HY.out]; rfl))
        rw [HY.out] at this
        exact this
      have HN : Hid ((w4.alloc (.cells #[.string ⟨#[]⟩, .bool false] 65)).heap[w4.heap.size]? = some (.cells #[.string ⟨#[]⟩, .bool false] 65 (0, 0))) := heap_alloc_new _ _
      have HX : Hid (((w4.alloc (.cells #[.string ⟨#[]⟩, .bool false] 65)).setRow w4.heap.size #[.string yv, .bool yg]).heap[w4.heap.size]? = some (.cells #[.string yv, .bool yg] 65 (0, 0))) := setRow_heap _ _ _ _ _ _ HN.out
      have c0 : ((w4.alloc (.cells #[.string ⟨#[]⟩, .bool false] 65)).setRow w4.heap.size #[.string yv, .bool yg]).cell? ⟨w4.heap.size, 0, none⟩ = some (.string yv) := cell_of_block HX.out
      have c1 : ((w4.alloc (.cells #[.string ⟨#[]⟩, .bool false] 65)).setRow w4.heap.size #[.string yv, .bool yg]).cell? ⟨w4.heap.size, 1, none⟩ = some (.bool yg) := cell_of_block HX.out
      have hbs : Below w4.heap.size w4 ((w4.alloc (.cells #[.string ⟨#[]⟩, .bool false] 65)).setRow w4.heap.size #[.string yv, .bool yg]) := below_setRow ((Below.refl _ _).alloc (Nat.le_refl _) _) (Nat.le_refl _) _
      have HW5 := hide (HW4.out.below hbs)
      have HB5 := hide (HB4.out.trans (hbs.mono HB4.out.size))
      have HRS5 := hide (HRS4.out.kw (Kw.of_below hbs HB4.out.size))
      clear hbs
      cases yg with
      | true =>
        go_wp2_with (first | (refine wpList_store_row rfl 65 (.tmp 6) (.tmp 27) rfl w4.heap.size #[.string yv, .bool true] rfl rfl 65 _ HN.out hd_info rfl (hd_one _ _) ?_))
        refine (wstr_any w.heap.size w.heap.size (sts T (A.take k) ++ s) ⟨#[33, 32]⟩ _ HW5.out (by rw [ByteArray.size_append]; have : (⟨#[33, 32]⟩ : ByteArray).size = 2 := rfl; have := HSS.out; omega) HB5.out.size).mono ?_
        rintro e w6 ⟨rfl, hw6, hk6⟩
        have HW6 := hide hw6
        have HB6 := hide (HB5.out.trans hk6.low)
        have HRS6 := hide (HRS5.out.kw hk6)
        clear hw6 hk6
        go_wp2_with fail
        go_roundw
        case rel =>
          refine ⟨k + 1, by omega, by go_num, Below.refl _ _, HB6.out, ?_, HRS6.out⟩
          have he : enS T s = s ++ ⟨#[33, 32]⟩ := by unfold enS; rw [HY.out]; rfl
          rw [HTK.out, he, ← ByteArray.append_assoc]
          exact HW6.out
        case measure => simp [intOf]; omega
      | false =>
        go_wp2_with (first | (refine wpList_store_row rfl 65 (.tmp 6) (.tmp 27) rfl w4.heap.size #[.string yv, .bool false] rfl rfl 65 _ HN.out hd_info rfl (hd_one _ _) ?_))
        refine (hex_any yv _ (by omega)).mono ?_
        rintro e w6 ⟨rfl, hb6⟩
        have HW6 := hide (HW5.out.below hb6)
        have HB6 := hide (HB5.out.trans (hb6.mono HB5.out.size))
        have HRS6 := hide (HRS5.out.kw (Kw.of_below hb6 HB5.out.size))
        clear hb6
        have hxz := hexS_size yv
        have HE : Hid (enS T s = s ++ (⟨#[61]⟩ ++ hexS yv ++ ⟨#[32]⟩)) := by show _ = _; unfold enS; rw [HY.out]; rfl
        obtain ⟨X, hX2⟩ : ∃ X, mkS (2 * yv.size) (hx (bt yv)) = X := ⟨_, rfl⟩
        have hX : hexS yv = X := hX2
        have HXE := hide hX
        obtain ⟨Z, hZ⟩ : ∃ Z, (⟨#[61]⟩ ++ X : ByteArray) = Z := ⟨_, rfl⟩
        obtain ⟨Y, hY⟩ : ∃ Y, Z ++ (⟨#[32]⟩ : ByteArray) = Y := ⟨_, rfl⟩
        have hs1 : ∀ wx, (Op.stringOp .add ⟨#[61]⟩ X).run Tryz.prog wx = .ok (.string Z) wx := fun wx => by rw [← hZ]; exact run_string_add_sum wx _ _ (by have : (⟨#[61]⟩ : ByteArray).size = 1 := rfl; rw [← hX]; omega)
        have hzz : Z.size = 1 + X.size := by rw [← hZ, ByteArray.size_append]; rfl
        have hs2 : ∀ wx, (Op.stringOp .add Z ⟨#[32]⟩).run Tryz.prog wx = .ok (.string Y) wx := fun wx => by rw [← hY]; exact run_string_add_sum wx _ _ (by have : (⟨#[32]⟩ : ByteArray).size = 1 := rfl; rw [hzz, ← hX]; omega)
        have HXS : Hid (Y.size ≤ 802) := by show _ ≤ _; rw [← hY, ByteArray.size_append, hzz, ← hX]; have : (⟨#[32]⟩ : ByteArray).size = 1 := rfl; omega
        have HYE : Hid (⟨#[61]⟩ ++ X ++ ⟨#[32]⟩ = Y) := by show _ = _; rw [hZ, hY]
        rw [hX] at HE
        rw [hX2]
        clear hX hX2 hxz hzz hZ hY
        go_wp2_with fail
        refine (wstr_any w.heap.size w.heap.size (sts T (A.take k) ++ s) Y _ HW6.out (by rw [ByteArray.size_append]; have := HXS.out; have := HSS.out; omega) HB6.out.size).mono ?_
        rintro e w7 ⟨rfl, hw7, hk7⟩
        have HW7 := hide hw7
        have HB7 := hide (HB6.out.trans hk7.low)
        have HRS7 := hide (HRS6.out.kw hk7)
        clear hw7 hk7
        go_wp2_with fail
        go_roundw
        case rel =>
          refine ⟨k + 1, by omega, by go_num, Below.refl _ _, HB7.out, ?_, HRS7.out⟩
          rw [HTK.out, HE.out, HYE.out, ← ByteArray.append_assoc]
          exact HW7.out
        case measure => simp [intOf]; omega
    · have hd : decide ((k : Int) < (m : Int)) = false := by simp; omega
      have hkm : A.take k = A := List.take_of_length_le (by have := HAL.out; omega)
      rw [hkm] at hwt
      have HWT2 := hide hwt
      have HBW := hide hbw
      clear hwt hbw hrs hkm
      go_wp2_with fail
      refine (Tryz.Builder_String_any w.heap.size w.heap.size (sts T A).data.toList _ HWT2.out HBW.out.size).mono ?_
      rintro e w9 ⟨rfl, hb9⟩
      have HB9 := hide (HBW.out.trans hb9)
      clear hb9
      go_wp2_with fail
      try go_ret
      exact ⟨_, rfl, ⟨A, HA.out, by simp⟩, HB9.out⟩
set_option maxRecDepth 100000 in
set_option maxHeartbeats 4000000 in
theorem md_state_nil (w : World) : Calls Tryz.prog 10 #[.pointer none] w fun e w' => e = .returned (.string ⟨#[]⟩) ∧ Below w.heap.size w w' := by
  go_enter Tryz.func10, Tryz.ntmps10
  go_wp2_with fail
  try go_ret
  exact ⟨rfl, Below.refl _ _⟩
end Go.Proofs.YtlpibpkbgmcclaaGreatDoor
