/- What the law's live answers: the document's examples. (Written by genlv.py.) -/
import Derived.Test.YtlpibpkbgmcclaaGreatDoorMdDoX
import Derived.Test.YtlpibpkbgmcclaaGreatDoorMdState
import Derived.Test.YtlpibpkbgmcclaaGreatDoorMdCalm
namespace Go.Proofs.YtlpibpkbgmcclaaGreatDoor
open Go.RowKit
set_option linter.unusedVariables false
def aS : ByteArray := ⟨#[97]⟩
def hiS : ByteArray := ⟨#[104, 105]⟩
theorem a_key : keyOk aS := ⟨by decide, by decide, by show ∀ p, p < aS.size → 33 ≤ bt aS p ∧ bt aS p ≤ 126; decide⟩
theorem small_nsz {k v : ByteArray} (hk : k.size ≤ 32) (hv : v.size ≤ 200) : nsz ⟨k, v⟩ ≤ 384 := by
  have h1 := textS_le hk (by omega)
  have h2 := textS_le hv (by omega)
  show (textS k).size + (textS v).size + 32 ≤ 384
  omega
theorem lq1 : rqE ⟨0, aS, hiS⟩ = 0 := by
  unfold rqE
  rw [if_neg (by decide), if_neg (by decide), ckE_zero]
  exact ⟨a_key, small_nsz (by decide) (by decide)⟩
theorem lq2 {d : Int} (h : d = 0 ∨ d = 1 ∨ d = 2) : rqE ⟨d, aS, ByteArray.empty⟩ = 0 := by
  rcases h with rfl | rfl | rfl <;> (unfold rqE; rw [if_neg (by decide), if_neg (by decide), ckE_zero]; exact ⟨a_key, small_nsz (k := aS) (v := ByteArray.empty) (by decide) (by decide)⟩)
theorem lq9 : rqE ⟨9, ByteArray.empty, ByteArray.empty⟩ = 1 := by unfold rqE; rw [if_pos (by decide)]
def lT1 : MT := T0.set aS ⟨hiS, false⟩
def lT2 : MT := lT1.set aS ⟨ByteArray.empty, true⟩
theorem lT1_a : lT1 aS = some ⟨hiS, false⟩ := set_hit _ _ _
theorem lT2_a : lT2 aS = some ⟨ByteArray.empty, true⟩ := set_hit _ _ _
theorem lT1_v : lT1.val aS = some hiS := val_of lT1_a
theorem lT2_v : lT2.val aS = none := by unfold MT.val; rw [lT2_a]; rfl
theorem st1 : T0.code ⟨0, aS, hiS⟩ = 0 ∧ T0.next ⟨0, aS, hiS⟩ = lT1 := by
  refine ⟨?_, ?_⟩
  · rw [code_ok lq1, if_pos rfl]; rfl
  · rw [next_ok lq1, if_pos ⟨rfl, rfl⟩]; rfl
theorem st2 : lT1.code ⟨1, aS, ByteArray.empty⟩ = 0 ∧ lT1.ans ⟨1, aS, ByteArray.empty⟩ = hiS ∧ lT1.next ⟨1, aS, ByteArray.empty⟩ = lT1 := by
  have h := lq2 (d := 1) (by omega)
  refine ⟨?_, ?_, ?_⟩
  · rw [code_ok h, if_neg (by decide), if_neg (by decide), lT1_v]; rfl
  · rw [ans_ok h, lT1_v]; rfl
  · rw [next_ok h, if_neg (fun q => by cases q.1), if_neg (fun q => by cases q.1)]
theorem st3 : lT1.code ⟨2, aS, ByteArray.empty⟩ = 0 ∧ lT1.next ⟨2, aS, ByteArray.empty⟩ = lT2 := by
  have h := lq2 (d := 2) (by omega)
  refine ⟨?_, ?_⟩
  · rw [code_ok h, if_neg (by decide), if_neg (by decide), lT1_v]; rfl
  · rw [next_ok h, if_neg (fun q => by cases q.1), if_pos ⟨rfl, by rw [lT1_v]; rfl⟩]; rfl
theorem st4 : lT2.code ⟨0, aS, ByteArray.empty⟩ = 13 ∧ lT2.next ⟨0, aS, ByteArray.empty⟩ = lT2 := by
  have h := lq2 (d := 0) (by omega)
  refine ⟨?_, ?_⟩
  · rw [code_ok h, if_pos rfl, lT2_a]; rfl
  · rw [next_ok h, if_neg (fun q => by rw [lT2_a] at q; cases q.2), if_neg (fun q => by cases q.1)]
theorem st5 : lT2.code ⟨1, aS, ByteArray.empty⟩ = 9 ∧ lT2.next ⟨1, aS, ByteArray.empty⟩ = lT2 := by
  have h := lq2 (d := 1) (by omega)
  refine ⟨?_, ?_⟩
  · rw [code_ok h, if_neg (by decide), if_neg (by decide), lT2_v]; rfl
  · rw [next_ok h, if_neg (fun q => by cases q.1), if_neg (fun q => by cases q.1)]
theorem st6 : lT2.code ⟨9, ByteArray.empty, ByteArray.empty⟩ = 1 ∧ lT2.next ⟨9, ByteArray.empty, ByteArray.empty⟩ = lT2 := by
  refine ⟨?_, ?_⟩
  · unfold MT.code; rw [if_pos (by rw [lq9]; decide), lq9]
  · unfold MT.next; rw [if_neg (by rw [lq9]; decide)]
theorem one_rising {T : MT} {h : Hd} (hT : T = T0.set aS h) : Rising (fun k => (T k).isSome = true) [aS] := by
  subst hT
  refine ⟨List.pairwise_singleton _ _, fun k => ?_⟩
  rw [List.mem_singleton]
  constructor
  · rintro rfl; rw [set_hit]; rfl
  · intro hk
    have hk : (T0.set aS h k).isSome = true := hk
    by_cases e : k = aS
    · exact e
    · rw [set_miss _ _ e] at hk; cases hk
theorem lT2_is : lT2 = T0.set aS ⟨ByteArray.empty, true⟩ := by
  funext x
  unfold lT2 lT1 MT.set
  by_cases e : x = aS
  · rw [if_pos e, if_pos e]
  · rw [if_neg e, if_neg e, if_neg e]
theorem ls1 {s : ByteArray} (h : StIs lT1 s) : s = ⟨#[97, 61, 54, 56, 54, 57, 32]⟩ := by
  obtain ⟨A, hA, rfl⟩ := h
  rw [rising_eq hA (one_rising (T := lT1) rfl)]
  show enS lT1 aS ++ sts lT1 [] = _
  unfold enS
  rw [lT1_a]
  show (aS ++ (⟨#[61]⟩ ++ hexS hiS ++ ⟨#[32]⟩)) ++ ByteArray.empty = _
  decide +kernel
theorem ls2 {s : ByteArray} (h : StIs lT2 s) : s = ⟨#[97, 33, 32]⟩ := by
  obtain ⟨A, hA, rfl⟩ := h
  rw [rising_eq hA (one_rising (T := lT2) lT2_is)]
  show enS lT2 aS ++ sts lT2 [] = _
  unfold enS
  rw [lT2_a]
  show (aS ++ ⟨#[33, 32]⟩) ++ ByteArray.empty = _
  decide +kernel
/-- an answer, laid in a block of its own -/
theorem rs_laid (W : World) (c : Int) (v : ByteArray) (a : Option Addr) (n p : Nat) : RsB W.heap.size 0 ⟨#[]⟩ none 0 0 (W.alloc (.cells #[.int .i64 0, .string ⟨#[]⟩, .slice none 0 0] 37)) ∧ RsB W.heap.size c v a n p ((W.alloc (.cells #[.int .i64 0, .string ⟨#[]⟩, .slice none 0 0] 37)).setRow W.heap.size #[.int .i64 c, .string v, .slice a n p]) ∧ Below W.heap.size W ((W.alloc (.cells #[.int .i64 0, .string ⟨#[]⟩, .slice none 0 0] 37)).setRow W.heap.size #[.int .i64 c, .string v, .slice a n p]) :=
  ⟨heap_alloc_new _ _, setRow_heap _ _ _ _ _ _ (heap_alloc_new _ _), below_setRow ((Below.refl _ _).alloc (Nat.le_refl _) _) (Nat.le_refl _) _⟩
set_option maxRecDepth 100000 in
set_option maxHeartbeats 32000000 in
theorem live_any (w : World) (hK : KM w) : Calls Tryz.prog 4 #[] w fun e w' => e = .returned (.bool true) ∧ Below w.heap.size w w' := by
  have HK0 := hide hK
  have S8 := hide (fun W => md_silent 8 W)
  have S9 := hide (fun W => md_silent 9 W)
  clear hK
  go_enter Tryz.func4, Tryz.ntmps4
  go_wp2_with fail
  refine (md_new _).mono ?_
  rintro e W0 ⟨rfl, hm, hb⟩
  have HM0 := hide hm
  have HB0 := hide hb
  clear hm hb
  go_wp2_with fail
  refine (md_do HM0.out (by omega) (HK0.out.below HB0.out) ⟨0, aS, hiS⟩ (by decide) (by decide)).mono ?_
  rintro e V1 hP
  obtain ⟨a1, c1, L1, he1, _⟩ := hP.ex
  rw [st1.1] at he1
  generalize T0.ans ⟨0, aS, hiS⟩ = v1 at he1
  subst he1
  have hm1 := hP.m
  rw [st1.2] at hm1
  have hb1 : Below w.heap.size w V1 := hP.b.below HB0.out (by omega) HB0.out.size
  obtain ⟨hz1, hr1, hs1⟩ := rs_laid V1 0 v1 a1 L1.length c1
  have HZ1 := hide hz1
  have HR1' := hide hr1
  have HB1 := hide (hb1.trans (hs1.mono hb1.size))
  have HM1 := hide (hm1.below hs1)
  have hn1 : V1.heap.size ≠ w.heap.size := by have := hb1.size; have := HM0.out.blt; have := HM0.out.blt; have := hP.b.size; omega
  have HN1 := hide hn1
  have HR1 := HR1'
  clear HR1'
  clear hP hm1 hb1 hz1 hr1 hs1 hn1
  go_wp2_with (first | (refine wpList_store_row rfl 37 (.tmp 2) (.tmp 14) rfl V1.heap.size #[.int .i64 0, .string v1, .slice a1 L1.length c1] rfl rfl 37 _ HZ1.out rs_info rfl (rs_one _ _ _ _ _) ?_))
  generalize hWE1 : ((V1.alloc (.cells #[.int .i64 0, .string ⟨#[]⟩, .slice none 0 0] 37)).setRow V1.heap.size #[.int .i64 0, .string v1, .slice a1 L1.length c1]) = W1 at *
  clear hWE1 HZ1
  generalize V1.heap.size = p1 at *
  refine (md_do HM1.out (by omega) (HK0.out.below HB1.out) ⟨1, aS, ByteArray.empty⟩ (by decide) (by decide)).mono ?_
  rintro e V2 hP
  obtain ⟨a2, c2, L2, he2, _⟩ := hP.ex
  rw [st2.1, st2.2.1] at he2
  simp only [hiS] at he2
  subst he2
  have hm2 := hP.m
  rw [st2.2.2] at hm2
  have hb2 : Below w.heap.size w V2 := hP.b.below HB1.out (by omega) HB1.out.size
  obtain ⟨hz2, hr2, hs2⟩ := rs_laid V2 0 ⟨#[104, 105]⟩ a2 L2.length c2
  have HZ2 := hide hz2
  have HR2' := hide hr2
  have HB2 := hide (hb2.trans (hs2.mono hb2.size))
  have HM2 := hide (hm2.below hs2)
  have HR12 := hide ((hs2.block _ (lt_of_block (hP.b.keep HR1.out HN1.out))).trans (hP.b.keep HR1.out HN1.out))
  clear HR1
  have HR1 := HR12
  clear HR12
  have hn2 : V2.heap.size ≠ w.heap.size := by have := hb2.size; have := HM0.out.blt; have := HM1.out.blt; have := hP.b.size; omega
  have HN2 := hide hn2
  have HR2 := HR2'
  clear HR2'
  clear hP hm2 hb2 hz2 hr2 hs2 hn2
  go_wp2_with (first | (refine wpList_store_row rfl 37 (.tmp 3) (.tmp 17) rfl V2.heap.size #[.int .i64 0, .string ⟨#[104, 105]⟩, .slice a2 L2.length c2] rfl rfl 37 _ HZ2.out rs_info rfl (rs_one _ _ _ _ _) ?_))
  generalize hWE2 : ((V2.alloc (.cells #[.int .i64 0, .string ⟨#[]⟩, .slice none 0 0] 37)).setRow V2.heap.size #[.int .i64 0, .string ⟨#[104, 105]⟩, .slice a2 L2.length c2]) = W2 at *
  clear hWE2 HZ2
  generalize V2.heap.size = p2 at *
  refine (md_state HM2.out (by omega)).mono ?_
  rintro e W2s ⟨s1, rfl, hs1, hbs⟩
  obtain rfl := ls1 hs1
  have HMs := hide (HM2.out.below hbs)
  have HBs := hide (HB2.out.trans (hbs.mono HB2.out.size))
  have HR1s := hide ((hbs.block _ (lt_of_block HR1.out)).trans HR1.out)
  clear HR1
  have HR1 := HR1s
  clear HR1s
  have HR2s := hide ((hbs.block _ (lt_of_block HR2.out)).trans HR2.out)
  clear HR2
  have HR2 := HR2s
  clear HR2s
  clear hs1 hbs HM2 HB2
  have HM2 := HMs
  have HB2 := HBs
  go_wp2_with fail
  refine (md_do HM2.out (by omega) (HK0.out.below HB2.out) ⟨2, aS, ByteArray.empty⟩ (by decide) (by decide)).mono ?_
  rintro e V3 hP
  obtain ⟨a3, c3, L3, he3, _⟩ := hP.ex
  rw [st3.1] at he3
  generalize lT1.ans ⟨2, aS, ByteArray.empty⟩ = v3 at he3
  subst he3
  have hm3 := hP.m
  rw [st3.2] at hm3
  have hb3 : Below w.heap.size w V3 := hP.b.below HB2.out (by omega) HB2.out.size
  obtain ⟨hz3, hr3, hs3⟩ := rs_laid V3 0 v3 a3 L3.length c3
  have HZ3 := hide hz3
  have HR3' := hide hr3
  have HB3 := hide (hb3.trans (hs3.mono hb3.size))
  have HM3 := hide (hm3.below hs3)
  have HR13 := hide ((hs3.block _ (lt_of_block (hP.b.keep HR1.out HN1.out))).trans (hP.b.keep HR1.out HN1.out))
  clear HR1
  have HR1 := HR13
  clear HR13
  have HR23 := hide ((hs3.block _ (lt_of_block (hP.b.keep HR2.out HN2.out))).trans (hP.b.keep HR2.out HN2.out))
  clear HR2
  have HR2 := HR23
  clear HR23
  have hn3 : V3.heap.size ≠ w.heap.size := by have := hb3.size; have := HM0.out.blt; have := HM2.out.blt; have := hP.b.size; omega
  have HN3 := hide hn3
  have HR3 := HR3'
  clear HR3'
  clear hP hm3 hb3 hz3 hr3 hs3 hn3
  go_wp2_with (first | (refine wpList_store_row rfl 37 (.tmp 5) (.tmp 22) rfl V3.heap.size #[.int .i64 0, .string v3, .slice a3 L3.length c3] rfl rfl 37 _ HZ3.out rs_info rfl (rs_one _ _ _ _ _) ?_))
  generalize hWE3 : ((V3.alloc (.cells #[.int .i64 0, .string ⟨#[]⟩, .slice none 0 0] 37)).setRow V3.heap.size #[.int .i64 0, .string v3, .slice a3 L3.length c3]) = W3 at *
  clear hWE3 HZ3
  generalize V3.heap.size = p3 at *
  refine (md_do HM3.out (by omega) (HK0.out.below HB3.out) ⟨0, aS, ByteArray.empty⟩ (by decide) (by decide)).mono ?_
  rintro e V4 hP
  obtain ⟨a4, c4, L4, he4, _⟩ := hP.ex
  rw [st4.1] at he4
  generalize lT2.ans ⟨0, aS, ByteArray.empty⟩ = v4 at he4
  subst he4
  have hm4 := hP.m
  rw [st4.2] at hm4
  have hb4 : Below w.heap.size w V4 := hP.b.below HB3.out (by omega) HB3.out.size
  obtain ⟨hz4, hr4, hs4⟩ := rs_laid V4 13 v4 a4 L4.length c4
  have HZ4 := hide hz4
  have HR4' := hide hr4
  have HB4 := hide (hb4.trans (hs4.mono hb4.size))
  have HM4 := hide (hm4.below hs4)
  have HR14 := hide ((hs4.block _ (lt_of_block (hP.b.keep HR1.out HN1.out))).trans (hP.b.keep HR1.out HN1.out))
  clear HR1
  have HR1 := HR14
  clear HR14
  have HR24 := hide ((hs4.block _ (lt_of_block (hP.b.keep HR2.out HN2.out))).trans (hP.b.keep HR2.out HN2.out))
  clear HR2
  have HR2 := HR24
  clear HR24
  have HR34 := hide ((hs4.block _ (lt_of_block (hP.b.keep HR3.out HN3.out))).trans (hP.b.keep HR3.out HN3.out))
  clear HR3
  have HR3 := HR34
  clear HR34
  have hn4 : V4.heap.size ≠ w.heap.size := by have := hb4.size; have := HM0.out.blt; have := HM3.out.blt; have := hP.b.size; omega
  have HN4 := hide hn4
  have HR4 := HR4'
  clear HR4'
  clear hP hm4 hb4 hz4 hr4 hs4 hn4
  go_wp2_with (first | (refine wpList_store_row rfl 37 (.tmp 6) (.tmp 25) rfl V4.heap.size #[.int .i64 13, .string v4, .slice a4 L4.length c4] rfl rfl 37 _ HZ4.out rs_info rfl (rs_one _ _ _ _ _) ?_))
  generalize hWE4 : ((V4.alloc (.cells #[.int .i64 0, .string ⟨#[]⟩, .slice none 0 0] 37)).setRow V4.heap.size #[.int .i64 13, .string v4, .slice a4 L4.length c4]) = W4 at *
  clear hWE4 HZ4
  generalize V4.heap.size = p4 at *
  refine (md_do HM4.out (by omega) (HK0.out.below HB4.out) ⟨1, aS, ByteArray.empty⟩ (by decide) (by decide)).mono ?_
  rintro e V5 hP
  obtain ⟨a5, c5, L5, he5, _⟩ := hP.ex
  rw [st5.1] at he5
  generalize lT2.ans ⟨1, aS, ByteArray.empty⟩ = v5 at he5
  subst he5
  have hm5 := hP.m
  rw [st5.2] at hm5
  have hb5 : Below w.heap.size w V5 := hP.b.below HB4.out (by omega) HB4.out.size
  obtain ⟨hz5, hr5, hs5⟩ := rs_laid V5 9 v5 a5 L5.length c5
  have HZ5 := hide hz5
  have HR5' := hide hr5
  have HB5 := hide (hb5.trans (hs5.mono hb5.size))
  have HM5 := hide (hm5.below hs5)
  have HR15 := hide ((hs5.block _ (lt_of_block (hP.b.keep HR1.out HN1.out))).trans (hP.b.keep HR1.out HN1.out))
  clear HR1
  have HR1 := HR15
  clear HR15
  have HR25 := hide ((hs5.block _ (lt_of_block (hP.b.keep HR2.out HN2.out))).trans (hP.b.keep HR2.out HN2.out))
  clear HR2
  have HR2 := HR25
  clear HR25
  have HR35 := hide ((hs5.block _ (lt_of_block (hP.b.keep HR3.out HN3.out))).trans (hP.b.keep HR3.out HN3.out))
  clear HR3
  have HR3 := HR35
  clear HR35
  have HR45 := hide ((hs5.block _ (lt_of_block (hP.b.keep HR4.out HN4.out))).trans (hP.b.keep HR4.out HN4.out))
  clear HR4
  have HR4 := HR45
  clear HR45
  have hn5 : V5.heap.size ≠ w.heap.size := by have := hb5.size; have := HM0.out.blt; have := HM4.out.blt; have := hP.b.size; omega
  have HN5 := hide hn5
  have HR5 := HR5'
  clear HR5'
  clear hP hm5 hb5 hz5 hr5 hs5 hn5
  go_wp2_with (first | (refine wpList_store_row rfl 37 (.tmp 7) (.tmp 28) rfl V5.heap.size #[.int .i64 9, .string v5, .slice a5 L5.length c5] rfl rfl 37 _ HZ5.out rs_info rfl (rs_one _ _ _ _ _) ?_))
  generalize hWE5 : ((V5.alloc (.cells #[.int .i64 0, .string ⟨#[]⟩, .slice none 0 0] 37)).setRow V5.heap.size #[.int .i64 9, .string v5, .slice a5 L5.length c5]) = W5 at *
  clear hWE5 HZ5
  generalize V5.heap.size = p5 at *
  refine (md_do HM5.out (by omega) (HK0.out.below HB5.out) ⟨9, ByteArray.empty, ByteArray.empty⟩ (by decide) (by decide)).mono ?_
  rintro e V6 hP
  obtain ⟨a6, c6, L6, he6, _⟩ := hP.ex
  rw [st6.1] at he6
  generalize lT2.ans ⟨9, ByteArray.empty, ByteArray.empty⟩ = v6 at he6
  subst he6
  have hm6 := hP.m
  rw [st6.2] at hm6
  have hb6 : Below w.heap.size w V6 := hP.b.below HB5.out (by omega) HB5.out.size
  obtain ⟨hz6, hr6, hs6⟩ := rs_laid V6 1 v6 a6 L6.length c6
  have HZ6 := hide hz6
  have HR6' := hide hr6
  have HB6 := hide (hb6.trans (hs6.mono hb6.size))
  have HM6 := hide (hm6.below hs6)
  have HR16 := hide ((hs6.block _ (lt_of_block (hP.b.keep HR1.out HN1.out))).trans (hP.b.keep HR1.out HN1.out))
  clear HR1
  have HR1 := HR16
  clear HR16
  have HR26 := hide ((hs6.block _ (lt_of_block (hP.b.keep HR2.out HN2.out))).trans (hP.b.keep HR2.out HN2.out))
  clear HR2
  have HR2 := HR26
  clear HR26
  have HR36 := hide ((hs6.block _ (lt_of_block (hP.b.keep HR3.out HN3.out))).trans (hP.b.keep HR3.out HN3.out))
  clear HR3
  have HR3 := HR36
  clear HR36
  have HR46 := hide ((hs6.block _ (lt_of_block (hP.b.keep HR4.out HN4.out))).trans (hP.b.keep HR4.out HN4.out))
  clear HR4
  have HR4 := HR46
  clear HR46
  have HR56 := hide ((hs6.block _ (lt_of_block (hP.b.keep HR5.out HN5.out))).trans (hP.b.keep HR5.out HN5.out))
  clear HR5
  have HR5 := HR56
  clear HR56
  have hn6 : V6.heap.size ≠ w.heap.size := by have := hb6.size; have := HM0.out.blt; have := HM5.out.blt; have := hP.b.size; omega
  have HN6 := hide hn6
  have HR6 := HR6'
  clear HR6'
  have d1 : ((V6.alloc (.cells #[.int .i64 0, .string ⟨#[]⟩, .slice none 0 0] 37)).setRow V6.heap.size #[.int .i64 1, .string v6, .slice a6 L6.length c6]).cell? ⟨p1, 0, none⟩ = some (.int .i64 0) := cell_of_block HR1.out
  have d2 : ((V6.alloc (.cells #[.int .i64 0, .string ⟨#[]⟩, .slice none 0 0] 37)).setRow V6.heap.size #[.int .i64 1, .string v6, .slice a6 L6.length c6]).cell? ⟨p2, 1, none⟩ = some (.string ⟨#[104, 105]⟩) := cell_of_block HR2.out
  have d3 : ((V6.alloc (.cells #[.int .i64 0, .string ⟨#[]⟩, .slice none 0 0] 37)).setRow V6.heap.size #[.int .i64 1, .string v6, .slice a6 L6.length c6]).cell? ⟨p3, 0, none⟩ = some (.int .i64 0) := cell_of_block HR3.out
  have d4 : ((V6.alloc (.cells #[.int .i64 0, .string ⟨#[]⟩, .slice none 0 0] 37)).setRow V6.heap.size #[.int .i64 1, .string v6, .slice a6 L6.length c6]).cell? ⟨p4, 0, none⟩ = some (.int .i64 13) := cell_of_block HR4.out
  have d5 : ((V6.alloc (.cells #[.int .i64 0, .string ⟨#[]⟩, .slice none 0 0] 37)).setRow V6.heap.size #[.int .i64 1, .string v6, .slice a6 L6.length c6]).cell? ⟨p5, 0, none⟩ = some (.int .i64 9) := cell_of_block HR5.out
  have d6 : ((V6.alloc (.cells #[.int .i64 0, .string ⟨#[]⟩, .slice none 0 0] 37)).setRow V6.heap.size #[.int .i64 1, .string v6, .slice a6 L6.length c6]).cell? ⟨V6.heap.size, 0, none⟩ = some (.int .i64 1) := cell_of_block HR6.out
  clear hP hm6 hb6 hz6 hr6 hs6 hn6
  go_wp2_with (first | (refine wpList_store_row rfl 37 (.tmp 8) (.tmp 31) rfl V6.heap.size #[.int .i64 1, .string v6, .slice a6 L6.length c6] rfl rfl 37 _ HZ6.out rs_info rfl (rs_one _ _ _ _ _) ?_))
  generalize hWE6 : ((V6.alloc (.cells #[.int .i64 0, .string ⟨#[]⟩, .slice none 0 0] 37)).setRow V6.heap.size #[.int .i64 1, .string v6, .slice a6 L6.length c6]) = W6 at *
  clear hWE6 HZ6
  generalize V6.heap.size = p6 at *
  refine (md_state HM6.out (by omega)).mono ?_
  rintro e W7 ⟨s2, rfl, hs2, hb7⟩
  obtain rfl := ls2 hs2
  have HB7 := hide (HB6.out.trans (hb7.mono HB6.out.size))
  clear hs2 hb7
  go_wp2_with fail
  refine (S8.out _).mono ?_
  rintro e W8 ⟨rfl, rfl⟩
  go_wp2_with fail
  refine (S9.out _).mono ?_
  rintro e W9 ⟨rfl, rfl⟩
  go_wp2_with fail
  try go_ret
  exact ⟨rfl, HB7.out⟩
end Go.Proofs.YtlpibpkbgmcclaaGreatDoor
