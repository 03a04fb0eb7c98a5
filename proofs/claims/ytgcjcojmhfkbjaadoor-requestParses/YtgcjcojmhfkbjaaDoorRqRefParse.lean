/- What the document's Parse answers. (Written by genrqy.py.) -/
import Derived.Test.YtgcjcojmhfkbjaaDoorRqParse
import Derived.Test.YtgcjcojmhfkbjaaDoorRqRefPrint
namespace Go.Proofs.YtgcjcojmhfkbjaaDoor
open Go.RowKit
set_option linter.unusedVariables false
open Classical in
/-- the kind whose word this is; below 0: none's -/
noncomputable def kindW (x : ByteArray) : Int := if x = putS then 0 else if x = getS then 1 else if x = delS then 2 else if x = statS then 3 else if x = listS then 4 else -1
theorem kindW_word {k : Nat} (hk : k < 5) (x : ByteArray) : x = wordS (k : Int) ↔ kindW x = (k : Int) := by
  have n1 : putS ≠ getS := by decide
  have n2 : putS ≠ delS := by decide
  have n3 : putS ≠ statS := by decide
  have n4 : putS ≠ listS := by decide
  have n5 : getS ≠ delS := by decide
  have n6 : getS ≠ statS := by decide
  have n7 : getS ≠ listS := by decide
  have n8 : delS ≠ statS := by decide
  have n9 : delS ≠ listS := by decide
  have n10 : statS ≠ listS := by decide
  unfold kindW
  match k, hk with
  | 0, _ =>
    show x = putS ↔ _
    constructor
    · intro h; rw [if_pos h]; rfl
    · intro h
      by_cases e : x = putS
      · exact e
      · rw [if_neg e] at h
        split at h
        · cases h
        split at h
        · cases h
        split at h
        · cases h
        split at h <;> cases h
  | 1, _ =>
    show x = getS ↔ _
    constructor
    · intro h; subst h; rw [if_neg n1.symm, if_pos rfl]; rfl
    · intro h
      split at h
      · cases h
      split at h
      · assumption
      split at h
      · cases h
      split at h
      · cases h
      split at h <;> cases h
  | 2, _ =>
    show x = delS ↔ _
    constructor
    · intro h; subst h; rw [if_neg n2.symm, if_neg n5.symm, if_pos rfl]; rfl
    · intro h
      split at h
      · cases h
      split at h
      · cases h
      split at h
      · assumption
      split at h
      · cases h
      split at h <;> cases h
  | 3, _ =>
    show x = statS ↔ _
    constructor
    · intro h; subst h; rw [if_neg n3.symm, if_neg n6.symm, if_neg n8.symm, if_pos rfl]; rfl
    · intro h
      split at h
      · cases h
      split at h
      · cases h
      split at h
      · cases h
      split at h
      · assumption
      split at h <;> cases h
  | 4, _ =>
    show x = listS ↔ _
    constructor
    · intro h; subst h; rw [if_neg n4.symm, if_neg n7.symm, if_neg n9.symm, if_neg n10.symm, if_pos rfl]; rfl
    · intro h
      split at h
      · cases h
      split at h
      · cases h
      split at h
      · cases h
      split at h
      · cases h
      split at h
      · assumption
      · cases h
theorem kindW_range (x : ByteArray) : kindW x = -1 ∨ kindW x = 0 ∨ kindW x = 1 ∨ kindW x = 2 ∨ kindW x = 3 ∨ kindW x = 4 := by
  unfold kindW
  repeat (split; simp)
  simp
/-- the kind that k rounds have found -/
noncomputable def kdN (x : ByteArray) (k : Nat) : Int := if 0 ≤ kindW x ∧ kindW x < (k : Int) then kindW x else -1
theorem kdN_hit {x : ByteArray} {k : Nat} (hk : k < 5) (h : x = wordS (k : Int)) : kdN x (k + 1) = (k : Int) := by
  have := (kindW_word hk x).1 h
  unfold kdN
  rw [if_pos (by omega), this]
theorem kdN_miss {x : ByteArray} {k : Nat} (hk : k < 5) (h : x ≠ wordS (k : Int)) : kdN x (k + 1) = kdN x k := by
  have : kindW x ≠ (k : Int) := fun e => h ((kindW_word hk x).2 e)
  unfold kdN
  by_cases q : 0 ≤ kindW x ∧ kindW x < (k : Int)
  · rw [if_pos q, if_pos (by omega)]
  · rw [if_neg q, if_neg (by omega)]
theorem kdN_five (x : ByteArray) : kdN x 5 = kindW x := by
  unfold kdN
  have := kindW_range x
  split
  · rfl
  · omega
theorem kdN_zero (x : ByteArray) : kdN x 0 = -1 := by
  unfold kdN
  rw [if_neg (by omega)]
theorem askW_kind (x : ByteArray) (M : List ByteArray) : askW (x :: M) = if kindW x = 0 then putW M else if kindW x = 4 then listW M else if kindW x = -1 then none else keyW (kindW x) M := by
  rw [askW_cons]
  unfold kindW
  by_cases h0 : x = putS
  · rw [if_pos h0, if_pos h0]; rfl
  · rw [if_neg h0, if_neg h0]
    by_cases h1 : x = getS
    · rw [if_pos h1, if_pos h1]; rfl
    · rw [if_neg h1, if_neg h1]
      by_cases h2 : x = delS
      · rw [if_pos h2, if_pos h2]; rfl
      · rw [if_neg h2, if_neg h2]
        by_cases h3 : x = statS
        · rw [if_pos h3, if_pos h3]; rfl
        · rw [if_neg h3, if_neg h3]
          by_cases h4 : x = listS
          · rw [if_pos h4, if_pos h4]; rfl
          · rw [if_neg h4, if_neg h4]; rfl
structure PR (w : World) (a : Option Addr) (x : ByteArray) (M : List ByteArray) (b : Nat) (r : Rq) (wr : World) : Prop where
  z : RqB w.heap.size Rq.zero wr
  r : RqB b r wr
  l : StrsAt wr a (x :: M)
  bel : Below w.heap.size w wr
  ne : w.heap.size < b
theorem PR.below {w : World} {a : Option Addr} {x : ByteArray} {M : List ByteArray} {b : Nat} {r : Rq} {wr w' : World} (h : PR w a x M b r wr) (hb : Below wr.heap.size wr w') : PR w a x M b r w' :=
  ⟨h.z.below hb, h.r.below hb, h.l.below hb, h.bel.trans (hb.mono h.bel.size), h.ne⟩
theorem PR.set {w : World} {a : Option Addr} {x : ByteArray} {M : List ByteArray} {b : Nat} {r : Rq} {wr : World} (h : PR w a x M b r wr) (i : Nat) (u : Value) (r' : Rq) (hr : (rqs r).setIfInBounds i u = rqs r') (hnb : ∀ g o, a = some ⟨g, o, none⟩ → g ≠ b) : PR w a x M b r' (wr.setCell ⟨b, i, none⟩ u) := by
  refine ⟨(Below.heap_setCell _ _ _ _ (by have := h.ne; show w.heap.size ≠ b; omega)).trans h.z, ?_, ?_, h.bel.setCell (by have := h.ne; show w.heap.size ≤ b; omega) _, h.ne⟩
  · have := block_setCell (i := i) u h.r
    rw [hr] at this
    exact this
  · rcases h.l with q | ⟨g, o', e, hlt, hc⟩
    · exact .inl q
    · refine .inr ⟨g, o', e, by rw [World.size_setCell]; exact hlt, fun j s hs => ?_⟩
      have := hc j s hs
      rw [← this]
      unfold World.cell?
      rw [Below.heap_setCell _ _ _ _ (hnb g o' e)]
set_option maxRecDepth 100000 in
set_option maxHeartbeats 16000000 in
theorem rparse_any (s : ByteArray) (w : World) (hs : s.size ≤ 100000) : Calls Tryd.prog 15 #[.string s] w fun e w' => e = .returned (rqV (paR s) (paE s)) ∧ Below w.heap.size w w' := by
  have HZ := hide (rq_new w)
  have HB := hide (rq_newB w)
  have HW := hide (words_any s (w.alloc (.cells #[.int .i64 0, .string ⟨#[]⟩, .string ⟨#[]⟩] 23)) hs)
  go_enter Tryd.func15, Tryd.ntmps15
  go_wp2_with fail
  refine HW.out.mono ?_
  rintro e w1 ⟨a, c, rfl, hc, hst, hb⟩
  have HZ1 := hide (HZ.out.below hb)
  have HB1 := hide (HB.out.trans (hb.mono HB.out.size))
  have HLT : Hid (w.heap.size < w1.heap.size) := by have := HZ1.out.lt; exact this
  obtain ⟨L, hL⟩ : ∃ L, wds s = L := ⟨_, rfl⟩
  have HSZ : Hid (∀ y ∈ L, y.size ≤ 100000) := fun y hy => by
    have : ∀ n a i, ∀ y ∈ wdF s n a i, y.size ≤ s.size := fun n => by
      induction n with
      | zero =>
        intro a i y hy
        simp only [wdF, List.mem_singleton] at hy
        subst hy
        rw [ByteArray.size_extract]; omega
      | succ n ih =>
        intro a i y hy
        unfold wdF at hy
        split at hy
        · rcases List.mem_cons.1 hy with rfl | q
          · rw [ByteArray.size_extract]; omega
          · exact ih _ _ _ q
        · exact ih _ _ _ hy
    have := this _ _ _ y (by rw [← hL] at hy; exact hy)
    omega
  have hne := wds_ne s
  have HPA : Hid (paE s = (match askW L with | some r => rqE r | none => 14) ∧ paR s = (match askW L with | some r => if rqE r = 0 then r else Rq.zero | none => Rq.zero)) := by
    show _ ∧ _; unfold paE paR; rw [hL]; exact ⟨rfl, rfl⟩
  rw [hL] at hc hst hne ⊢
  obtain ⟨x, M, rfl⟩ : ∃ x M, L = x :: M := by
    cases L with
    | nil => exact absurd rfl hne
    | cons x M => exact ⟨x, M, rfl⟩
  obtain ⟨n, hn⟩ : ∃ n, (x :: M).length = n := ⟨_, rfl⟩
  have HNL : Hid (M.length + 1 = n) := by show _ = _; rw [← hn]; rfl
  rw [hn] at hc ⊢
  have HST := hide hst
  have HAL : Hid (∃ g o, a = some ⟨g, o, none⟩ ∧ g < w1.heap.size) := by
    obtain ⟨g, o', e, q, _⟩ := hst.cell (i := 0) (s := x) rfl
    exact ⟨g, o', e, q⟩
  obtain ⟨g, o', hag, hglt⟩ := HAL.out
  subst hag
  have HNC := hide hc
  clear hb hne hn hst hL HAL hc
  have HN1 : Hid (PR w (some ⟨g, o', none⟩) x M w1.heap.size ⟨-1, ByteArray.empty, ByteArray.empty⟩ ((w1.alloc (.cells #[.int .i64 0, .string ⟨#[]⟩, .string ⟨#[]⟩] 23)).setRow w1.heap.size #[.int .i64 (-1), .string ⟨#[]⟩, .string ⟨#[]⟩])) := by
    have q := below_setRow (g := w1.heap.size) ((Below.refl w1.heap.size w1).alloc (Nat.le_refl _) (.cells #[.int .i64 0, .string ⟨#[]⟩, .string ⟨#[]⟩] 23)) (Nat.le_refl _) #[.int .i64 (-1), .string ⟨#[]⟩, .string ⟨#[]⟩]
    exact ⟨HZ1.out.below q, rqB_row (rq_new w1) ⟨-1, ByteArray.empty, ByteArray.empty⟩, HST.out.below q, HB1.out.trans (q.mono HB1.out.size), HLT.out⟩
  have HGB : Hid (∀ (g1 o1 : Nat), some (⟨g, o', none⟩ : Addr) = some ⟨g1, o1, none⟩ → g1 ≠ w1.heap.size) := fun g1 o1 e => by injection e with e; injection e with e1 e2; omega
  go_wp2_with (first | (refine wpList_store_row rfl 23 (.tmp 5) (.tmp 13) rfl w1.heap.size #[.int .i64 (-1), .string ⟨#[]⟩, .string ⟨#[]⟩] rfl rfl 23 _ HNA.out rq_info rfl (rq_one _ _ _) ?_) | (refine wpList_store_row rfl 23 (.tmp 5) (.tmp 13) rfl w1.heap.size #[.int .i64 (-1), .string ⟨#[]⟩, .string ⟨#[]⟩] rfl rfl 23 _ (heap_alloc_new _ _) rq_info rfl (rq_one _ _ _) ?_))
  generalize hWQ : (w1.alloc (.cells #[.int .i64 0, .string ⟨#[]⟩, .string ⟨#[]⟩] 23)).setRow w1.heap.size #[.int .i64 (-1), .string ⟨#[]⟩, .string ⟨#[]⟩] = WQ at *
  clear hWQ HST HZ1 HB1 HZ HB HW hglt HLT
  generalize w1.heap.size = b at *
  go_loopw [6] (fun y wr => ∃ k : Nat, k ≤ 5 ∧ y = .int .i64 (k : Int) ∧ Hid (PR w (some ⟨g, o', none⟩) x M b ⟨kdN x k, ByteArray.empty, ByteArray.empty⟩ wr)) (fun y _ => 5 - (kIx y).toNat)
  case atStart => exact ⟨0, by omega, rfl, by rw [kdN_zero]; exact HN1⟩
  case round =>
    obtain ⟨k, hk, rfl, H⟩ := hrel
    have hbn : b ≠ w.heap.size := by have := H.out.ne; omega
    have c0 := H.out.r.c0
    simp only at c0
    obtain ⟨g9, o9, e9, hg9, cx0⟩ := H.out.l.cell (i := 0) (s := x) rfl
    injection e9 with e9; injection e9 with e91 e92
    subst e91; subst e92
    have cx : wr.cell? ⟨g, o', none⟩ = some (.string x) := cx0
    clear cx0
    have hn1 : 1 ≤ n := by have := HNL.out; omega
    have i3 : (0 : Int) < (n : Int) := by omega
    have i4 : 0 < n := by omega
    by_cases hlt : k < 5
    · have hd : decide ((k : Int) < 5) = true := by simp; omega
      have e1 := cell_regrown cx
      have HRW := hide (fun W => refword_any k hlt W)
      obtain ⟨X, hX⟩ : ∃ X, wordS (k : Int) = X := ⟨_, rfl⟩
      rw [hX] at HRW
      have r0 : ∀ q os, Calls Tryd.prog 22 #[.int .i64 (k : Int)] (Go.Sort.grow (redrawn wr q) os) fun e w'' => e = .returned (.string X) ∧ ∃ p : Regrown, w'' = Go.Sort.grow (redrawn wr p.d) p.os := fun q os => Calls.regrown_of (HRW.out _)
      by_cases hx : x = X
      · have g1 : (x.toList == X.toList) = true := str_eq hx
        have HK := hide (kdN_hit (x := x) hlt (by rw [hX]; exact hx))
        clear hx hX
        go_upto_region 6 with fail
        refine wp_region_quiet_below (by kernel_rfl) (by kernel_rfl) ?_
        repeat (quiet_step (first | (with_reducible exact r0 _ _)))
        refine wpQuiet_nil ?_
        intro _ hw'
        obtain ⟨pq, hw''⟩ := hw'
        subst hw''
        have HQ := hide (H.out.below (below_regrown wr pq.d pq.os))
        generalize Go.Sort.grow (redrawn wr pq.d) pq.os = WR at *
        have d0 := HQ.out.r.c0
        have hfz := free_of_block (i := 0) HQ.out.r
        simp only at d0
        have HS := hide (HQ.out.set 0 (.int .i64 (k : Int)) ⟨(k : Int), ByteArray.empty, ByteArray.empty⟩ rfl HGB.out)
        clear e1 r0 cx c0
        go_wp2_with fail
        exact ⟨⟨k + 1, by omega, by go_num, by rw [HK.out]; exact HS⟩, by simp [kIx]; omega⟩
      · have g1 : (x.toList == X.toList) = false := str_ne hx
        have HK := hide (kdN_miss (x := x) hlt (by rw [hX]; exact hx))
        clear hx hX
        go_upto_region 6 with fail
        refine wp_region_quiet_below (by kernel_rfl) (by kernel_rfl) ?_
        repeat (quiet_step (first | (with_reducible exact r0 _ _)))
        refine wpQuiet_nil ?_
        intro _ hw'
        obtain ⟨pq, hw''⟩ := hw'
        subst hw''
        have HQ := hide (H.out.below (below_regrown wr pq.d pq.os))
        generalize Go.Sort.grow (redrawn wr pq.d) pq.os = WR at *
        clear e1 r0 cx c0
        go_wp2_with fail
        exact ⟨⟨k + 1, by omega, by go_num, by rw [HK.out]; exact HQ⟩, by simp [kIx]; omega⟩
    · have hd : decide ((k : Int) < 5) = false := by simp; omega
      obtain rfl : k = 5 := by omega
      rw [kdN_five] at H c0
      have HAK : Hid (askW (x :: M) = if kindW x = 0 then putW M else if kindW x = 4 then listW M else if kindW x = -1 then none else keyW (kindW x) M) := askW_kind x M
      have hkr := kindW_range x
      generalize kindW x = d at *
      have hbg : b ≠ g := fun e => HGB.out g o' rfl e.symm
      have hgb : g ≠ b := HGB.out g o' rfl
      have hwb : w.heap.size ≠ b := fun e => hbn e.symm
      have HCX := hide cx
      clear cx
      rcases hkr with rfl | hkr
      · have HAN : Hid (askW (x :: M) = none) := HAK.out
        have HE : Hid (rqV (paR s) (paE s) = rqV Rq.zero 14) := by show _ = _; rw [HPA.out.1, HPA.out.2, HAK.out]; simp
        have HZZ := hide H.out.z
        have HBB := hide H.out.bel
        go_wp2_with (first | (refine wpList_store_row rfl 23 (.tmp 2) (.tmp 47) rfl w.heap.size #[.int .i64 0, .string ⟨#[]⟩, .string ⟨#[]⟩] rfl rfl 23 _ HZZ.out rq_info rfl (rq_one _ _ _) ?_))
        refine bodyPost_ret (res_rq rfl _ _ w.heap.size Rq.zero rfl (rqB_row HZZ.out _)) rfl ⟨by rw [HE.out]; rfl, below_setRow HBB.out (Nat.le_refl _) _⟩
      rcases hkr with rfl | hkr
      · by_cases h3 : n = 3
        · subst h3
          obtain ⟨k1, b1, rfl⟩ : ∃ k1 b1, M = [k1, b1] := by
            match M, HNL.out with
            | [k1, b1], _ => exact ⟨k1, b1, rfl⟩
          obtain ⟨g9, o9, e9, _, ck1⟩ := H.out.l.cell (i := 1) (s := k1) rfl
          injection e9 with e9; injection e9 with e91 e92
          subst e91; subst e92
          have HS1 := hide (H.out.set 1 (.string k1) ⟨0, k1, ByteArray.empty⟩ rfl HGB.out)
          obtain ⟨g9, o9, e9, _, ck2⟩ := HS1.out.l.cell (i := 2) (s := b1) rfl
          injection e9 with e9; injection e9 with e91 e92
          subst e91; subst e92
          have d0 := HS1.out.r.c0
          simp only at d0
          have hfz := free_of_block (i := 1) H.out.r
          have c1 := H.out.r.c1
          simp only at c1
          have HU := hide (fun W => undigits_any b1 W (by have := HSZ.out b1 (by simp); omega))
          have HKZ : Hid (k1.size ≤ 100000) := HSZ.out k1 (by simp)
          cases hu : undg b1 with
          | some v =>
            have HVZ : Hid (v.size ≤ 100000) := by have h1 := undg_size hu; have h2 := HSZ.out b1 (by simp); show _ ≤ _; omega
            have HPX : Hid (paR s = (if rqE ⟨0, k1, v⟩ = 0 then ⟨0, k1, v⟩ else Rq.zero) ∧ paE s = rqE ⟨0, k1, v⟩) := by
              have e8 : askW (x :: [k1, b1]) = some ⟨0, k1, v⟩ := by rw [HAK.out, if_pos rfl]; show (undg b1).map _ = _; rw [hu]; rfl
              show _ ∧ _; rw [HPA.out.1, HPA.out.2, e8]; exact ⟨rfl, rfl⟩
            rw [unV_some hu] at HU
            clear hu
            go_wp2_with fail
            refine (HU.out _).mono ?_
            rintro e9 W5 ⟨rfl, hb5⟩
            have H5 := hide (HS1.out.below hb5)
            have hf5 := free_of_block (i := 2) H5.out.r
            have q2 := H5.out.r.c2
            simp only at q2
            have H6 := hide (H5.out.set 2 (.string v) ⟨0, k1, v⟩ rfl HGB.out)
            clear hb5
            have HRR := hide H6.out.r
            have HCK := hide (fun W => qrcheck_any ⟨0, k1, v⟩ W (by have := HKZ.out; simp only; omega) (by have := HVZ.out; simp only; omega))
            simp only [rqs] at HCK
            go_wp2_with (first | (refine wpList_load_row rfl 23 (.tmp 5) rfl b rfl 23 #[.int .i64 0, .string k1, .string v] (0, 0) _ HRR.out Tryd.underlying23 rfl rq_info ?_))
            refine (HCK.out _).mono ?_
            rintro e9 W9 ⟨rfl, hb9⟩
            have H9 := hide (H6.out.below hb9)
            have HR9 := hide H9.out.r
            have HZ9 := hide H9.out.z
            clear hb9
            by_cases hz : rqE ⟨0, k1, v⟩ = 0
            · have HE : Hid (rqV (paR s) (paE s) = rqV ⟨0, k1, v⟩ 0) := by show _ = _; rw [HPX.out.1, HPX.out.2, if_pos hz, hz]
              rw [hz]
              clear hz
              go_wp2_with (first | (refine wpList_load_row rfl 23 (.tmp 5) rfl b rfl 23 #[.int .i64 0, .string k1, .string v] (0, 0) _ HR9.out Tryd.underlying23 rfl rq_info ?_) | (refine wpList_store_row rfl 23 (.tmp 2) (.tmp 82) rfl w.heap.size #[.int .i64 0, .string k1, .string v] rfl rfl 23 _ HZ9.out rq_info rfl (rq_one _ _ _) ?_))
              refine bodyPost_ret (res_rq rfl _ _ w.heap.size ⟨0, k1, v⟩ rfl (rqB_row HZ9.out _)) rfl ⟨by rw [HE.out]; rfl, below_setRow H9.out.bel (Nat.le_refl _) _⟩
            · have HE : Hid (rqV (paR s) (paE s) = rqV Rq.zero (rqE ⟨0, k1, v⟩)) := by show _ = _; rw [HPX.out.1, HPX.out.2, if_neg hz]
              have g9 : (rqE ⟨0, k1, v⟩ != 0) = true := by simpa using hz
              clear hz
              generalize rqE ⟨0, k1, v⟩ = E9 at *
              go_wp2_with (first | (refine wpList_store_row rfl 23 (.tmp 2) (.tmp 80) rfl w.heap.size #[.int .i64 0, .string ⟨#[]⟩, .string ⟨#[]⟩] rfl rfl 23 _ HZ9.out rq_info rfl (rq_one _ _ _) ?_))
              refine bodyPost_ret (res_rq rfl _ _ w.heap.size Rq.zero rfl (rqB_row HZ9.out _)) rfl ⟨by rw [HE.out]; rfl, below_setRow H9.out.bel (Nat.le_refl _) _⟩
          | none =>
            have HE : Hid (rqV (paR s) (paE s) = rqV Rq.zero 14) := by
              have e8 : askW (x :: [k1, b1]) = none := by rw [HAK.out, if_pos rfl]; show (undg b1).map _ = _; rw [hu]; rfl
              show _ = _; rw [HPA.out.1, HPA.out.2, e8]
            rw [unV_none hu] at HU
            clear hu
            go_wp2_with fail
            refine (HU.out _).mono ?_
            rintro e9 W5 ⟨rfl, hb5⟩
            have H5 := hide (HS1.out.below hb5)
            clear hb5
            have HZZ := hide H5.out.z
            have HBB := hide H5.out.bel
            go_wp2_with (first | (refine wpList_store_row rfl 23 (.tmp 2) (.tmp 73) rfl w.heap.size #[.int .i64 0, .string ⟨#[]⟩, .string ⟨#[]⟩] rfl rfl 23 _ HZZ.out rq_info rfl (rq_one _ _ _) ?_))
            refine bodyPost_ret (res_rq rfl _ _ w.heap.size Rq.zero rfl (rqB_row HZZ.out _)) rfl ⟨by rw [HE.out]; rfl, below_setRow HBB.out (Nat.le_refl _) _⟩
        · have g3 : ((n : Int) != 3) = true := by simp; omega
          have HE : Hid (rqV (paR s) (paE s) = rqV Rq.zero 14) := by show _ = _; rw [HPA.out.1, HPA.out.2, HAK.out]; rw [if_pos rfl, putW_no (by have := HNL.out; omega)]
          have HZZ := hide H.out.z
          have HBB := hide H.out.bel
          go_wp2_with (first | (refine wpList_store_row rfl 23 (.tmp 2) (.tmp 47) rfl w.heap.size #[.int .i64 0, .string ⟨#[]⟩, .string ⟨#[]⟩] rfl rfl 23 _ HZZ.out rq_info rfl (rq_one _ _ _) ?_))
          refine bodyPost_ret (res_rq rfl _ _ w.heap.size Rq.zero rfl (rqB_row HZZ.out _)) rfl ⟨by rw [HE.out]; rfl, below_setRow HBB.out (Nat.le_refl _) _⟩
      rcases hkr with rfl | hkr
      · by_cases h3 : n = 2
        · subst h3
          obtain ⟨k1, rfl⟩ : ∃ k1, M = [k1] := by
            match M, HNL.out with
            | [k1], _ => exact ⟨k1, rfl⟩
          obtain ⟨g9, o9, e9, _, ck1⟩ := H.out.l.cell (i := 1) (s := k1) rfl
          injection e9 with e9; injection e9 with e91 e92
          subst e91; subst e92
          have HS1 := hide (H.out.set 1 (.string k1) ⟨1, k1, ByteArray.empty⟩ rfl HGB.out)
          have d0 := HS1.out.r.c0
          simp only at d0
          have hfz := free_of_block (i := 1) H.out.r
          have c1 := H.out.r.c1
          simp only at c1
          have HKZ : Hid (k1.size ≤ 100000) := HSZ.out k1 (by simp)
          have HVZ : Hid (ByteArray.empty.size ≤ 100000) := by show 0 ≤ _; omega
          have HPX : Hid (paR s = (if rqE ⟨1, k1, ByteArray.empty⟩ = 0 then ⟨1, k1, ByteArray.empty⟩ else Rq.zero) ∧ paE s = rqE ⟨1, k1, ByteArray.empty⟩) := by
            have e8 : askW (x :: [k1]) = some ⟨1, k1, ByteArray.empty⟩ := by rw [HAK.out]; rfl
            show _ ∧ _; rw [HPA.out.1, HPA.out.2, e8]; exact ⟨rfl, rfl⟩
          have HRR := hide HS1.out.r
          have HCK := hide (fun W => qrcheck_any ⟨1, k1, ByteArray.empty⟩ W (by have := HKZ.out; simp only; omega) (by have := HVZ.out; simp only; omega))
          simp only [rqs] at HCK
          go_wp2_with (first | (refine wpList_load_row rfl 23 (.tmp 5) rfl b rfl 23 #[.int .i64 1, .string k1, .string ⟨#[]⟩] (0, 0) _ HRR.out Tryd.underlying23 rfl rq_info ?_))
          refine (HCK.out _).mono ?_
          rintro e9 W9 ⟨rfl, hb9⟩
          have H9 := hide (HS1.out.below hb9)
          have HR9 := hide H9.out.r
          have HZ9 := hide H9.out.z
          clear hb9
          by_cases hz : rqE ⟨1, k1, ByteArray.empty⟩ = 0
          · have HE : Hid (rqV (paR s) (paE s) = rqV ⟨1, k1, ByteArray.empty⟩ 0) := by show _ = _; rw [HPX.out.1, HPX.out.2, if_pos hz, hz]
            rw [hz]
            clear hz
            go_wp2_with (first | (refine wpList_load_row rfl 23 (.tmp 5) rfl b rfl 23 #[.int .i64 1, .string k1, .string ⟨#[]⟩] (0, 0) _ HR9.out Tryd.underlying23 rfl rq_info ?_) | (refine wpList_store_row rfl 23 (.tmp 2) (.tmp 82) rfl w.heap.size #[.int .i64 1, .string k1, .string ⟨#[]⟩] rfl rfl 23 _ HZ9.out rq_info rfl (rq_one _ _ _) ?_))
            refine bodyPost_ret (res_rq rfl _ _ w.heap.size ⟨1, k1, ByteArray.empty⟩ rfl (rqB_row HZ9.out _)) rfl ⟨by rw [HE.out]; rfl, below_setRow H9.out.bel (Nat.le_refl _) _⟩
          · have HE : Hid (rqV (paR s) (paE s) = rqV Rq.zero (rqE ⟨1, k1, ByteArray.empty⟩)) := by show _ = _; rw [HPX.out.1, HPX.out.2, if_neg hz]
            have g9 : (rqE ⟨1, k1, ByteArray.empty⟩ != 0) = true := by simpa using hz
            clear hz
            generalize rqE ⟨1, k1, ByteArray.empty⟩ = E9 at *
            go_wp2_with (first | (refine wpList_store_row rfl 23 (.tmp 2) (.tmp 80) rfl w.heap.size #[.int .i64 0, .string ⟨#[]⟩, .string ⟨#[]⟩] rfl rfl 23 _ HZ9.out rq_info rfl (rq_one _ _ _) ?_))
            refine bodyPost_ret (res_rq rfl _ _ w.heap.size Rq.zero rfl (rqB_row HZ9.out _)) rfl ⟨by rw [HE.out]; rfl, below_setRow H9.out.bel (Nat.le_refl _) _⟩
        · have g3 : ((n : Int) != 2) = true := by simp; omega
          have HE : Hid (rqV (paR s) (paE s) = rqV Rq.zero 14) := by show _ = _; rw [HPA.out.1, HPA.out.2, HAK.out]; rw [if_neg (by decide), if_neg (by decide), if_neg (by decide), keyW_no _ (by have := HNL.out; omega)]
          have HZZ := hide H.out.z
          have HBB := hide H.out.bel
          go_wp2_with (first | (refine wpList_store_row rfl 23 (.tmp 2) (.tmp 47) rfl w.heap.size #[.int .i64 0, .string ⟨#[]⟩, .string ⟨#[]⟩] rfl rfl 23 _ HZZ.out rq_info rfl (rq_one _ _ _) ?_))
          refine bodyPost_ret (res_rq rfl _ _ w.heap.size Rq.zero rfl (rqB_row HZZ.out _)) rfl ⟨by rw [HE.out]; rfl, below_setRow HBB.out (Nat.le_refl _) _⟩
      rcases hkr with rfl | hkr
      · by_cases h3 : n = 2
        · subst h3
          obtain ⟨k1, rfl⟩ : ∃ k1, M = [k1] := by
            match M, HNL.out with
            | [k1], _ => exact ⟨k1, rfl⟩
          obtain ⟨g9, o9, e9, _, ck1⟩ := H.out.l.cell (i := 1) (s := k1) rfl
          injection e9 with e9; injection e9 with e91 e92
          subst e91; subst e92
          have HS1 := hide (H.out.set 1 (.string k1) ⟨2, k1, ByteArray.empty⟩ rfl HGB.out)
          have d0 := HS1.out.r.c0
          simp only at d0
          have hfz := free_of_block (i := 1) H.out.r
          have c1 := H.out.r.c1
          simp only at c1
          have HKZ : Hid (k1.size ≤ 100000) := HSZ.out k1 (by simp)
          have HVZ : Hid (ByteArray.empty.size ≤ 100000) := by show 0 ≤ _; omega
          have HPX : Hid (paR s = (if rqE ⟨2, k1, ByteArray.empty⟩ = 0 then ⟨2, k1, ByteArray.empty⟩ else Rq.zero) ∧ paE s = rqE ⟨2, k1, ByteArray.empty⟩) := by
            have e8 : askW (x :: [k1]) = some ⟨2, k1, ByteArray.empty⟩ := by rw [HAK.out]; rfl
            show _ ∧ _; rw [HPA.out.1, HPA.out.2, e8]; exact ⟨rfl, rfl⟩
          have HRR := hide HS1.out.r
          have HCK := hide (fun W => qrcheck_any ⟨2, k1, ByteArray.empty⟩ W (by have := HKZ.out; simp only; omega) (by have := HVZ.out; simp only; omega))
          simp only [rqs] at HCK
          go_wp2_with (first | (refine wpList_load_row rfl 23 (.tmp 5) rfl b rfl 23 #[.int .i64 2, .string k1, .string ⟨#[]⟩] (0, 0) _ HRR.out Tryd.underlying23 rfl rq_info ?_))
          refine (HCK.out _).mono ?_
          rintro e9 W9 ⟨rfl, hb9⟩
          have H9 := hide (HS1.out.below hb9)
          have HR9 := hide H9.out.r
          have HZ9 := hide H9.out.z
          clear hb9
          by_cases hz : rqE ⟨2, k1, ByteArray.empty⟩ = 0
          · have HE : Hid (rqV (paR s) (paE s) = rqV ⟨2, k1, ByteArray.empty⟩ 0) := by show _ = _; rw [HPX.out.1, HPX.out.2, if_pos hz, hz]
            rw [hz]
            clear hz
            go_wp2_with (first | (refine wpList_load_row rfl 23 (.tmp 5) rfl b rfl 23 #[.int .i64 2, .string k1, .string ⟨#[]⟩] (0, 0) _ HR9.out Tryd.underlying23 rfl rq_info ?_) | (refine wpList_store_row rfl 23 (.tmp 2) (.tmp 82) rfl w.heap.size #[.int .i64 2, .string k1, .string ⟨#[]⟩] rfl rfl 23 _ HZ9.out rq_info rfl (rq_one _ _ _) ?_))
            refine bodyPost_ret (res_rq rfl _ _ w.heap.size ⟨2, k1, ByteArray.empty⟩ rfl (rqB_row HZ9.out _)) rfl ⟨by rw [HE.out]; rfl, below_setRow H9.out.bel (Nat.le_refl _) _⟩
          · have HE : Hid (rqV (paR s) (paE s) = rqV Rq.zero (rqE ⟨2, k1, ByteArray.empty⟩)) := by show _ = _; rw [HPX.out.1, HPX.out.2, if_neg hz]
            have g9 : (rqE ⟨2, k1, ByteArray.empty⟩ != 0) = true := by simpa using hz
            clear hz
            generalize rqE ⟨2, k1, ByteArray.empty⟩ = E9 at *
            go_wp2_with (first | (refine wpList_store_row rfl 23 (.tmp 2) (.tmp 80) rfl w.heap.size #[.int .i64 0, .string ⟨#[]⟩, .string ⟨#[]⟩] rfl rfl 23 _ HZ9.out rq_info rfl (rq_one _ _ _) ?_))
            refine bodyPost_ret (res_rq rfl _ _ w.heap.size Rq.zero rfl (rqB_row HZ9.out _)) rfl ⟨by rw [HE.out]; rfl, below_setRow H9.out.bel (Nat.le_refl _) _⟩
        · have g3 : ((n : Int) != 2) = true := by simp; omega
          have HE : Hid (rqV (paR s) (paE s) = rqV Rq.zero 14) := by show _ = _; rw [HPA.out.1, HPA.out.2, HAK.out]; rw [if_neg (by decide), if_neg (by decide), if_neg (by decide), keyW_no _ (by have := HNL.out; omega)]
          have HZZ := hide H.out.z
          have HBB := hide H.out.bel
          go_wp2_with (first | (refine wpList_store_row rfl 23 (.tmp 2) (.tmp 47) rfl w.heap.size #[.int .i64 0, .string ⟨#[]⟩, .string ⟨#[]⟩] rfl rfl 23 _ HZZ.out rq_info rfl (rq_one _ _ _) ?_))
          refine bodyPost_ret (res_rq rfl _ _ w.heap.size Rq.zero rfl (rqB_row HZZ.out _)) rfl ⟨by rw [HE.out]; rfl, below_setRow HBB.out (Nat.le_refl _) _⟩
      rcases hkr with rfl | hkr
      · by_cases h3 : n = 2
        · subst h3
          obtain ⟨k1, rfl⟩ : ∃ k1, M = [k1] := by
            match M, HNL.out with
            | [k1], _ => exact ⟨k1, rfl⟩
          obtain ⟨g9, o9, e9, _, ck1⟩ := H.out.l.cell (i := 1) (s := k1) rfl
          injection e9 with e9; injection e9 with e91 e92
          subst e91; subst e92
          have HS1 := hide (H.out.set 1 (.string k1) ⟨3, k1, ByteArray.empty⟩ rfl HGB.out)
          have d0 := HS1.out.r.c0
          simp only at d0
          have hfz := free_of_block (i := 1) H.out.r
          have c1 := H.out.r.c1
          simp only at c1
          have HKZ : Hid (k1.size ≤ 100000) := HSZ.out k1 (by simp)
          have HVZ : Hid (ByteArray.empty.size ≤ 100000) := by show 0 ≤ _; omega
          have HPX : Hid (paR s = (if rqE ⟨3, k1, ByteArray.empty⟩ = 0 then ⟨3, k1, ByteArray.empty⟩ else Rq.zero) ∧ paE s = rqE ⟨3, k1, ByteArray.empty⟩) := by
            have e8 : askW (x :: [k1]) = some ⟨3, k1, ByteArray.empty⟩ := by rw [HAK.out]; rfl
            show _ ∧ _; rw [HPA.out.1, HPA.out.2, e8]; exact ⟨rfl, rfl⟩
          have HRR := hide HS1.out.r
          have HCK := hide (fun W => qrcheck_any ⟨3, k1, ByteArray.empty⟩ W (by have := HKZ.out; simp only; omega) (by have := HVZ.out; simp only; omega))
          simp only [rqs] at HCK
          go_wp2_with (first | (refine wpList_load_row rfl 23 (.tmp 5) rfl b rfl 23 #[.int .i64 3, .string k1, .string ⟨#[]⟩] (0, 0) _ HRR.out Tryd.underlying23 rfl rq_info ?_))
          refine (HCK.out _).mono ?_
          rintro e9 W9 ⟨rfl, hb9⟩
          have H9 := hide (HS1.out.below hb9)
          have HR9 := hide H9.out.r
          have HZ9 := hide H9.out.z
          clear hb9
          by_cases hz : rqE ⟨3, k1, ByteArray.empty⟩ = 0
          · have HE : Hid (rqV (paR s) (paE s) = rqV ⟨3, k1, ByteArray.empty⟩ 0) := by show _ = _; rw [HPX.out.1, HPX.out.2, if_pos hz, hz]
            rw [hz]
            clear hz
            go_wp2_with (first | (refine wpList_load_row rfl 23 (.tmp 5) rfl b rfl 23 #[.int .i64 3, .string k1, .string ⟨#[]⟩] (0, 0) _ HR9.out Tryd.underlying23 rfl rq_info ?_) | (refine wpList_store_row rfl 23 (.tmp 2) (.tmp 82) rfl w.heap.size #[.int .i64 3, .string k1, .string ⟨#[]⟩] rfl rfl 23 _ HZ9.out rq_info rfl (rq_one _ _ _) ?_))
            refine bodyPost_ret (res_rq rfl _ _ w.heap.size ⟨3, k1, ByteArray.empty⟩ rfl (rqB_row HZ9.out _)) rfl ⟨by rw [HE.out]; rfl, below_setRow H9.out.bel (Nat.le_refl _) _⟩
          · have HE : Hid (rqV (paR s) (paE s) = rqV Rq.zero (rqE ⟨3, k1, ByteArray.empty⟩)) := by show _ = _; rw [HPX.out.1, HPX.out.2, if_neg hz]
            have g9 : (rqE ⟨3, k1, ByteArray.empty⟩ != 0) = true := by simpa using hz
            clear hz
            generalize rqE ⟨3, k1, ByteArray.empty⟩ = E9 at *
            go_wp2_with (first | (refine wpList_store_row rfl 23 (.tmp 2) (.tmp 80) rfl w.heap.size #[.int .i64 0, .string ⟨#[]⟩, .string ⟨#[]⟩] rfl rfl 23 _ HZ9.out rq_info rfl (rq_one _ _ _) ?_))
            refine bodyPost_ret (res_rq rfl _ _ w.heap.size Rq.zero rfl (rqB_row HZ9.out _)) rfl ⟨by rw [HE.out]; rfl, below_setRow H9.out.bel (Nat.le_refl _) _⟩
        · have g3 : ((n : Int) != 2) = true := by simp; omega
          have HE : Hid (rqV (paR s) (paE s) = rqV Rq.zero 14) := by show _ = _; rw [HPA.out.1, HPA.out.2, HAK.out]; rw [if_neg (by decide), if_neg (by decide), if_neg (by decide), keyW_no _ (by have := HNL.out; omega)]
          have HZZ := hide H.out.z
          have HBB := hide H.out.bel
          go_wp2_with (first | (refine wpList_store_row rfl 23 (.tmp 2) (.tmp 47) rfl w.heap.size #[.int .i64 0, .string ⟨#[]⟩, .string ⟨#[]⟩] rfl rfl 23 _ HZZ.out rq_info rfl (rq_one _ _ _) ?_))
          refine bodyPost_ret (res_rq rfl _ _ w.heap.size Rq.zero rfl (rqB_row HZZ.out _)) rfl ⟨by rw [HE.out]; rfl, below_setRow HBB.out (Nat.le_refl _) _⟩
      obtain rfl := hkr
      by_cases h1 : n = 1
      · subst h1
        obtain rfl : M = [] := by
          match M, HNL.out with
          | [], _ => rfl
        have HR0 := hide H.out.r
        have HZ0 := hide H.out.z
        have HE : Hid (rqV (paR s) (paE s) = rqV ⟨4, ByteArray.empty, ByteArray.empty⟩ 0) := by
          have e8 : askW (x :: []) = some ⟨4, ByteArray.empty, ByteArray.empty⟩ := by rw [HAK.out]; rfl
          have e7 : rqE ⟨4, ByteArray.empty, ByteArray.empty⟩ = 0 := by unfold rqE; rw [if_neg (by decide), if_pos ⟨rfl, rfl⟩]
          show _ = _; rw [HPA.out.1, HPA.out.2, e8]; (try simp only [e7]); (try rfl)
        go_wp2_with (first | (refine wpList_load_row rfl 23 (.tmp 5) rfl b rfl 23 #[.int .i64 4, .string ⟨#[]⟩, .string ⟨#[]⟩] (0, 0) _ HR0.out Tryd.underlying23 rfl rq_info ?_) | (refine wpList_store_row rfl 23 (.tmp 2) (.tmp 37) rfl w.heap.size #[.int .i64 4, .string ⟨#[]⟩, .string ⟨#[]⟩] rfl rfl 23 _ HZ0.out rq_info rfl (rq_one _ _ _) ?_))
        refine bodyPost_ret (res_rq rfl _ _ w.heap.size ⟨4, ByteArray.empty, ByteArray.empty⟩ rfl (rqB_row HZ0.out _)) rfl ⟨by rw [HE.out]; rfl, below_setRow H.out.bel (Nat.le_refl _) _⟩
      have g1 : ((n : Int) == 1) = false := by simp; omega
      by_cases h3 : n = 2
      · subst h3
        obtain ⟨k1, rfl⟩ : ∃ k1, M = [k1] := by
          match M, HNL.out with
          | [k1], _ => exact ⟨k1, rfl⟩
        obtain ⟨g9, o9, e9, _, ck1⟩ := H.out.l.cell (i := 1) (s := k1) rfl
        injection e9 with e9; injection e9 with e91 e92
        subst e91; subst e92
        have HS1 := hide (H.out.set 1 (.string k1) ⟨4, k1, ByteArray.empty⟩ rfl HGB.out)
        have d0 := HS1.out.r.c0
        have d1 := HS1.out.r.c1
        simp only at d0 d1
        have hfz := free_of_block (i := 1) H.out.r
        have c1 := H.out.r.c1
        simp only at c1
        have HKZ : Hid (k1.size ≤ 100000) := HSZ.out k1 (by simp)
        have HVZ : Hid (ByteArray.empty.size ≤ 100000) := by show 0 ≤ _; omega
        by_cases hk0 : k1.size = 0
        · have ek := is_empty hk0
          have HE : Hid (rqV (paR s) (paE s) = rqV Rq.zero 14) := by
            have e8 : askW (x :: [k1]) = none := by rw [HAK.out]; show (if k1.size = 0 then none else _) = none; rw [if_pos hk0]
            show _ = _; rw [HPA.out.1, HPA.out.2, e8]
          clear hk0
          have HZZ := hide HS1.out.z
          have HBB := hide HS1.out.bel
          go_wp2_with (first | (refine wpList_store_row rfl 23 (.tmp 2) (.tmp 60) rfl w.heap.size #[.int .i64 0, .string ⟨#[]⟩, .string ⟨#[]⟩] rfl rfl 23 _ HZZ.out rq_info rfl (rq_one _ _ _) ?_))
          refine bodyPost_ret (res_rq rfl _ _ w.heap.size Rq.zero rfl (rqB_row HZZ.out _)) rfl ⟨by rw [HE.out]; rfl, below_setRow HBB.out (Nat.le_refl _) _⟩
        · have ek := not_empty hk0
          have HPX : Hid (paR s = (if rqE ⟨4, k1, ByteArray.empty⟩ = 0 then ⟨4, k1, ByteArray.empty⟩ else Rq.zero) ∧ paE s = rqE ⟨4, k1, ByteArray.empty⟩) := by
            have e8 : askW (x :: [k1]) = some ⟨4, k1, ByteArray.empty⟩ := by rw [HAK.out]; show (if k1.size = 0 then none else _) = _; rw [if_neg hk0]
            show _ ∧ _; rw [HPA.out.1, HPA.out.2, e8]; exact ⟨rfl, rfl⟩
          clear hk0
          have HRR := hide HS1.out.r
          have HCK := hide (fun W => qrcheck_any ⟨4, k1, ByteArray.empty⟩ W (by have := HKZ.out; simp only; omega) (by have := HVZ.out; simp only; omega))
          simp only [rqs] at HCK
          go_wp2_with (first | (refine wpList_load_row rfl 23 (.tmp 5) rfl b rfl 23 #[.int .i64 4, .string k1, .string ⟨#[]⟩] (0, 0) _ HRR.out Tryd.underlying23 rfl rq_info ?_))
          refine (HCK.out _).mono ?_
          rintro e9 W9 ⟨rfl, hb9⟩
          have H9 := hide (HS1.out.below hb9)
          have HR9 := hide H9.out.r
          have HZ9 := hide H9.out.z
          clear hb9
          by_cases hz : rqE ⟨4, k1, ByteArray.empty⟩ = 0
          · have HE : Hid (rqV (paR s) (paE s) = rqV ⟨4, k1, ByteArray.empty⟩ 0) := by show _ = _; rw [HPX.out.1, HPX.out.2, if_pos hz, hz]
            rw [hz]
            clear hz
            go_wp2_with (first | (refine wpList_load_row rfl 23 (.tmp 5) rfl b rfl 23 #[.int .i64 4, .string k1, .string ⟨#[]⟩] (0, 0) _ HR9.out Tryd.underlying23 rfl rq_info ?_) | (refine wpList_store_row rfl 23 (.tmp 2) (.tmp 82) rfl w.heap.size #[.int .i64 4, .string k1, .string ⟨#[]⟩] rfl rfl 23 _ HZ9.out rq_info rfl (rq_one _ _ _) ?_))
            refine bodyPost_ret (res_rq rfl _ _ w.heap.size ⟨4, k1, ByteArray.empty⟩ rfl (rqB_row HZ9.out _)) rfl ⟨by rw [HE.out]; rfl, below_setRow H9.out.bel (Nat.le_refl _) _⟩
          · have HE : Hid (rqV (paR s) (paE s) = rqV Rq.zero (rqE ⟨4, k1, ByteArray.empty⟩)) := by show _ = _; rw [HPX.out.1, HPX.out.2, if_neg hz]
            have g9 : (rqE ⟨4, k1, ByteArray.empty⟩ != 0) = true := by simpa using hz
            clear hz
            generalize rqE ⟨4, k1, ByteArray.empty⟩ = E9 at *
            go_wp2_with (first | (refine wpList_store_row rfl 23 (.tmp 2) (.tmp 80) rfl w.heap.size #[.int .i64 0, .string ⟨#[]⟩, .string ⟨#[]⟩] rfl rfl 23 _ HZ9.out rq_info rfl (rq_one _ _ _) ?_))
            refine bodyPost_ret (res_rq rfl _ _ w.heap.size Rq.zero rfl (rqB_row HZ9.out _)) rfl ⟨by rw [HE.out]; rfl, below_setRow H9.out.bel (Nat.le_refl _) _⟩
      have g3 : ((n : Int) != 2) = true := by simp; omega
      have HE : Hid (rqV (paR s) (paE s) = rqV Rq.zero 14) := by show _ = _; rw [HPA.out.1, HPA.out.2, HAK.out]; rw [if_neg (by decide), if_pos rfl, listW_no (by have := HNL.out; omega)]
      have HZZ := hide H.out.z
      have HBB := hide H.out.bel
      go_wp2_with (first | (refine wpList_store_row rfl 23 (.tmp 2) (.tmp 47) rfl w.heap.size #[.int .i64 0, .string ⟨#[]⟩, .string ⟨#[]⟩] rfl rfl 23 _ HZZ.out rq_info rfl (rq_one _ _ _) ?_))
      refine bodyPost_ret (res_rq rfl _ _ w.heap.size Rq.zero rfl (rqB_row HZZ.out _)) rfl ⟨by rw [HE.out]; rfl, below_setRow HBB.out (Nat.le_refl _) _⟩
end Go.Proofs.YtgcjcojmhfkbjaaDoor
