/- The law CodeFills returns true at every input, and writes nothing that was there. -/
import Derived.Test.YteiddjjakemklabCodeEncodesWalk
import Derived.Test.YteiddjjakemklabCdBack
import Derived.OpenShut
namespace Go.Proofs.Yteiddjjakemklab
open Go.RowKit
/-- the shards that there are among the first k, as cells -/
def selV (ls : List ByteArray) (hv : List Bool) (k : Nat) : List Value := (selTo ls hv k).map fun x => .string x.2
theorem selV_no {ls : List ByteArray} {hv : List Bool} {k : Nat} (h : hv[k]? = some false) : selTo ls hv (k + 1) = selTo ls hv k := by
  rw [selTo, h]; simp
theorem selV_yes {ls : List ByteArray} {hv : List Bool} {k : Nat} {s : ByteArray} (h : hv[k]? = some true) (hs : ls[k]? = some s) : selTo ls hv (k + 1) = selTo ls hv k ++ [(k, s)] := by
  rw [selTo, h, hs]; simp
def CkRel (w wr : World) (ls : List ByteArray) (hv : List Bool) (v : Value) (k : Nat) : Prop := wr.ownsRow w.heap.size 9 1 v (selTo ls hv k).length (selV ls hv k) ∧ Below w.heap.size w wr
theorem ckRel_step {w wr w1 : World} {ls : List ByteArray} {hv : List Bool} {v v' : Value} {k : Nat} {o : Obj} {s : ByteArray} (hh : hv[k]? = some true) (hs : ls[k]? = some s) (h : CkRel w wr ls hv v k) (hown : w1.ownsRow w.heap.size 9 1 v' ((selTo ls hv k).length + 1) (selV ls hv k ++ [.string s])) (hgr : (wr.alloc o).grownBy w1 v.ownBlock) : CkRel w w1 ls hv v' (k + 1) := by
  refine ⟨?_, ?_⟩
  · unfold selV
    rw [selV_yes hh hs, List.map_append, List.length_append]
    exact hown
  refine Below.grown (h.2.alloc h.2.size o) hgr ?_ fun g hg => (row_base h.1 hg).1
  rw [World.size_alloc]
  exact Nat.le_succ_of_le h.2.size
theorem ckRel_no {w wr : World} {ls : List ByteArray} {hv : List Bool} {v : Value} {k : Nat} (hh : hv[k]? = some false) (h : CkRel w wr ls hv v k) : CkRel w wr ls hv v (k + 1) := by
  unfold CkRel selV; rw [selV_no hh]; exact h
/-- the error that Check tells -/
def ckE (ls : List ByteArray) (hv : List Bool) : Int := if al (selS ls hv) = false then 1 else if cntOf hv < 6 then 2 else 0
theorem ckE_one {ls : List ByteArray} {hv : List Bool} (h : al (selS ls hv) = false) : ckE ls hv = 1 := by unfold ckE; rw [if_pos h]
theorem ckE_two {ls : List ByteArray} {hv : List Bool} (h : al (selS ls hv) = true) (h6 : cntOf hv < 6) : ckE ls hv = 2 := by unfold ckE; rw [if_neg (by rw [h]; simp), if_pos h6]
theorem ckE_zero {ls : List ByteArray} {hv : List Bool} (h : al (selS ls hv) = true) (h6 : 6 ≤ cntOf hv) : ckE ls hv = 0 := by unfold ckE; rw [if_neg (by rw [h]; simp), if_neg (by omega)]
set_option maxRecDepth 100000 in
set_option maxHeartbeats 4000000 in
theorem check_nine (a h : Option Addr) (ca ch : Nat) (ls : List ByteArray) (hv : List Bool) (w : World) (hls : ls.length = 9) (hhv : hv.length = 9) (hS : StrsAt w a ls) (hB : BoolsAt w h hv) :
    Calls Try.prog 18 #[.slice a 9 ca, .slice h 9 ch] w fun e w' => e = .returned (.int .i64 (ckE ls hv)) ∧ Below w.heap.size w w' := by
  rcases hS with hS | ⟨bs, o, rfl, hbs, hc⟩
  · rw [hS] at hls; simp at hls
  rcases hB with hB | ⟨bh, oh, rfl, hbh, hd⟩
  · rw [hB] at hhv; simp at hhv
  obtain ⟨i0, hi0, hz0, hz1, hz2⟩ := info_parts str_info
  have HI := hide hi0
  have HI0 := hide hz0
  have HI1 := hide hz1
  have HI2 := hide hz2
  have HLS := hide hls
  have HHV := hide hhv
  have HC := hide hc
  have HD := hide hd
  clear hi0 hz0 hz1 hz2 hls hhv hc hd
  go_enter Try.func18, Try.ntmps18
  go_wp2_with fail
  go_loopw [5, 6] (fun v y wr => ∃ k : Nat, k ≤ 9 ∧ y = .int .i64 k ∧ CkRel w wr ls hv v k) (fun _ y _ => 9 - (intOf y).toNat)
  case atStart => exact ⟨0, by omega, rfl, World.ownsRow_nil _ _ _ _, Below.refl _ _⟩
  case round =>
    obtain ⟨k, hk, rfl, hrel⟩ := hrel
    have H := hide hrel
    have hsz := hrel.2.size
    have hsl := selTo_len ls hv k
    clear hrel
    by_cases hlt : k < 9
    · have hdj : decide ((k : Int) < 9) = true := by simp; omega
      obtain ⟨s, hs⟩ : ∃ s, ls[k]? = some s := ⟨_, List.getElem?_eq_getElem (by have := HLS.out; omega)⟩
      obtain ⟨x, hx⟩ : ∃ x, hv[k]? = some x := ⟨_, List.getElem?_eq_getElem (by have := HHV.out; omega)⟩
      have hc1 : wr.cell? ⟨bs, o + k, none⟩ = some (.string s) := (H.out.2.cell (p := ⟨bs, o + k, none⟩) hbs).trans (HC.out k s hs)
      have hc2 : wr.cell? ⟨bh, oh + k, none⟩ = some (.bool x) := (H.out.2.cell (p := ⟨bh, oh + k, none⟩) hbh).trans (HD.out k x hx)
      have HK := hide hs
      have HX := hide hx
      clear hs hx
      cases x with
      | false =>
        go_wp2_with fail
        have HN3 := hide (ckRel_no HX.out H.out)
        first | exact ⟨⟨k + 1, by omega, by go_num, HN3.out⟩, by simp [intOf]; omega⟩ | (go_roundw; case rel => exact ⟨k + 1, by omega, by go_num, HN3.out⟩; case measure => simp [intOf]; omega)
      | true =>
        go_wp2_with (first | (at_builtin; refine wpList_append_own _ rfl (.tmp 23) (.tmp 28) 30 rfl w.heap.size 9 i0 (.string ByteArray.empty) 1 16 Try.underlying30 HI.out HI0.out HI1.out HI2.out rfl (by decide) _ (selTo ls hv k).length (selV ls hv k) rfl (H.out.1.alloc _) ⟨wr.heap.size, 0, none⟩ 1 1 [.string s] rfl rfl (cell_one_new _ _ _) (by simp [Value.oneCell']) (by unfold maxLen; omega) (by omega) (by simp; omega) ?_; intro v' w3 hown hgr hnil; clear hnil; have HN3 := hide (ckRel_step HX.out HK.out H.out hown hgr); clear hown hgr))
        first | exact ⟨⟨k + 1, by omega, by go_num, HN3.out⟩, by simp [intOf]; omega⟩ | (go_roundw; case rel => exact ⟨k + 1, by omega, by go_num, HN3.out⟩; case measure => simp [intOf]; omega)
    · obtain rfl : k = 9 := by omega
      obtain ⟨av, cv, hv', _, _, _, hst⟩ := row_strs (l := selS ls hv) H.out.1 (by simp [selV, selS]) (by simp [selS])
      subst hv'
      have HST := hide hst
      clear hst
      have hcn : (selTo ls hv 9).length = cntOf hv := sel_cnt ls hv
      rw [hcn] at hsl ⊢
      have HCN := hide hcn
      clear hcn
      have hs2 : (selS ls hv).length = cntOf hv := by rw [← HCN.out]; simp [selS]
      have HS2 := hide hs2
      clear hs2
      rcases (show al (selS ls hv) = false ∨ (al (selS ls hv) = true ∧ cntOf hv < 6) ∨ (al (selS ls hv) = true ∧ 6 ≤ cntOf hv) by cases al (selS ls hv) <;> simp <;> omega) with hal | ⟨hal, h6⟩ | ⟨hal, h6⟩
      · have HR : Hid (ckE ls hv = 1) := ckE_one hal
        have HAL := hide hal
        clear hal
        go_wp2_with fail
        refine (one_any av _ cv (selS ls hv) _ HS2.out (by omega) HST.out).mono ?_
        rintro e w1 ⟨he, q, rfl⟩
        rw [HAL.out] at he; subst he
        go_wp2_with fail
        go_ret
        exact ⟨by rw [HR.out]; rfl, below_draws H.out.2 q⟩
      · have HR : Hid (ckE ls hv = 2) := ckE_two hal h6
        have HAL := hide hal
        clear hal
        go_wp2_with fail
        refine (one_any av _ cv (selS ls hv) _ HS2.out (by omega) HST.out).mono ?_
        rintro e w1 ⟨he, q, rfl⟩
        rw [HAL.out] at he; subst he
        go_wp2_with fail
        go_ret
        exact ⟨by rw [HR.out]; rfl, below_draws H.out.2 q⟩
      · have HR : Hid (ckE ls hv = 0) := ckE_zero hal h6
        have HAL := hide hal
        clear hal
        go_wp2_with fail
        refine (one_any av _ cv (selS ls hv) _ HS2.out (by omega) HST.out).mono ?_
        rintro e w1 ⟨he, q, rfl⟩
        rw [HAL.out] at he; subst he
        go_wp2_with fail
        go_ret
        exact ⟨by rw [HR.out]; rfl, below_draws H.out.2 q⟩
set_option maxRecDepth 100000 in
set_option maxHeartbeats 2000000 in
theorem check_many (a h : Option Addr) (n m ca ch : Nat) (w : World) (hne : n ≠ 9 ∨ m ≠ 9) :
    Calls Try.prog 18 #[.slice a n ca, .slice h m ch] w fun e w' => e = .returned (.int .i64 1) ∧ w = w' := by
  rcases (show n ≠ 9 ∨ (n = 9 ∧ m ≠ 9) by omega) with h9 | ⟨rfl, h9⟩
  · have hb : ((n : Int) != 9) = true := by simp; omega
    clear h9 hne
    go_enter Try.func18, Try.ntmps18
    go_wp2_with fail
    go_ret
    exact ⟨rfl, rfl⟩
  · have hb : ((m : Int) != 9) = true := by simp; omega
    clear h9 hne
    go_enter Try.func18, Try.ntmps18
    go_wp2_with fail
    go_ret
    exact ⟨rfl, rfl⟩
def cntK (hv : List Bool) (k : Nat) : Nat := ((List.range k).filter fun i => hv[i]?.getD false).length
theorem cntK_no {hv : List Bool} {k : Nat} (h : hv[k]? = some false) : cntK hv (k + 1) = cntK hv k := by
  unfold cntK; rw [List.range_succ, List.filter_append, List.length_append]; simp [List.filter, h]
theorem cntK_yes {hv : List Bool} {k : Nat} (h : hv[k]? = some true) : cntK hv (k + 1) = cntK hv k + 1 := by
  unfold cntK; rw [List.range_succ, List.filter_append, List.length_append]; simp [List.filter, h]
theorem filter_pos (p : Nat → Bool) : ∀ (n i : Nat), i < n → p i = true → ((List.range n).filter p)[((List.range i).filter p).length]? = some i := by
  intro n
  induction n with
  | zero => intro i h; omega
  | succ n ih =>
    intro i hi hp
    rw [List.range_succ, List.filter_append]
    by_cases e : i = n
    · subst e
      rw [List.getElem?_append_right (Nat.le_refl _)]
      simp [List.filter, hp]
    · have := ih i (by omega) hp
      rw [List.getElem?_append_left (List.getElem?_eq_some_iff.1 this).1]
      exact this
set_option maxRecDepth 100000 in
set_option maxHeartbeats 4000000 in
theorem agrees_yes (a s h : Option Addr) (ca cs ch : Nat) (al ls : List ByteArray) (hv : List Bool) (w : World) (hal : al.length = 9) (hls : ls.length = 9) (hhv : hv.length = 9) (hA : StrsAt w a al) (hS : StrsAt w s ls) (hB : BoolsAt w h hv)
    (heq : ∀ i, i < 9 → hv[i]? = some true → cntK hv i < 6 → al[i]? = ls[i]?) :
    Calls Try.prog 19 #[.slice a 9 ca, .slice s 9 cs, .slice h 9 ch] w fun e w' => e = .returned (.bool true) ∧ Below w.heap.size w w' := by
  rcases hA with hA | ⟨ba, oa, rfl, hba, hca⟩
  · rw [hA] at hal; simp at hal
  rcases hS with hS | ⟨bs, o, rfl, hbs, hc⟩
  · rw [hS] at hls; simp at hls
  rcases hB with hB | ⟨bh, oh, rfl, hbh, hd⟩
  · rw [hB] at hhv; simp at hhv
  have HLS := hide hls
  have HHV := hide hhv
  have HCA := hide hca
  have HC := hide hc
  have HD := hide hd
  have HE := hide heq
  clear hal hls hhv hca hc hd heq
  go_enter Try.func19, Try.ntmps19
  go_wp2_with fail
  go_loopw [7, 8] (fun n y wr => ∃ k : Nat, k ≤ 9 ∧ y = .int .i64 k ∧ n = .int .i64 (cntK hv k : Nat) ∧ cntK hv k ≤ 6 ∧ ∃ m, wr = w.drewN m) (fun _ y _ => 9 - (intOf y).toNat)
  case atStart => exact ⟨0, by omega, rfl, rfl, by unfold cntK; simp, 0, rfl⟩
  case round =>
    obtain ⟨k, hk, rfl, rfl, hc6, m, hm⟩ := hrel
    have HM := hide hm
    clear hm
    by_cases hlt : k < 9
    · have hdj : decide ((k : Int) < 9) = true := by simp; omega
      by_cases hl6 : cntK hv k < 6
      · have hd6 : decide (((cntK hv k : Nat) : Int) < 6) = true := by simp; omega
        obtain ⟨t, ht⟩ : ∃ t, ls[k]? = some t := ⟨_, List.getElem?_eq_getElem (by have := HLS.out; omega)⟩
        obtain ⟨x, hx⟩ : ∃ x, hv[k]? = some x := ⟨_, List.getElem?_eq_getElem (by have := HHV.out; omega)⟩
        have hc2 : wr.cell? ⟨bh, oh + k, none⟩ = some (.bool x) := by rw [HM.out]; exact HD.out k x hx
        have hc1 : wr.cell? ⟨bs, o + k, none⟩ = some (.string t) := by rw [HM.out]; exact HC.out k t ht
        have hk0 : (0 : Int) ≤ (k : Int) := Int.natCast_nonneg _
        have hk9 : (k : Int) < 9 := by omega
        have HX := hide hx
        have HK := hide ht
        clear hx ht
        cases x with
        | false =>
          go_wp2_with fail
          go_roundw
          case rel => exact ⟨k + 1, by omega, by go_num, by rw [cntK_no HX.out], by rw [cntK_no HX.out]; exact hc6, m, HM.out⟩
          case measure => simp [intOf]; omega
        | true =>
          have hc3 : wr.cell? ⟨ba, oa + k, none⟩ = some (.string t) := by rw [HM.out]; exact HCA.out k t ((HE.out k hlt HX.out hl6).trans HK.out)
          go_wp2_with fail
          go_quiet (fail)
          go_wp2_with fail
          go_roundw
          case rel => exact ⟨k + 1, by omega, by go_num, by rw [cntK_yes HX.out]; go_num, by rw [cntK_yes HX.out]; omega, by rw [HM.out]; exact drew2 _ _ _⟩
          case measure => simp [intOf]; omega
      · have hd6 : decide (((cntK hv k : Nat) : Int) < 6) = false := by simp; omega
        go_wp2_with fail
        go_ret
        exact ⟨rfl, by rw [HM.out]; exact below_draws (Below.refl _ _) m⟩
    · have hdj : decide ((k : Int) < 9) = false := by simp; omega
      go_wp2_with fail
      go_ret
      exact ⟨rfl, by rw [HM.out]; exact below_draws (Below.refl _ _) m⟩
theorem lenS_le {ls : List ByteArray} {hv : List Bool} {many : Int} (h : smallB ls many 60 = true) : lenS ls hv ≤ 60 := by
  unfold lenS
  cases e : (selS ls hv)[0]? with
  | none => simp
  | some s =>
    obtain ⟨i, _, _, rfl⟩ := sel_mem (List.mem_of_getElem? e)
    simp only [Option.getD_some]
    cases e2 : ls[i]? with
    | none => simp
    | some t =>
      have := (small_iff.1 h).1 t (List.mem_of_getElem? e2)
      simp only [Option.getD_some]
      omega
/-- what Fill tells has the first six of those that there are -/
theorem told_agrees {k : Cd.Cert} (hk : k.ok = true) {ls : List ByteArray} {hv : List Bool} (hls : ls.length = 9) (he : k.idx = idxOf hv) (hal : al (selS ls hv) = true) {i : Nat} (hi : i < 9) (hh : hv[i]? = some true) (hc : cntK hv i < 6) :
    (nine (dataL (k.a 6) ((selS ls hv).take 6) (lenS ls hv)) (lenS ls hv))[i]? = ls[i]? := by
  obtain ⟨s, hs⟩ : ∃ s, ls[i]? = some s := ⟨_, List.getElem?_eq_getElem (by omega)⟩
  have hf := filter_pos (fun i => hv[i]?.getD false) 9 i hi (by rw [hh]; rfl)
  have hsel : (selS ls hv)[cntK hv i]? = some s := by
    unfold selS
    rw [selTo_snd, selTo_fst, List.getElem?_map]
    unfold cntK
    rw [hf]
    simp [hs]
  have hidx : k.idx.getD (cntK hv i) 0 = i := by
    rw [he]
    unfold idxOf
    rw [List.getD_eq_getElem?_getD, List.getElem?_take, if_pos hc]
    unfold cntK
    rw [hf]; rfl
  rw [nine_at _ _ hi, hs]
  have hz : s.size = lenS ls hv := al_size hal s (List.mem_of_getElem? hsel)
  have := told_has hk (l6 := (selS ls hv).take 6) (L := lenS ls hv) hc (s := s) (by rw [List.getElem?_take, if_pos hc]; exact hsel) hz
  rw [hidx] at this
  rw [this]
theorem dataL_len (B : Cd.Mat) (l6 : List ByteArray) (L : Nat) : (dataL B l6 L).length = 6 := by simp [dataL]
set_option maxRecDepth 100000 in
set_option maxHeartbeats 2000000 in
theorem fills_big (a0 : Option Addr) (l0 c0 : Nat) (a1 : Option Addr) (l1 c1 : Nat) (w : World) (d : List ByteArray) (hl0 : d.length = l0) (h0 : l0 ≤ 9223372036854775807) (hS0 : StrsAt w a0 d) (h1 : l1 ≤ 9223372036854775807)
    (h : smallB d 12 60 = false ∨ 12 < l1) :
    Calls Try.prog 5 #[.slice a0 l0 c0, .slice a1 l1 c1] w fun e w' => e = .returned (.bool true) ∧ Below w.heap.size w w' := by
  have HL0 := hide hl0
  have HS0 := hide hS0
  rcases (show smallB d 12 60 = false ∨ (smallB d 12 60 = true ∧ 12 < l1) by
    cases e : smallB d 12 60
    · exact .inl rfl
    · rw [e] at h; simp at h; exact .inr ⟨rfl, h⟩) with hd | ⟨hd, hs⟩
  all_goals
    clear h hl0 hS0
    go_enter Try.func5, Try.ntmps5
    go_wp2_with fail
    refine (small_wide a0 l0 c0 12 60 d _ HL0.out h0 HS0.out).mono ?_
    rintro e w1 ⟨he, rfl⟩
    rw [hd] at he; subst he
    go_wp2_with fail
    refine (live_any _).mono ?_
    rintro e w2 ⟨rfl, hb2⟩
    go_wp2_with fail
    go_ret
    exact ⟨rfl, hb2⟩
set_option maxRecDepth 100000 in
set_option maxHeartbeats 2000000 in
theorem fills_many (a0 : Option Addr) (l0 c0 : Nat) (a1 : Option Addr) (l1 c1 : Nat) (w : World) (d : List ByteArray) (hl0 : d.length = l0) (hS0 : StrsAt w a0 d) (h1 : l1 ≤ 12)
    (h : smallB d 12 60 = true) (hne : l0 ≠ 9 ∨ l1 ≠ 9) :
    Calls Try.prog 5 #[.slice a0 l0 c0, .slice a1 l1 c1] w fun e w' => e = .returned (.bool true) ∧ Below w.heap.size w w' := by
  have h12 : l0 ≤ 12 := by have := (small_iff.1 h).2; omega
  have HL0 := hide hl0
  have HS0 := hide hS0
  have HD := hide h
  have HNE := hide hne
  clear hl0 hS0 h hne
  go_enter Try.func5, Try.ntmps5
  go_wp2_with fail
  refine (small_wide a0 l0 c0 12 60 d _ HL0.out (by omega) HS0.out).mono ?_
  rintro e w1 ⟨he, rfl⟩
  rw [HD.out] at he; subst he
  go_wp2_with fail
  refine (new_any _).mono ?_
  rintro e w1 ⟨rfl, ht, hb1⟩
  have HB1 := hide hb1
  clear ht hb1
  go_wp2_with fail
  refine (fill_many _ a0 a1 l0 l1 c0 c1 _ HNE.out).mono ?_
  rintro e w2 ⟨rfl, rfl⟩
  simp only [noStrs]
  go_wp2_with fail
  refine (check_many a0 a1 l0 l1 c0 c1 _ HNE.out).mono ?_
  rintro e w2 ⟨rfl, rfl⟩
  go_wp2_with fail
  refine (live_any _).mono ?_
  rintro e w2 ⟨rfl, hb2⟩
  go_wp2_with fail
  go_ret
  exact ⟨rfl, HB1.out.trans (hb2.mono HB1.out.size)⟩
set_option maxRecDepth 100000 in
set_option maxHeartbeats 2000000 in
theorem fills_nine (a0 : Option Addr) (c0 : Nat) (a1 : Option Addr) (c1 : Nat) (w : World) (d : List ByteArray) (hv : List Bool) (hl0 : d.length = 9) (hl1 : hv.length = 9) (hS0 : StrsAt w a0 d) (hB : BoolsAt w a1 hv)
    (h : smallB d 12 60 = true) :
    Calls Try.prog 5 #[.slice a0 9 c0, .slice a1 9 c1] w fun e w' => e = .returned (.bool true) ∧ Below w.heap.size w w' := by
  have HL0 := hide hl0
  have HL1 := hide hl1
  have HS0 := hide hS0
  have HBS := hide hB
  have HD := hide h
  clear hl0 hl1 hS0 hB h
  go_enter Try.func5, Try.ntmps5
  go_wp2_with fail
  refine (small_wide a0 9 c0 12 60 d _ HL0.out (by omega) HS0.out).mono ?_
  rintro e w1 ⟨he, rfl⟩
  rw [HD.out] at he; subst he
  go_wp2_with fail
  refine (new_any _).mono ?_
  rintro e w1 ⟨rfl, ht, hb1⟩
  have HT1 := hide ht
  have HB1 := hide hb1
  clear ht hb1
  go_wp2_with fail
  obtain ⟨k, hk, he, hF⟩ : ∃ k : Cd.Cert, k.ok = true ∧ (6 ≤ cntOf hv → k.idx = idxOf hv) ∧ Calls Try.prog 17 #[.pointer (some ⟨w.heap.size, 0, none⟩), .slice a0 9 c0, .slice a1 9 c1] w1 (FillPost w1 d hv fun i => sh (dataL (k.a 6) ((selS d hv).take 6) (lenS d hv)) (lenS d hv) i) := by
    rcases HS0.out with hS | ⟨bs, o, rfl, hbs, hc⟩
    · have := HL0.out; rw [hS] at this; simp at this
    rcases HBS.out with hB | ⟨bh, oh, rfl, hbh, hd⟩
    · have := HL1.out; rw [hB] at this; simp at this
    have hsz := HB1.out.size
    exact fill_cert w.heap.size bs o bh oh c0 c1 d hv w1 HT1.out HL0.out HL1.out (by omega) (by omega) (by have := lenS_le (hv := hv) HD.out; omega)
      (fun i s hs => (HB1.out.cell (p := ⟨bs, o + i, none⟩) hbs).trans (hc i s hs)) (fun i s hs => (HB1.out.cell (p := ⟨bh, oh + i, none⟩) hbh).trans (hd i s hs))
  have HK := hide hk
  have HE := hide he
  have HF := hide hF
  clear hk he hF
  refine HF.out.mono ?_
  rintro e w2 hpost
  have hb12 : Below w1.heap.size w1 w2 := by rcases hpost with ⟨_, _, h⟩ | ⟨_, _, _, h⟩ | ⟨_, _, _, _, _, _, h⟩ <;> exact h
  have HB2 := hide (HB1.out.trans (hb12.mono HB1.out.size))
  clear HF HT1 HB1 hb12
  have HC2 := check_nine a0 a1 c0 c1 d hv w2 HL0.out HL1.out (HS0.out.below HB2.out) (HBS.out.below HB2.out)
  rcases hpost with ⟨hal, rfl, _⟩ | ⟨hal, hlt, rfl, _⟩ | ⟨hal, h6, g, rfl, hg, hf, _⟩
  · have HR := hide (ckE_one hal)
    clear hal
    go_wp2_with fail
    refine HC2.mono ?_
    rintro e w3 ⟨he, hb3⟩
    rw [HR.out] at he; subst he
    have HB3 := hide (HB2.out.trans (hb3.mono HB2.out.size))
    clear hb3
    go_wp2_with fail
    refine (live_any _).mono ?_
    rintro e w4 ⟨rfl, hb4⟩
    go_wp2_with fail
    go_ret
    exact ⟨rfl, HB3.out.trans (hb4.mono HB3.out.size)⟩
  · rw [sel_cnt] at hlt
    have HR := hide (ckE_two hal hlt)
    clear hal hlt
    go_wp2_with fail
    refine HC2.mono ?_
    rintro e w3 ⟨he, hb3⟩
    rw [HR.out] at he; subst he
    have HB3 := hide (HB2.out.trans (hb3.mono HB2.out.size))
    clear hb3
    go_wp2_with fail
    refine (live_any _).mono ?_
    rintro e w4 ⟨rfl, hb4⟩
    go_wp2_with fail
    go_ret
    exact ⟨rfl, HB3.out.trans (hb4.mono HB3.out.size)⟩
  · rw [sel_cnt] at h6
    have HR := hide (ckE_zero hal h6)
    have HSL := hide hf.nine
    have HAG := hide (fun i hi hh hc => told_agrees HK.out HL0.out (HE.out h6) hal (i := i) hi hh hc)
    have HLE := lenS_le (hv := hv) HD.out
    clear hal h6 hf hg
    generalize hD : dataL (k.a 6) ((selS d hv).take 6) (lenS d hv) = D at *
    have hDl : D.length = 6 := by rw [← hD]; exact dataL_len _ _ _
    have hDz : ∀ s ∈ D, s.size = lenS d hv := by rw [← hD]; exact size6 _ _ _
    have HDL := hide hDl
    have HDZ := hide hDz
    clear hDl hDz hD
    go_wp2_with fail
    refine HC2.mono ?_
    rintro e w3 ⟨he, hb3⟩
    rw [HR.out] at he; subst he
    have HB3 := hide (HB2.out.trans (hb3.mono HB2.out.size))
    have HSL3 := hide (HSL.out.below hb3)
    clear hb3
    go_wp2_with fail
    refine (refIs_gen (some ⟨g, 0, none⟩) 9 9 (nine D (lenS d hv)) _ (nine_len _ _) HSL3.out (by omega) (by rw [nine_take HDL.out HDZ.out, head_size HDL.out HDZ.out]; omega)).mono ?_
    rintro e w4 ⟨he, hb4⟩
    rw [nine_is HDL.out HDZ.out] at he; subst he
    have HB4 := hide (HB3.out.trans (hb4.mono HB3.out.size))
    have HSL4 := hide (HSL3.out.below hb4)
    clear hb4
    go_wp2_with fail
    refine (agrees_yes (some ⟨g, 0, none⟩) a0 a1 9 c0 c1 (nine D (lenS d hv)) d hv _ (nine_len _ _) HL0.out HL1.out HSL4.out (HS0.out.below HB4.out) (HBS.out.below HB4.out) HAG.out).mono ?_
    rintro e w5 ⟨rfl, hb5⟩
    have HB5 := hide (HB4.out.trans (hb5.mono HB4.out.size))
    clear hb5
    go_wp2_with fail
    refine (live_any _).mono ?_
    rintro e w6 ⟨rfl, hb6⟩
    go_wp2_with fail
    go_ret
    exact ⟨rfl, HB5.out.trans (hb6.mono HB5.out.size)⟩
theorem walkCodeFills (a0 : Option Addr) (l0 c0 : Nat) (a1 : Option Addr) (l1 c1 : Nat) (w : World) (w0 : Came 30 w a0 l0 c0) (w1 : Came 38 w a1 l1 c1) :
    Calls Try.prog 5 #[.slice a0 l0 c0, .slice a1 l1 c1] w fun e w' => e = .returned (.bool true) ∧ Below w.heap.size w w' := by
  obtain ⟨d, hl0, hc0, hm0, hS0⟩ := came_strs w0
  obtain ⟨hv, hl1, hc1, hm1, hB⟩ := came_bools w1
  by_cases hbig : smallB d 12 60 = false ∨ 12 < l1
  · exact fills_big a0 l0 c0 a1 l1 c1 w d hl0 hm0 hS0 hm1 hbig
  · have h1 : smallB d 12 60 = true := by cases h : smallB d 12 60 <;> simp [h] at hbig ⊢
    have h2 : l1 ≤ 12 := by omega
    by_cases hne : l0 ≠ 9 ∨ l1 ≠ 9
    · exact fills_many a0 l0 c0 a1 l1 c1 w d hl0 hS0 h2 h1 hne
    · obtain rfl : l0 = 9 := by omega
      obtain rfl : l1 = 9 := by omega
      exact fills_nine a0 c0 a1 c1 w d hv hl0 hl1 hS0 hB h1
end Go.Proofs.Yteiddjjakemklab
