/- ReplayMends answers true at every input. -/
import Derived.Test.YtaiafbihcfbglaaRpLive
import Derived.Test.YtaiafbihcfbglaaRpMend
namespace Go.Proofs.Ytaiafbihcfbglaa
open Go.RowKit
set_option linter.unusedVariables false
set_option maxRecDepth 100000 in
set_option maxHeartbeats 16000000 in
theorem mends_a (a0 : Option Addr) (l0 c0 : Nat) (a1 : Option Addr) (l1 c1 : Nat) (w : World) (L0 : List ByteArray) (hl0 : L0.length = l0) (z0 : l0 ≤ 9223372036854775807) (hS0 : StrsAt w a0 L0) (L1 : List ByteArray) (hl1 : L1.length = l1) (z1 : l1 ≤ 9223372036854775807) (hS1 : StrsAt w a1 L1) (h : smallB L0 20 300 = false) : Calls Try.prog 6 #[.slice a0 l0 c0, .slice a1 l1 c1] w fun e w' => e = .returned (.bool true) ∧ Below w.heap.size w w' := by
  have HL0 := hide hl0
  have HS0 := hide hS0
  have HL1 := hide hl1
  have HS1 := hide hS1
  clear hl0 hS0 hl1 hS1
  go_enter Try.func6, Try.ntmps6
  go_wp2_with fail
  refine (small_wide a0 l0 c0 20 300 L0 w HL0.out z0 HS0.out).mono ?_
  rintro e _ ⟨he, rfl⟩
  rw [h] at he; subst he
  go_wp2_with fail
  refine (live12_any w).mono ?_
  rintro e wl ⟨rfl, hbl⟩
  go_wp2_with fail
  try go_ret
  exact ⟨rfl, hbl⟩
set_option maxRecDepth 100000 in
set_option maxHeartbeats 16000000 in
theorem mends_b (a0 : Option Addr) (l0 c0 : Nat) (a1 : Option Addr) (l1 c1 : Nat) (w : World) (L0 : List ByteArray) (hl0 : L0.length = l0) (z0 : l0 ≤ 9223372036854775807) (hS0 : StrsAt w a0 L0) (L1 : List ByteArray) (hl1 : L1.length = l1) (z1 : l1 ≤ 9223372036854775807) (hS1 : StrsAt w a1 L1) (s0 : smallB L0 20 300 = true) (h : smallB L1 20 300 = false) : Calls Try.prog 6 #[.slice a0 l0 c0, .slice a1 l1 c1] w fun e w' => e = .returned (.bool true) ∧ Below w.heap.size w w' := by
  have HL0 := hide hl0
  have HS0 := hide hS0
  have HL1 := hide hl1
  have HS1 := hide hS1
  clear hl0 hS0 hl1 hS1
  go_enter Try.func6, Try.ntmps6
  go_wp2_with fail
  refine (small_wide a0 l0 c0 20 300 L0 w HL0.out z0 HS0.out).mono ?_
  rintro e _ ⟨he, rfl⟩
  rw [s0] at he; subst he
  go_wp2_with fail
  refine (small_wide a1 l1 c1 20 300 L1 w HL1.out z1 HS1.out).mono ?_
  rintro e _ ⟨he, rfl⟩
  rw [h] at he; subst he
  go_wp2_with fail
  refine (live12_any w).mono ?_
  rintro e wl ⟨rfl, hbl⟩
  go_wp2_with fail
  try go_ret
  exact ⟨rfl, hbl⟩
set_option maxRecDepth 100000 in
set_option maxHeartbeats 16000000 in
theorem mends_main (a0 : Option Addr) (l0 c0 : Nat) (ad : Addr) (l1 c1 : Nat) (w : World) (L0 : List ByteArray) (hl0 : L0.length = l0) (z0 : l0 ≤ 9223372036854775807) (hS0 : StrsAt w a0 L0) (L1 : List ByteArray) (hl1 : L1.length = l1) (z1 : l1 ≤ 9223372036854775807) (hS1 : StrsAt w (some ad) L1) (s0 : smallB L0 20 300 = true) (s1 : smallB L1 20 300 = true) (P : List Rc) (hP : prefR L0 = P) : Calls Try.prog 6 #[.slice a0 l0 c0, .slice (some ad) l1 c1] w fun e w' => e = .returned (.bool true) ∧ Below w.heap.size w w' := by
  have h20 : l0 ≤ 20 := small_len (m := 20) s0 hl0
  have h21 : l1 ≤ 20 := small_len (m := 20) s1 hl1
  have hPl : P.length ≤ 20 := by rw [← hP]; have := pref_le L0; omega
  have XA : Hid (∀ w, StrsAt w a0 L0 → Calls Try.prog 12 #[.slice a0 l0 c0] w (PxP P w)) := fun w q => by rw [← hP]; exact px_any a0 l0 c0 L0 w hl0 z0 q (small_of s0)
  have HFIN : Hid (∀ k, P.length ≤ l1 + k → (∀ s ∈ fixL P (L1 ++ List.replicate k ByteArray.empty) (misQ L1 P), s.size ≤ 150000000000000) ∧ begR P (prefR (fixL P (L1 ++ List.replicate k ByteArray.empty) (misQ L1 P))) = true ∧ misQ (fixL P (L1 ++ List.replicate k ByteArray.empty) (misQ L1 P)) P = [] ∧ (fixL P (L1 ++ List.replicate k ByteArray.empty) (misQ L1 P)).length = (L1 ++ List.replicate k ByteArray.empty).length) := fun k hk => mend_fin hP (small_of s0) (grow_sz (small_of s1)) grow_at (by rw [List.length_append, List.length_replicate]; omega)
  have HMA : Hid (∀ (i : Nat) (x : Int), (misQ L1 P)[i]? = some x → ∃ j : Nat, j < P.length ∧ x = (j : Int) ∧ ∀ y, 0 < i → (misQ L1 P)[i - 1]? = some y → y < x) := fun i x h => misQ_at h
  have HML := hide (misQ_len L1 P)
  clear hP
  obtain ⟨i0, hi, hz0, hz1, hz2⟩ := info_parts str_info
  have HI := hide hi
  have HI0 := hide hz0
  have HI1 := hide hz1
  have HI2 := hide hz2
  clear hi hz0 hz1 hz2
  have HL0 := hide hl0
  have HS0 := hide hS0
  have HL1 := hide hl1
  have HS1 := hide hS1
  clear hl0 hS0 hl1 hS1
  go_enter Try.func6, Try.ntmps6
  go_wp2_with fail
  refine (small_wide a0 l0 c0 20 300 L0 w HL0.out z0 HS0.out).mono ?_
  rintro e _ ⟨he, rfl⟩
  rw [s0] at he; subst he
  go_wp2_with fail
  refine (small_wide (some ad) l1 c1 20 300 L1 w HL1.out z1 HS1.out).mono ?_
  rintro e _ ⟨he, rfl⟩
  rw [s1] at he; subst he
  go_wp2_with fail
  clear s0 s1
  refine (XA.out w HS0.out).mono ?_
  rintro e w1 ⟨p, n, c, rfl, hr, hb⟩
  have B1 := hide hb
  have R1 := hide hr
  have HN : Hid (P.length = n) := hr.len
  have S1 := hide (HS1.out.below hb)
  clear hb hr XA HS0 HL0
  go_wp2_with (first | (at_builtin; refine wpList_append_own _ rfl (.tmp 22) (.tmp 23) 22 rfl w1.heap.size 9 i0 (.string ByteArray.empty) 1 16 Try.underlying22 HI.out HI0.out HI1.out HI2.out rfl (by decide) _ 0 [] rfl (World.ownsRow_nil _ _ _ _) ad l1 _ (stV L1) rfl (by rw [stV_len, HL1.out]) S1.out.news2 (stV_one L1) (by unfold maxLen; omega) (by omega) (Nat.le_refl _) ?_; intro v' w2 hown hgr hnil; clear hnil; have G2 : Hid (GrI L1 l1 n w1 w2 v') := GrI.first HL1.out (by rw [Nat.zero_add, List.nil_append] at hown; exact hown) (below_of_grown hgr); clear hown hgr))
  go_loopw [6] (fun v wr => GrI L1 l1 n w1 wr v) (fun v _ => n - slN v)
  case atStart => exact G2.out
  case round =>
    obtain ⟨va, m, vc, rfl, hm1, hm2, hgr⟩ := hrel
    have G := hide hgr
    clear hgr
    by_cases hlt : m < n
    · have hd : decide ((m : Int) < (n : Int)) = true := by simp; omega
      have hdi : (m : Int) < (n : Int) := by omega
      have hn20 : n ≤ 20 := by have := HN.out; omega
      go_wp2_with (first | (at_builtin; refine wpList_append_own _ rfl (.tmp 30) (.tmp 31) 22 rfl w1.heap.size 9 i0 (.string ByteArray.empty) 1 16 Try.underlying22 HI.out HI0.out HI1.out HI2.out rfl (by decide) _ m (stV (L1 ++ List.replicate (m - l1) ByteArray.empty)) rfl (own_alloc G.out.1 _) ⟨wr.heap.size, 0, none⟩ 1 1 [.string ByteArray.empty] rfl rfl (cell_one_new _ _ _) (by simp [Value.oneCell']) (by unfold maxLen; omega) (by omega) (by rw [World.size_alloc]; have := G.out.2.size; omega) ?_; intro v' w3 hown hgr hnil; clear hnil; have G3 := hide (GrI.next hm1 hlt (G.out.step hown hgr)); clear hown hgr))
      exact ⟨G3.out.1, by rw [G3.out.2]; simp [slN]; omega⟩
    · have hd : decide ((m : Int) < (n : Int)) = false := by simp; omega
      have hdi : ¬ (m : Int) < (n : Int) := by omega
      have hm20 : m ≤ 20 := by have := HN.out; omega
      have hcl := grow_len HL1.out hm1
      have HCY := hide (cpy_of G.out.1 hcl)
      have BR := hide G.out.2
      have HF := hide (HFIN.out (m - l1) (by have := HN.out; omega))
      have SO := hide (S1.out.below G.out.2)
      have RO := hide (R1.out.below G.out.2)
      have HLc := hide hcl
      clear G HFIN S1 hcl
      generalize L1 ++ List.replicate (m - l1) ByteArray.empty = cs at *
      have XM : Hid (Calls Try.prog 20 #[.slice (some ad) l1 c1, .slice p n c] wr fun e w' => ∃ a' c', e = .returned (.slice a' (misQ L1 P).length c') ∧ (misQ L1 P).length ≤ c' ∧ IntsAt w' a' (misQ L1 P) ∧ Below wr.heap.size wr w' ∧ ∀ b o, a' = some ⟨b, o, none⟩ → wr.heap.size ≤ b) := pm_any HL1.out (by omega) SO.out RO.out
      clear SO RO HL1
      generalize misQ L1 P = M at *
      obtain ⟨q, hq⟩ : ∃ q, M.length = q := ⟨_, rfl⟩
      rw [hq] at XM
      have HQ := hide hq
      have hqn : q ≤ n := by have := HML.out; have := HN.out; omega
      clear hq HML
      go_wp2_with fail
      refine XM.out.mono ?_
      rintro e w4 ⟨ia, ic, rfl, hic, hin, hb, hfar⟩
      have HNE : Hid (∀ g b o, va = some ⟨g, 0, none⟩ → m ≠ 0 → ia = some ⟨b, o, none⟩ → b ≠ g) := fun g b o e1 h0 e2 => by
        obtain ⟨a', c', e, _, _, _, h4⟩ := HCY.out
        cases e
        rcases h4 with h4 | ⟨g', e3, _, hsb⟩
        · exact absurd h4 h0
        · rw [e1] at e3
          cases e3
          have := hfar b o e2
          have := hsb.lt
          omega
      have I4 := hide hin
      have C4 : Hid (CpyAt w1.heap.size (.slice va m vc) m cs w4) := by
        obtain ⟨a', c', e, k1, k2, k3, h4⟩ := HCY.out
        refine ⟨a', c', e, k1, k2, k3, ?_⟩
        rcases h4 with h4 | ⟨g', e3, k4, hsb⟩
        · exact .inl h4
        · exact .inr ⟨g', e3, k4, hsb.below hb hsb.lt⟩
      have B4 := hide (BR.out.trans (hb.mono BR.out.size))
      clear hin hb hfar HCY BR XM
      go_wp2_with fail
      go_loopw [8] (fun y wq => ∃ i : Nat, i ≤ q ∧ y = .int .i64 i ∧ CpyAt w1.heap.size (.slice va m vc) m (fixL P cs (M.take i)) wq ∧ IntsAt wq ia M ∧ Below w1.heap.size w1 wq) (fun y _ => q - (intOf y).toNat)
      case atStart => exact ⟨0, by omega, rfl, C4.out, I4.out, B4.out⟩
      case round =>
        obtain ⟨i, hi, rfl, hcy, hin, hb⟩ := hrel
        have C5 := hide hcy
        have I5 := hide hin
        have B5 := hide hb
        clear hcy hin hb C4 I4 B4
        by_cases hiq : i < q
        · have hd2 : decide ((i : Int) < (q : Int)) = true := by simp; omega
          have hdi2 : (i : Int) < (q : Int) := by omega
          have hd0 : (0 : Int) ≤ (i : Int) := by omega
          obtain ⟨x, hx⟩ : ∃ x, M[i]? = some x := ⟨_, List.getElem?_eq_getElem (by have := HQ.out; omega)⟩
          obtain ⟨j, hj, rfl, hprev⟩ := HMA.out i x hx
          have HFT := hide (fix_take (P := P) (cs := cs) hx)
          have hjn : j < n := by have := HN.out; omega
          obtain ⟨rb, ro, xa, xc, rfl, hrb, hrg, hlo, hfi⟩ := (R1.out.below B5.out).nth hjn
          obtain ⟨ib, io, rfl, hib, e1⟩ := I5.out.nth hx
          have P5 := hide hrg
          have L5 := hide hlo
          clear hrg hlo
          generalize P.getD j Rc.zero = r at *
          have k1 : decide ((j : Int) < 0) = false := by simp
          have k2 : decide ((j : Int) ≥ (n : Int)) = false := by simp; omega
          have k3 : decide (n ≤ j) = false := by simp; omega
          have k4 : ¬ (n : Int) ≤ (j : Int) := by omega
          have k5 : (j : Int) < (n : Int) := by omega
          have k6 : (0 : Int) ≤ (j : Int) := by omega
          rcases i with _ | i
          · clear hprev
            simp only [Nat.add_zero] at e1
            go_wp2_with fail
            go_quiet (fail)
            go_wp2_with (first | (refine wpList_load_mid rfl 55 (.tmp 78) rfl rb (ro + j * 14) rfl (rtC (r, xa, xc)).toList _ P5.out Try.underlying55 rfl rec_info ?_; rw [show (rtC (r, xa, xc)).toList.toArray = rcs r xa xc from rfl]))
            refine (rwrite_any r xa xc (wr.drewN _) (LocsAt.drewN L5.out _) hfi).mono ?_
            rintro e w5 ⟨rfl, hb⟩
            have hbb : Below wr.heap.size wr w5 := (drawn_below (Below.refl wr.heap.size wr) _).trans hb
            obtain ⟨g, rfl, hg, hsb, hmc, hc63, hcl⟩ := C5.out.open (by omega)
            have hsb5 := hsb.below hbb hsb.lt
            obtain ⟨s9, hs9⟩ : ∃ s, (fixL P cs (M.take 0))[j]? = some s := ⟨_, List.getElem?_eq_getElem (by omega)⟩
            have q1 := hsb5.cell hs9
            have q2 := hsb5.free j
            have e5 := (hbb.cell (p := ⟨ib, io, none⟩) hib).trans e1
            have hjm : (j : Int) < (m : Int) := by omega
            have hne : ib ≠ g := HNE.out g ib io rfl (by omega) rfl
            have I6 := hide ((I5.out.below hbb).set (g := g) (p := j) (v := .string (wR r)) (fun b o h => by cases h; exact hne))
            have B6 := hide ((B5.out.trans (hbb.mono B5.out.size)).setCell (p := ⟨g, j, none⟩) hg (.string (wR r)))
            have C6 : Hid (CpyAt w1.heap.size (.slice (some ⟨g, 0, none⟩) m vc) m (fixL P cs (M.take (0 + 1))) (w5.setCell ⟨g, j, none⟩ (.string (wR r)))) := ⟨_, vc, rfl, hmc, hc63, by rw [fixL_len] at hcl ⊢; exact hcl, .inr ⟨g, rfl, hg, by rw [HFT.out]; exact hsb5.set j _⟩⟩
            clear hb hbb hsb hsb5 hs9 e1 C5 I5 B5 hcl
            generalize wR r = S9 at *
            generalize ckR r = E9 at *
            go_wp2_with fail
            exact ⟨⟨0 + 1, by omega, by go_num, C6.out, I6.out, B6.out⟩, by simp [intOf]; omega⟩
          · clear hd0
            have hd0 : (0 : Int) ≤ (i : Int) := by omega
            obtain ⟨y, hy⟩ : ∃ y, M[i]? = some y := ⟨_, List.getElem?_eq_getElem (by have := HQ.out; omega)⟩
            obtain ⟨j2, hj2, rfl, _⟩ := HMA.out i y hy
            have hlt2 := hprev (j2 : Int) (by omega) hy
            obtain ⟨ib2, io2, e9, hib2, e2⟩ := I5.out.nth hy
            cases e9
            have k7 : decide ((j2 : Int) ≥ (j : Int)) = false := by simp; omega
            have k8 : decide (j ≤ j2) = false := by simp; omega
            have k9 : ¬ (j : Int) ≤ (j2 : Int) := by omega
            clear hy hprev
            go_wp2_with fail
            go_quiet (fail)
            go_wp2_with (first | (refine wpList_load_mid rfl 55 (.tmp 78) rfl rb (ro + j * 14) rfl (rtC (r, xa, xc)).toList _ P5.out Try.underlying55 rfl rec_info ?_; rw [show (rtC (r, xa, xc)).toList.toArray = rcs r xa xc from rfl]))
            refine (rwrite_any r xa xc (wr.drewN _) (LocsAt.drewN L5.out _) hfi).mono ?_
            rintro e w5 ⟨rfl, hb⟩
            have hbb : Below wr.heap.size wr w5 := (drawn_below (Below.refl wr.heap.size wr) _).trans hb
            obtain ⟨g, rfl, hg, hsb, hmc, hc63, hcl⟩ := C5.out.open (by omega)
            have hsb5 := hsb.below hbb hsb.lt
            obtain ⟨s9, hs9⟩ : ∃ s, (fixL P cs (M.take (i + 1)))[j]? = some s := ⟨_, List.getElem?_eq_getElem (by omega)⟩
            have q1 := hsb5.cell hs9
            have q2 := hsb5.free j
            have e5 := (hbb.cell (p := ⟨ib, io + (i + 1), none⟩) hib).trans e1
            have hjm : (j : Int) < (m : Int) := by omega
            have hne : ib ≠ g := HNE.out g ib io rfl (by omega) rfl
            have I6 := hide ((I5.out.below hbb).set (g := g) (p := j) (v := .string (wR r)) (fun b o h => by cases h; exact hne))
            have B6 := hide ((B5.out.trans (hbb.mono B5.out.size)).setCell (p := ⟨g, j, none⟩) hg (.string (wR r)))
            have C6 : Hid (CpyAt w1.heap.size (.slice (some ⟨g, 0, none⟩) m vc) m (fixL P cs (M.take ((i + 1) + 1))) (w5.setCell ⟨g, j, none⟩ (.string (wR r)))) := ⟨_, vc, rfl, hmc, hc63, by rw [fixL_len] at hcl ⊢; exact hcl, .inr ⟨g, rfl, hg, by rw [HFT.out]; exact hsb5.set j _⟩⟩
            clear hb hbb hsb hsb5 hs9 e1 C5 I5 B5 hcl
            generalize wR r = S9 at *
            generalize ckR r = E9 at *
            go_wp2_with fail
            exact ⟨⟨(i + 1) + 1, by omega, by go_num, C6.out, I6.out, B6.out⟩, by simp [intOf]; omega⟩
        · have hd2 : decide ((i : Int) < (q : Int)) = false := by simp; omega
          have hdi2 : ¬ (i : Int) < (q : Int) := by omega
          have hMt : M.take i = M := List.take_of_length_le (by have := HQ.out; omega)
          rw [hMt] at C5
          clear hMt
          obtain ⟨f1, f2, f3, f4⟩ := HF.out
          generalize fixL P cs M = fin at *
          have hfl : fin.length = m := f4.trans HLc.out
          have R5 := hide (R1.out.below B5.out)
          have F2 := hide f2
          have F3 := hide f3
          have XB : Hid (Calls Try.prog 12 #[.slice va m vc] wr (PxP (prefR fin) wr)) := px_any va m vc fin wr hfl (by omega) C5.out.strs f1
          clear f1 f2 f3 f4 HF
          go_wp2_with fail
          refine XB.out.mono ?_
          rintro e w6 ⟨p2, n2, c2, rfl, hr, hb⟩
          have R6 := hide (R5.out.below hb)
          have C6 := hide (C5.out.below hb)
          have B6 := hide (B5.out.trans (hb.mono B5.out.size))
          have X6 := hide hr
          clear hr hb R5 C5 B5 XB
          go_wp2_with fail
          refine (pb_any R6.out X6.out).mono ?_
          rintro e w7 ⟨he, hb⟩
          rw [F2.out] at he; subst he
          have R7 := hide (R6.out.below hb)
          have C7 := hide (C6.out.below hb)
          have B7 := hide (B6.out.trans (hb.mono B6.out.size))
          clear hb R6 C6 B6 X6
          go_wp2_with fail
          refine (pm_any hfl (by omega) C7.out.strs R7.out).mono ?_
          rintro e w8 ⟨a', c', he, _, _, hb, _⟩
          rw [F3.out] at he
          have he2 : e = .returned (.slice a' 0 c') := he
          subst he2
          have B8 := hide (B7.out.trans (hb.mono B7.out.size))
          clear he hb R7 C7 B7
          go_wp2_with fail
          refine (live12_any w8).mono ?_
          rintro e wl ⟨rfl, hbl⟩
          go_wp2_with fail
          try go_ret
          exact ⟨rfl, B1.out.trans ((B8.out.trans (hbl.mono B8.out.size)).mono B1.out.size)⟩
set_option maxRecDepth 100000 in
set_option maxHeartbeats 16000000 in
theorem mends_nil (a0 : Option Addr) (l0 c0 : Nat) (c1 : Nat) (w : World) (L0 : List ByteArray) (hl0 : L0.length = l0) (z0 : l0 ≤ 9223372036854775807) (hS0 : StrsAt w a0 L0) (L1 : List ByteArray) (hl1 : L1.length = 0) (z1 : 0 ≤ 9223372036854775807) (hS1 : StrsAt w none L1) (s0 : smallB L0 20 300 = true) (s1 : smallB L1 20 300 = true) (P : List Rc) (hP : prefR L0 = P) : Calls Try.prog 6 #[.slice a0 l0 c0, .slice none 0 c1] w fun e w' => e = .returned (.bool true) ∧ Below w.heap.size w w' := by
  have h20 : l0 ≤ 20 := small_len (m := 20) s0 hl0
  have h21 : 0 ≤ 20 := by omega
  have hPl : P.length ≤ 20 := by rw [← hP]; have := pref_le L0; omega
  have XA : Hid (∀ w, StrsAt w a0 L0 → Calls Try.prog 12 #[.slice a0 l0 c0] w (PxP P w)) := fun w q => by rw [← hP]; exact px_any a0 l0 c0 L0 w hl0 z0 q (small_of s0)
  have HFIN : Hid (∀ k, P.length ≤ 0 + k → (∀ s ∈ fixL P (L1 ++ List.replicate k ByteArray.empty) (misQ L1 P), s.size ≤ 150000000000000) ∧ begR P (prefR (fixL P (L1 ++ List.replicate k ByteArray.empty) (misQ L1 P))) = true ∧ misQ (fixL P (L1 ++ List.replicate k ByteArray.empty) (misQ L1 P)) P = [] ∧ (fixL P (L1 ++ List.replicate k ByteArray.empty) (misQ L1 P)).length = (L1 ++ List.replicate k ByteArray.empty).length) := fun k hk => mend_fin hP (small_of s0) (grow_sz (small_of s1)) grow_at (by rw [List.length_append, List.length_replicate]; omega)
  have HMA : Hid (∀ (i : Nat) (x : Int), (misQ L1 P)[i]? = some x → ∃ j : Nat, j < P.length ∧ x = (j : Int) ∧ ∀ y, 0 < i → (misQ L1 P)[i - 1]? = some y → y < x) := fun i x h => misQ_at h
  have HML := hide (misQ_len L1 P)
  clear hP
  obtain ⟨i0, hi, hz0, hz1, hz2⟩ := info_parts str_info
  have HI := hide hi
  have HI0 := hide hz0
  have HI1 := hide hz1
  have HI2 := hide hz2
  clear hi hz0 hz1 hz2
  have HL0 := hide hl0
  have HS0 := hide hS0
  have HL1 := hide hl1
  have HS1 := hide hS1
  clear hl0 hS0 hl1 hS1
  go_enter Try.func6, Try.ntmps6
  go_wp2_with fail
  refine (small_wide a0 l0 c0 20 300 L0 w HL0.out z0 HS0.out).mono ?_
  rintro e _ ⟨he, rfl⟩
  rw [s0] at he; subst he
  go_wp2_with fail
  refine (small_wide none 0 c1 20 300 L1 w HL1.out z1 HS1.out).mono ?_
  rintro e _ ⟨he, rfl⟩
  rw [s1] at he; subst he
  go_wp2_with fail
  clear s0 s1
  refine (XA.out w HS0.out).mono ?_
  rintro e w1 ⟨p, n, c, rfl, hr, hb⟩
  have B1 := hide hb
  have R1 := hide hr
  have HN : Hid (P.length = n) := hr.len
  have S1 := hide (HS1.out.below hb)
  clear hb hr XA HS0 HL0
  have G2 : Hid (GrI L1 0 n w1 w1 (.slice none 0 0)) := GrI.first HL1.out (by rw [List.length_eq_zero_iff.1 HL1.out]; exact World.ownsRow_nil _ _ _ _) (Below.refl _ _)
  go_wp2_with fail
  go_loopw [6] (fun v wr => GrI L1 0 n w1 wr v) (fun v _ => n - slN v)
  case atStart => exact G2.out
  case round =>
    obtain ⟨va, m, vc, rfl, hm1, hm2, hgr⟩ := hrel
    have G := hide hgr
    clear hgr
    by_cases hlt : m < n
    · have hd : decide ((m : Int) < (n : Int)) = true := by simp; omega
      have hdi : (m : Int) < (n : Int) := by omega
      have hn20 : n ≤ 20 := by have := HN.out; omega
      go_wp2_with (first | (at_builtin; refine wpList_append_own _ rfl (.tmp 30) (.tmp 31) 22 rfl w1.heap.size 9 i0 (.string ByteArray.empty) 1 16 Try.underlying22 HI.out HI0.out HI1.out HI2.out rfl (by decide) _ m (stV (L1 ++ List.replicate (m - 0) ByteArray.empty)) rfl (own_alloc G.out.1 _) ⟨wr.heap.size, 0, none⟩ 1 1 [.string ByteArray.empty] rfl rfl (cell_one_new _ _ _) (by simp [Value.oneCell']) (by unfold maxLen; omega) (by omega) (by rw [World.size_alloc]; have := G.out.2.size; omega) ?_; intro v' w3 hown hgr hnil; clear hnil; have G3 := hide (GrI.next hm1 hlt (G.out.step hown hgr)); clear hown hgr))
      exact ⟨G3.out.1, by rw [G3.out.2]; simp [slN]; omega⟩
    · have hd : decide ((m : Int) < (n : Int)) = false := by simp; omega
      have hdi : ¬ (m : Int) < (n : Int) := by omega
      have hm20 : m ≤ 20 := by have := HN.out; omega
      have hcl := grow_len HL1.out hm1
      have HCY := hide (cpy_of G.out.1 hcl)
      have BR := hide G.out.2
      have HF := hide (HFIN.out (m - 0) (by have := HN.out; omega))
      have SO := hide (S1.out.below G.out.2)
      have RO := hide (R1.out.below G.out.2)
      have HLc := hide hcl
      clear G HFIN S1 hcl
      generalize L1 ++ List.replicate (m - 0) ByteArray.empty = cs at *
      have XM : Hid (Calls Try.prog 20 #[.slice none 0 c1, .slice p n c] wr fun e w' => ∃ a' c', e = .returned (.slice a' (misQ L1 P).length c') ∧ (misQ L1 P).length ≤ c' ∧ IntsAt w' a' (misQ L1 P) ∧ Below wr.heap.size wr w' ∧ ∀ b o, a' = some ⟨b, o, none⟩ → wr.heap.size ≤ b) := pm_any HL1.out (by omega) SO.out RO.out
      clear SO RO HL1
      generalize misQ L1 P = M at *
      obtain ⟨q, hq⟩ : ∃ q, M.length = q := ⟨_, rfl⟩
      rw [hq] at XM
      have HQ := hide hq
      have hqn : q ≤ n := by have := HML.out; have := HN.out; omega
      clear hq HML
      go_wp2_with fail
      refine XM.out.mono ?_
      rintro e w4 ⟨ia, ic, rfl, hic, hin, hb, hfar⟩
      have HNE : Hid (∀ g b o, va = some ⟨g, 0, none⟩ → m ≠ 0 → ia = some ⟨b, o, none⟩ → b ≠ g) := fun g b o e1 h0 e2 => by
        obtain ⟨a', c', e, _, _, _, h4⟩ := HCY.out
        cases e
        rcases h4 with h4 | ⟨g', e3, _, hsb⟩
        · exact absurd h4 h0
        · rw [e1] at e3
          cases e3
          have := hfar b o e2
          have := hsb.lt
          omega
      have I4 := hide hin
      have C4 : Hid (CpyAt w1.heap.size (.slice va m vc) m cs w4) := by
        obtain ⟨a', c', e, k1, k2, k3, h4⟩ := HCY.out
        refine ⟨a', c', e, k1, k2, k3, ?_⟩
        rcases h4 with h4 | ⟨g', e3, k4, hsb⟩
        · exact .inl h4
        · exact .inr ⟨g', e3, k4, hsb.below hb hsb.lt⟩
      have B4 := hide (BR.out.trans (hb.mono BR.out.size))
      clear hin hb hfar HCY BR XM
      go_wp2_with fail
      go_loopw [8] (fun y wq => ∃ i : Nat, i ≤ q ∧ y = .int .i64 i ∧ CpyAt w1.heap.size (.slice va m vc) m (fixL P cs (M.take i)) wq ∧ IntsAt wq ia M ∧ Below w1.heap.size w1 wq) (fun y _ => q - (intOf y).toNat)
      case atStart => exact ⟨0, by omega, rfl, C4.out, I4.out, B4.out⟩
      case round =>
        obtain ⟨i, hi, rfl, hcy, hin, hb⟩ := hrel
        have C5 := hide hcy
        have I5 := hide hin
        have B5 := hide hb
        clear hcy hin hb C4 I4 B4
        by_cases hiq : i < q
        · have hd2 : decide ((i : Int) < (q : Int)) = true := by simp; omega
          have hdi2 : (i : Int) < (q : Int) := by omega
          have hd0 : (0 : Int) ≤ (i : Int) := by omega
          obtain ⟨x, hx⟩ : ∃ x, M[i]? = some x := ⟨_, List.getElem?_eq_getElem (by have := HQ.out; omega)⟩
          obtain ⟨j, hj, rfl, hprev⟩ := HMA.out i x hx
          have HFT := hide (fix_take (P := P) (cs := cs) hx)
          have hjn : j < n := by have := HN.out; omega
          obtain ⟨rb, ro, xa, xc, rfl, hrb, hrg, hlo, hfi⟩ := (R1.out.below B5.out).nth hjn
          obtain ⟨ib, io, rfl, hib, e1⟩ := I5.out.nth hx
          have P5 := hide hrg
          have L5 := hide hlo
          clear hrg hlo
          generalize P.getD j Rc.zero = r at *
          have k1 : decide ((j : Int) < 0) = false := by simp
          have k2 : decide ((j : Int) ≥ (n : Int)) = false := by simp; omega
          have k3 : decide (n ≤ j) = false := by simp; omega
          have k4 : ¬ (n : Int) ≤ (j : Int) := by omega
          have k5 : (j : Int) < (n : Int) := by omega
          have k6 : (0 : Int) ≤ (j : Int) := by omega
          rcases i with _ | i
          · clear hprev
            simp only [Nat.add_zero] at e1
            go_wp2_with fail
            go_quiet (fail)
            go_wp2_with (first | (refine wpList_load_mid rfl 55 (.tmp 78) rfl rb (ro + j * 14) rfl (rtC (r, xa, xc)).toList _ P5.out Try.underlying55 rfl rec_info ?_; rw [show (rtC (r, xa, xc)).toList.toArray = rcs r xa xc from rfl]))
            refine (rwrite_any r xa xc (wr.drewN _) (LocsAt.drewN L5.out _) hfi).mono ?_
            rintro e w5 ⟨rfl, hb⟩
            have hbb : Below wr.heap.size wr w5 := (drawn_below (Below.refl wr.heap.size wr) _).trans hb
            obtain ⟨g, rfl, hg, hsb, hmc, hc63, hcl⟩ := C5.out.open (by omega)
            have hsb5 := hsb.below hbb hsb.lt
            obtain ⟨s9, hs9⟩ : ∃ s, (fixL P cs (M.take 0))[j]? = some s := ⟨_, List.getElem?_eq_getElem (by omega)⟩
            have q1 := hsb5.cell hs9
            have q2 := hsb5.free j
            have e5 := (hbb.cell (p := ⟨ib, io, none⟩) hib).trans e1
            have hjm : (j : Int) < (m : Int) := by omega
            have hne : ib ≠ g := HNE.out g ib io rfl (by omega) rfl
            have I6 := hide ((I5.out.below hbb).set (g := g) (p := j) (v := .string (wR r)) (fun b o h => by cases h; exact hne))
            have B6 := hide ((B5.out.trans (hbb.mono B5.out.size)).setCell (p := ⟨g, j, none⟩) hg (.string (wR r)))
            have C6 : Hid (CpyAt w1.heap.size (.slice (some ⟨g, 0, none⟩) m vc) m (fixL P cs (M.take (0 + 1))) (w5.setCell ⟨g, j, none⟩ (.string (wR r)))) := ⟨_, vc, rfl, hmc, hc63, by rw [fixL_len] at hcl ⊢; exact hcl, .inr ⟨g, rfl, hg, by rw [HFT.out]; exact hsb5.set j _⟩⟩
            clear hb hbb hsb hsb5 hs9 e1 C5 I5 B5 hcl
            generalize wR r = S9 at *
            generalize ckR r = E9 at *
            go_wp2_with fail
            exact ⟨⟨0 + 1, by omega, by go_num, C6.out, I6.out, B6.out⟩, by simp [intOf]; omega⟩
          · clear hd0
            have hd0 : (0 : Int) ≤ (i : Int) := by omega
            obtain ⟨y, hy⟩ : ∃ y, M[i]? = some y := ⟨_, List.getElem?_eq_getElem (by have := HQ.out; omega)⟩
            obtain ⟨j2, hj2, rfl, _⟩ := HMA.out i y hy
            have hlt2 := hprev (j2 : Int) (by omega) hy
            obtain ⟨ib2, io2, e9, hib2, e2⟩ := I5.out.nth hy
            cases e9
            have k7 : decide ((j2 : Int) ≥ (j : Int)) = false := by simp; omega
            have k8 : decide (j ≤ j2) = false := by simp; omega
            have k9 : ¬ (j : Int) ≤ (j2 : Int) := by omega
            clear hy hprev
            go_wp2_with fail
            go_quiet (fail)
            go_wp2_with (first | (refine wpList_load_mid rfl 55 (.tmp 78) rfl rb (ro + j * 14) rfl (rtC (r, xa, xc)).toList _ P5.out Try.underlying55 rfl rec_info ?_; rw [show (rtC (r, xa, xc)).toList.toArray = rcs r xa xc from rfl]))
            refine (rwrite_any r xa xc (wr.drewN _) (LocsAt.drewN L5.out _) hfi).mono ?_
            rintro e w5 ⟨rfl, hb⟩
            have hbb : Below wr.heap.size wr w5 := (drawn_below (Below.refl wr.heap.size wr) _).trans hb
            obtain ⟨g, rfl, hg, hsb, hmc, hc63, hcl⟩ := C5.out.open (by omega)
            have hsb5 := hsb.below hbb hsb.lt
            obtain ⟨s9, hs9⟩ : ∃ s, (fixL P cs (M.take (i + 1)))[j]? = some s := ⟨_, List.getElem?_eq_getElem (by omega)⟩
            have q1 := hsb5.cell hs9
            have q2 := hsb5.free j
            have e5 := (hbb.cell (p := ⟨ib, io + (i + 1), none⟩) hib).trans e1
            have hjm : (j : Int) < (m : Int) := by omega
            have hne : ib ≠ g := HNE.out g ib io rfl (by omega) rfl
            have I6 := hide ((I5.out.below hbb).set (g := g) (p := j) (v := .string (wR r)) (fun b o h => by cases h; exact hne))
            have B6 := hide ((B5.out.trans (hbb.mono B5.out.size)).setCell (p := ⟨g, j, none⟩) hg (.string (wR r)))
            have C6 : Hid (CpyAt w1.heap.size (.slice (some ⟨g, 0, none⟩) m vc) m (fixL P cs (M.take ((i + 1) + 1))) (w5.setCell ⟨g, j, none⟩ (.string (wR r)))) := ⟨_, vc, rfl, hmc, hc63, by rw [fixL_len] at hcl ⊢; exact hcl, .inr ⟨g, rfl, hg, by rw [HFT.out]; exact hsb5.set j _⟩⟩
            clear hb hbb hsb hsb5 hs9 e1 C5 I5 B5 hcl
            generalize wR r = S9 at *
            generalize ckR r = E9 at *
            go_wp2_with fail
            exact ⟨⟨(i + 1) + 1, by omega, by go_num, C6.out, I6.out, B6.out⟩, by simp [intOf]; omega⟩
        · have hd2 : decide ((i : Int) < (q : Int)) = false := by simp; omega
          have hdi2 : ¬ (i : Int) < (q : Int) := by omega
          have hMt : M.take i = M := List.take_of_length_le (by have := HQ.out; omega)
          rw [hMt] at C5
          clear hMt
          obtain ⟨f1, f2, f3, f4⟩ := HF.out
          generalize fixL P cs M = fin at *
          have hfl : fin.length = m := f4.trans HLc.out
          have R5 := hide (R1.out.below B5.out)
          have F2 := hide f2
          have F3 := hide f3
          have XB : Hid (Calls Try.prog 12 #[.slice va m vc] wr (PxP (prefR fin) wr)) := px_any va m vc fin wr hfl (by omega) C5.out.strs f1
          clear f1 f2 f3 f4 HF
          go_wp2_with fail
          refine XB.out.mono ?_
          rintro e w6 ⟨p2, n2, c2, rfl, hr, hb⟩
          have R6 := hide (R5.out.below hb)
          have C6 := hide (C5.out.below hb)
          have B6 := hide (B5.out.trans (hb.mono B5.out.size))
          have X6 := hide hr
          clear hr hb R5 C5 B5 XB
          go_wp2_with fail
          refine (pb_any R6.out X6.out).mono ?_
          rintro e w7 ⟨he, hb⟩
          rw [F2.out] at he; subst he
          have R7 := hide (R6.out.below hb)
          have C7 := hide (C6.out.below hb)
          have B7 := hide (B6.out.trans (hb.mono B6.out.size))
          clear hb R6 C6 B6 X6
          go_wp2_with fail
          refine (pm_any hfl (by omega) C7.out.strs R7.out).mono ?_
          rintro e w8 ⟨a', c', he, _, _, hb, _⟩
          rw [F3.out] at he
          have he2 : e = .returned (.slice a' 0 c') := he
          subst he2
          have B8 := hide (B7.out.trans (hb.mono B7.out.size))
          clear he hb R7 C7 B7
          go_wp2_with fail
          refine (live12_any w8).mono ?_
          rintro e wl ⟨rfl, hbl⟩
          go_wp2_with fail
          try go_ret
          exact ⟨rfl, B1.out.trans ((B8.out.trans (hbl.mono B8.out.size)).mono B1.out.size)⟩
theorem came_str_nil {w : World} {l c : Nat} (h : Came 22 w none l c) : l = 0 := by
  obtain ⟨L, hl, _, _, hS⟩ := came_strs h
  rcases hS with q | ⟨b, o, e, _⟩
  · rw [q] at hl; exact hl.symm
  · cases e
theorem walkReplayMends (a0 : Option Addr) (l0 c0 : Nat) (a1 : Option Addr) (l1 c1 : Nat) (w : World) (h0 : Came 22 w a0 l0 c0) (h1 : Came 22 w a1 l1 c1) : Calls Try.prog 6 #[.slice a0 l0 c0, .slice a1 l1 c1] w fun e w' => e = .returned (.bool true) ∧ Below w.heap.size w w' := by
  obtain ⟨L0, hl0, _, z0, hS0⟩ := came_strs h0
  obtain ⟨L1, hl1, _, z1, hS1⟩ := came_strs h1
  cases s0 : smallB L0 20 300
  · exact mends_a a0 l0 c0 a1 l1 c1 w L0 hl0 z0 hS0 L1 hl1 z1 hS1 s0
  cases s1 : smallB L1 20 300
  · exact mends_b a0 l0 c0 a1 l1 c1 w L0 hl0 z0 hS0 L1 hl1 z1 hS1 s0 s1
  cases a1 with
  | none =>
    obtain rfl := came_str_nil h1
    exact mends_nil a0 l0 c0 c1 w L0 hl0 z0 hS0 L1 hl1 z1 hS1 s0 s1 _ rfl
  | some ad => exact mends_main a0 l0 c0 ad l1 c1 w L0 hl0 z0 hS0 L1 hl1 z1 hS1 s0 s1 _ rfl
end Go.Proofs.Ytaiafbihcfbglaa
