/- The law NeedleReads returns true at every input, and writes nothing that was there. -/
import Derived.Test.YtomcdajoeakhdaaDoorNeLive
import Derived.Test.YtomcdajoeakhdaaDoorNeTold
namespace Go.Proofs.YtomcdajoeakhdaaDoor
open Go.RowKit
set_option linter.unusedVariables false
/-- what All answers, for both -/
noncomputable def aL (s : ByteArray) (k : Nat) : List Nd := if (stL s k).size = 0 then ndsN s k else []
noncomputable def aO (s : ByteArray) (k : Nat) : List Int := if (stL s k).size = 0 then offN s k else []
noncomputable def aN (s : ByteArray) (k : Nat) : Nat := if (stL s k).size = 0 then k else 0
noncomputable def aE (s : ByteArray) (k : Nat) : Int := if (stL s k).size = 0 then 0 else nrE (stL s k)
theorem aL_len (s : ByteArray) (k : Nat) : (aL s k).length = aN s k := by unfold aL aN; split <;> simp [ndsN]
theorem aO_len (s : ByteArray) (k : Nat) : (aO s k).length = aN s k := by unfold aO aN; split <;> simp [offN]
theorem aN_le {s : ByteArray} {k : Nat} (h : EndN s k) : aN s k ≤ s.size := by
  have := h.1.small
  unfold aN; split <;> omega
theorem all_form {s : ByteArray} {w w' : World} {r : Ending} (h : AllLeft s w r w') : ∃ k, EndN s k ∧ Below w.heap.size w w' ∧ ∃ a c a2 c2, r = .returned (.tuple #[.slice a (aN s k) c, .slice a2 (aN s k) c2, .int .i64 (aE s k)]) ∧ NdsAt w' a (aL s k) ∧ IntsAt w' a2 (aO s k) := by
  obtain ⟨k, hE, hb, hc⟩ := h
  refine ⟨k, hE, hb, ?_⟩
  unfold aL aO aN aE
  rcases hc with ⟨h0, a, c, a2, c2, rfl, h1, h2⟩ | ⟨h0, rfl⟩
  · rw [if_pos h0, if_pos h0, if_pos h0, if_pos h0]; exact ⟨a, c, a2, c2, rfl, h1, h2⟩
  · rw [if_neg h0, if_neg h0, if_neg h0, if_neg h0]; exact ⟨none, 0, none, 0, rfl, .inl rfl, .inl rfl⟩
set_option maxRecDepth 100000 in
set_option maxHeartbeats 16000000 in
theorem walkNeedleReads (s : ByteArray) (w : World) (hK : KAt w) (w0 : s.data.toList.length ≤ reachBytes) : Calls Tryd.prog 4 #[.string s] w fun e w' => e = .returned (.bool true) ∧ Below w.heap.size w w' := by
  clear w0
  have KA := hide hK
  clear hK
  by_cases hbig : 1000 < s.size
  · have hd : decide ((1000 : Int) < (s.size : Int)) = true := by simp; omega
    go_enter Tryd.func4, Tryd.ntmps4
    go_wp2_with fail
    refine (nlive_any _ KA.out).mono ?_
    rintro e wLL ⟨rfl, hb⟩
    have BLL := hide hb
    clear hb
    go_wp2_with fail
    try go_ret
    exact ⟨rfl, BLL.out⟩
  have hd : decide ((1000 : Int) < (s.size : Int)) = false := by simp; omega
  have H1 := hide (fun w hK => nread_any s w hK (by omega))
  have H2 := hide (fun w => rread_any s w (by omega))
  have H3 := hide (fun w hK => nall_any s w hK (by omega))
  have H4 := hide (fun w => rall_any s w (by omega))
  have HSM : Hid (s.size ≤ 1000) := by show s.size ≤ 1000; omega
  generalize nrN s = ND at *
  generalize nrR s = R at *
  generalize nrE s = E at *
  have HO := hide (fun w => nown_any ND w)
  obtain ⟨K, V⟩ := ND
  simp only [ncs] at H1 H2 HO
  have qK : (K.toList == K.toList) = true := by simp
  have qV : (V.toList == V.toList) = true := by simp
  have qR : (R.toList == R.toList) = true := by simp
  go_enter Tryd.func4, Tryd.ntmps4
  go_wp2_with fail
  refine (H1.out _ KA.out).mono ?_
  rintro e w2 ⟨rfl, hb⟩
  have hal : Below w2.heap.size w2 (w2.alloc (.cells #[.string K, .string V] 28)) := (Below.refl _ _).alloc (Nat.le_refl _) _
  have B2 := hide (hb.trans (hal.mono hb.size))
  have X2 := hide (nbx_new 28 ⟨K, V⟩ w2)
  simp only [ncs] at X2
  clear hb hal
  go_wp2_with fail
  generalize w2.alloc (.cells #[.string K, .string V] 28) = W2 at *
  generalize w2.heap.size = b2 at *
  refine (H2.out _).mono ?_
  rintro e w3 ⟨rfl, hb⟩
  have hal : Below w3.heap.size w3 (w3.alloc (.cells #[.string K, .string V] 23)) := (Below.refl _ _).alloc (Nat.le_refl _) _
  have hb3 := hb.trans (hal.mono hb.size)
  have B3 := hide (B2.out.trans (hb3.mono B2.out.size))
  have X3 := hide (X2.out.below hb3 X2.out.lt)
  have Y3 := hide (nbx_new 23 ⟨K, V⟩ w3)
  simp only [ncs] at Y3
  clear hb hal hb3 B2 X2
  go_wp2_with fail
  generalize w3.alloc (.cells #[.string K, .string V] 23) = W3 at *
  generalize w3.heap.size = b3 at *
  refine (H3.out _ (KA.out.below B3.out)).mono ?_
  intro e w4 hA
  obtain ⟨k, hk1, hb, a, c, a2, c2, rfl, hnd, hin⟩ := all_form hA
  have HK1 := hide hk1
  have B4 := hide (B3.out.trans (hb.mono B3.out.size))
  have X4 := hide (X3.out.below hb X3.out.lt)
  have Y4 := hide (Y3.out.below hb Y3.out.lt)
  have ND4 := hide hnd
  have IN4 := hide hin
  clear hA hk1 hb hnd hin B3 X3 Y3
  go_wp2_with fail
  refine (H4.out _).mono ?_
  intro e W5 hA
  obtain ⟨k', hk1, hb, aw, cw, aw2, cw2, rfl, hnd, hin⟩ := all_form hA
  have hkk : k' = k := hk1.one HK1.out
  subst hkk
  have hM := aN_le hk1
  have hM2 : aN s k' ≤ 1000 := Nat.le_trans hM HSM.out
  have HLL := hide (aL_len s k')
  have HOL := hide (aO_len s k')
  have B5 := hide (B4.out.trans (hb.mono B4.out.size))
  have X5 := hide (X4.out.below hb X4.out.lt)
  have Y5 := hide (Y4.out.below hb Y4.out.lt)
  have ND5 := hide (ND4.out.below hb)
  have IN5 := hide (IN4.out.below hb)
  have MD5 := hide hnd
  have MI5 := hide hin
  clear hA hk1 hb hnd hin B4 X4 Y4 ND4 IN4 hM HK1
  generalize aL s k' = L at *
  generalize aO s k' = O at *
  generalize aE s k' = ER at *
  generalize aN s k' = M at *
  go_upto_region 7 with fail
  refine wp_region_noPanic ?_
  refine wp_region_held_drew (S := fun w' => NBx b2 28 ⟨K, V⟩ w' ∧ NBx b3 23 ⟨K, V⟩ w') (by kernel_rfl) ⟨X5.out, Y5.out⟩ (fun hHeld => ?_)
  refine wpAnyH_take (i := 0) (v := ?v1) rfl (by kernel_rfl) (by kernel_rfl) (by kernel_rfl) (fun _ _ _ h => h) (Or.inl ⟨by rfl, ?hy1⟩) hHeld ?rest1
  case hy1 => (intro w' hSw; have s0 := NBx.c0 hSw.1; have s1 := NBx.c1 hSw.1; have s2 := NBx.c0 hSw.2; have s3 := NBx.c1 hSw.2; simp only at s0 s1 s2 s3; go_simp; try with_reducible rfl)
  try simp [Act.put]
  refine wpAnyH_take (i := 1) (v := ?v2) rfl (by kernel_rfl) (by kernel_rfl) (by kernel_rfl) (fun _ _ _ h => h) (Or.inl ⟨by rfl, ?hy2⟩) hHeld ?rest2
  case hy2 => (intro w' hSw; have s0 := NBx.c0 hSw.1; have s1 := NBx.c1 hSw.1; have s2 := NBx.c0 hSw.2; have s3 := NBx.c1 hSw.2; simp only at s0 s1 s2 s3; go_simp; try with_reducible rfl)
  try simp [Act.put]
  refine wpAnyH_ready (rs := [2]) (by kernel_rfl) (by simp) ?_
  refine AllReadyH.cons rfl (fun K0 hK => ?_) AllReadyH.nil
  have d5 := (Below.refl W5.heap.size W5).drew
  go_simp
  refine (HO.out _).mono ?_
  rintro e W6 ⟨rfl, hb⟩
  have b6 := d5.trans hb
  have B6 := hide (B5.out.trans (b6.mono B5.out.size))
  have X6 := hide (X5.out.below b6 X5.out.lt)
  have Y6 := hide (Y5.out.below b6 Y5.out.lt)
  have ND6 := hide (ND5.out.below b6)
  have IN6 := hide (IN5.out.below b6)
  have MD6 := hide (MD5.out.below b6)
  have MI6 := hide (MI5.out.below b6)
  clear d5 b6 hb B5 X5 Y5 ND5 IN5 MD5 MI5
  try go_simp
  refine hK.out _ _ ⟨X6.out, Y6.out⟩ (fun hHeld => ?_)
  clear hK K0
  try simp [Act.put]
  refine wpAnyH_take (i := 3) (v := ?v10) rfl (by kernel_rfl) (by kernel_rfl) (by kernel_rfl) (fun _ _ _ h => h) (Or.inl ⟨by rfl, ?hy10⟩) hHeld ?rest10
  case hy10 => (intro w' hSw; have s0 := NBx.c0 hSw.1; have s1 := NBx.c1 hSw.1; have s2 := NBx.c0 hSw.2; have s3 := NBx.c1 hSw.2; simp only at s0 s1 s2 s3; go_simp; try with_reducible rfl)
  try simp [Act.put]
  refine wpAnyH_take (i := 4) (v := ?v11) rfl (by kernel_rfl) (by kernel_rfl) (by kernel_rfl) (fun _ _ _ h => h) (Or.inl ⟨by rfl, ?hy11⟩) hHeld ?rest11
  case hy11 => (intro w' hSw; have s0 := NBx.c0 hSw.1; have s1 := NBx.c1 hSw.1; have s2 := NBx.c0 hSw.2; have s3 := NBx.c1 hSw.2; simp only at s0 s1 s2 s3; go_simp; try with_reducible rfl)
  try simp [Act.put]
  refine wpAnyH_take (i := 5) (v := ?v12) rfl (by kernel_rfl) (by kernel_rfl) (by kernel_rfl) (fun _ _ _ h => h) (Or.inl ⟨by rfl, ?hy12⟩) hHeld ?rest12
  case hy12 => (intro w' hSw; have s0 := NBx.c0 hSw.1; have s1 := NBx.c1 hSw.1; have s2 := NBx.c0 hSw.2; have s3 := NBx.c1 hSw.2; simp only at s0 s1 s2 s3; go_simp; try with_reducible rfl)
  try simp [Act.put]
  refine wpAnyH_take (i := 6) (v := ?v13) rfl (by kernel_rfl) (by kernel_rfl) (by kernel_rfl) (fun _ _ _ h => h) (Or.inl ⟨by rfl, ?hy13⟩) hHeld ?rest13
  case hy13 => (intro w' hSw; have s0 := NBx.c0 hSw.1; have s1 := NBx.c1 hSw.1; have s2 := NBx.c0 hSw.2; have s3 := NBx.c1 hSw.2; simp only at s0 s1 s2 s3; go_simp; try with_reducible rfl)
  try simp [Act.put]
  refine wpAnyH_take (i := 7) (v := ?v14) rfl (by kernel_rfl) (by kernel_rfl) (by kernel_rfl) (fun _ _ _ h => h) (Or.inl ⟨by rfl, ?hy14⟩) hHeld ?rest14
  case hy14 => (intro w' hSw; have s0 := NBx.c0 hSw.1; have s1 := NBx.c1 hSw.1; have s2 := NBx.c0 hSw.2; have s3 := NBx.c1 hSw.2; simp only at s0 s1 s2 s3; go_simp; try with_reducible rfl)
  try simp [Act.put]
  refine wpAnyH_take (i := 8) (v := ?v15) rfl (by kernel_rfl) (by kernel_rfl) (by kernel_rfl) (fun _ _ _ h => h) (Or.inl ⟨by rfl, ?hy15⟩) hHeld ?rest15
  case hy15 => (intro w' hSw; have s0 := NBx.c0 hSw.1; have s1 := NBx.c1 hSw.1; have s2 := NBx.c0 hSw.2; have s3 := NBx.c1 hSw.2; simp only at s0 s1 s2 s3; go_simp; try with_reducible rfl)
  try simp [Act.put]
  refine wpAnyH_take (i := 9) (v := ?v16) rfl (by kernel_rfl) (by kernel_rfl) (by kernel_rfl) (fun _ _ _ h => h) (Or.inl ⟨by rfl, ?hy16⟩) hHeld ?rest16
  case hy16 => (intro w' hSw; have s0 := NBx.c0 hSw.1; have s1 := NBx.c1 hSw.1; have s2 := NBx.c0 hSw.2; have s3 := NBx.c1 hSw.2; simp only at s0 s1 s2 s3; go_simp; try with_reducible rfl)
  try simp [Act.put]
  refine wpAnyH_take (i := 10) (v := ?v17) rfl (by kernel_rfl) (by kernel_rfl) (by kernel_rfl) (fun _ _ _ h => h) (Or.inl ⟨by rfl, ?hy17⟩) hHeld ?rest17
  case hy17 => (intro w' hSw; have s0 := NBx.c0 hSw.1; have s1 := NBx.c1 hSw.1; have s2 := NBx.c0 hSw.2; have s3 := NBx.c1 hSw.2; simp only at s0 s1 s2 s3; go_simp; try with_reducible rfl)
  try simp [Act.put]
  refine wpAnyH_take (i := 11) (v := ?v18) rfl (by kernel_rfl) (by kernel_rfl) (by kernel_rfl) (fun _ _ _ h => h) (Or.inl ⟨by rfl, ?hy18⟩) hHeld ?rest18
  case hy18 => (intro w' hSw; have s0 := NBx.c0 hSw.1; have s1 := NBx.c1 hSw.1; have s2 := NBx.c0 hSw.2; have s3 := NBx.c1 hSw.2; simp only at s0 s1 s2 s3; go_simp; try with_reducible rfl)
  try simp [Act.put]
  refine wpAnyH_take (i := 12) (v := ?v19) rfl (by kernel_rfl) (by kernel_rfl) (by kernel_rfl) (fun _ _ _ h => h) (Or.inl ⟨by rfl, ?hy19⟩) hHeld ?rest19
  case hy19 => (intro w' hSw; have s0 := NBx.c0 hSw.1; have s1 := NBx.c1 hSw.1; have s2 := NBx.c0 hSw.2; have s3 := NBx.c1 hSw.2; simp only at s0 s1 s2 s3; go_simp; try with_reducible rfl)
  try simp [Act.put]
  refine wpAnyH_take (i := 13) (v := ?v20) rfl (by kernel_rfl) (by kernel_rfl) (by kernel_rfl) (fun _ _ _ h => h) (Or.inl ⟨by rfl, ?hy20⟩) hHeld ?rest20
  case hy20 => (intro w' hSw; have s0 := NBx.c0 hSw.1; have s1 := NBx.c1 hSw.1; have s2 := NBx.c0 hSw.2; have s3 := NBx.c1 hSw.2; simp only at s0 s1 s2 s3; go_simp; try with_reducible rfl)
  try simp [Act.put]
  refine wpAnyH_take (i := 14) (v := ?v21) rfl (by kernel_rfl) (by kernel_rfl) (by kernel_rfl) (fun _ _ _ h => h) (Or.inl ⟨by rfl, ?hy21⟩) hHeld ?rest21
  case hy21 => (intro w' hSw; have s0 := NBx.c0 hSw.1; have s1 := NBx.c1 hSw.1; have s2 := NBx.c0 hSw.2; have s3 := NBx.c1 hSw.2; simp only at s0 s1 s2 s3; go_simp; try with_reducible rfl)
  try simp [Act.put]
  refine wpAnyH_take (i := 15) (v := ?v22) rfl (by kernel_rfl) (by kernel_rfl) (by kernel_rfl) (fun _ _ _ h => h) (Or.inl ⟨by rfl, ?hy22⟩) hHeld ?rest22
  case hy22 => (intro w' hSw; have s0 := NBx.c0 hSw.1; have s1 := NBx.c1 hSw.1; have s2 := NBx.c0 hSw.2; have s3 := NBx.c1 hSw.2; simp only at s0 s1 s2 s3; go_simp; try with_reducible rfl)
  try simp [Act.put]
  refine wpAnyH_take (i := 17) (v := ?v23) rfl (by kernel_rfl) (by kernel_rfl) (by kernel_rfl) (fun _ _ _ h => h) (Or.inl ⟨by rfl, ?hy23⟩) hHeld ?rest23
  case hy23 => (intro w' hSw; have s0 := NBx.c0 hSw.1; have s1 := NBx.c1 hSw.1; have s2 := NBx.c0 hSw.2; have s3 := NBx.c1 hSw.2; simp only at s0 s1 s2 s3; go_simp; try with_reducible rfl)
  try simp [Act.put]
  refine wpAnyH_ready (rs := [16]) (by kernel_rfl) (by simp) ?_
  refine AllReadyH.cons rfl (fun K0 hK => ?_) AllReadyH.nil
  have d6 := Below.refl W6.heap.size W6
  go_simp
  refine (ntold_any a c M L _ HLL.out (by omega) (ND6.out.below d6)).mono ?_
  rintro e W7 ⟨at_, ct, rfl, hb, ht⟩
  have b7 := d6.trans hb
  have B7 := hide (B6.out.trans (b7.mono B6.out.size))
  have X7 := hide (X6.out.below b7 X6.out.lt)
  have Y7 := hide (Y6.out.below b7 Y6.out.lt)
  have ND7 := hide (ND6.out.below b7)
  have IN7 := hide (IN6.out.below b7)
  have MD7 := hide (MD6.out.below b7)
  have MI7 := hide (MI6.out.below b7)
  have TD7 := hide ht
  clear ht
  clear d6 b7 hb B6 X6 Y6 ND6 IN6 MD6 MI6
  try go_simp
  refine hK.out _ _ ⟨X7.out, Y7.out⟩ (fun hHeld => ?_)
  clear hK K0
  try simp [Act.put]
  refine wpAnyH_ready (rs := [18]) (by kernel_rfl) (by simp) ?_
  refine AllReadyH.cons rfl (fun K0 hK => ?_) AllReadyH.nil
  have d7 := Below.refl W7.heap.size W7
  go_simp
  refine (nds_same at_ aw ct cw M L _ HLL.out (by omega) (TD7.out.below d7) (MD7.out.below d7)).mono ?_
  rintro e W8 ⟨rfl, hb⟩
  have b8 := d7.trans hb
  have B8 := hide (B7.out.trans (b8.mono B7.out.size))
  have X8 := hide (X7.out.below b8 X7.out.lt)
  have Y8 := hide (Y7.out.below b8 Y7.out.lt)
  have ND8 := hide (ND7.out.below b8)
  have IN8 := hide (IN7.out.below b8)
  have MD8 := hide (MD7.out.below b8)
  have MI8 := hide (MI7.out.below b8)
  clear d7 b8 hb B7 X7 Y7 ND7 IN7 MD7 MI7
  try go_simp
  refine hK.out _ _ ⟨X8.out, Y8.out⟩ (fun hHeld => ?_)
  clear hK K0
  try simp [Act.put]
  refine wpAnyH_take (i := 19) (v := ?v30) rfl (by kernel_rfl) (by kernel_rfl) (by kernel_rfl) (fun _ _ _ h => h) (Or.inl ⟨by rfl, ?hy30⟩) hHeld ?rest30
  case hy30 => (intro w' hSw; have s0 := NBx.c0 hSw.1; have s1 := NBx.c1 hSw.1; have s2 := NBx.c0 hSw.2; have s3 := NBx.c1 hSw.2; simp only at s0 s1 s2 s3; go_simp; try with_reducible rfl)
  try simp [Act.put]
  refine wpAnyH_take (i := 20) (v := ?v31) rfl (by kernel_rfl) (by kernel_rfl) (by kernel_rfl) (fun _ _ _ h => h) (Or.inl ⟨by rfl, ?hy31⟩) hHeld ?rest31
  case hy31 => (intro w' hSw; have s0 := NBx.c0 hSw.1; have s1 := NBx.c1 hSw.1; have s2 := NBx.c0 hSw.2; have s3 := NBx.c1 hSw.2; simp only at s0 s1 s2 s3; go_simp; try with_reducible rfl)
  try simp [Act.put]
  refine wpAnyH_take (i := 21) (v := ?v32) rfl (by kernel_rfl) (by kernel_rfl) (by kernel_rfl) (fun _ _ _ h => h) (Or.inl ⟨by rfl, ?hy32⟩) hHeld ?rest32
  case hy32 => (intro w' hSw; have s0 := NBx.c0 hSw.1; have s1 := NBx.c1 hSw.1; have s2 := NBx.c0 hSw.2; have s3 := NBx.c1 hSw.2; simp only at s0 s1 s2 s3; go_simp; try with_reducible rfl)
  try simp [Act.put]
  refine wpAnyH_take (i := 22) (v := ?v33) rfl (by kernel_rfl) (by kernel_rfl) (by kernel_rfl) (fun _ _ _ h => h) (Or.inl ⟨by rfl, ?hy33⟩) hHeld ?rest33
  case hy33 => (intro w' hSw; have s0 := NBx.c0 hSw.1; have s1 := NBx.c1 hSw.1; have s2 := NBx.c0 hSw.2; have s3 := NBx.c1 hSw.2; simp only at s0 s1 s2 s3; go_simp; try with_reducible rfl)
  try simp [Act.put]
  refine wpAnyH_ready (rs := [23]) (by kernel_rfl) (by simp) ?_
  refine AllReadyH.cons rfl (fun K0 hK => ?_) AllReadyH.nil
  have d8 := Below.refl W8.heap.size W8
  go_simp
  refine (ints_same a2 aw2 c2 cw2 M O _ HOL.out (by omega) (IN8.out.below d8) (MI8.out.below d8)).mono ?_
  rintro e W9 ⟨rfl, hb⟩
  have b9 := d8.trans hb
  have B9 := hide (B8.out.trans (b9.mono B8.out.size))
  have X9 := hide (X8.out.below b9 X8.out.lt)
  have Y9 := hide (Y8.out.below b9 Y8.out.lt)
  have ND9 := hide (ND8.out.below b9)
  have IN9 := hide (IN8.out.below b9)
  have MD9 := hide (MD8.out.below b9)
  have MI9 := hide (MI8.out.below b9)
  clear d8 b9 hb B8 X8 Y8 ND8 IN8 MD8 MI8
  try go_simp
  refine hK.out _ _ ⟨X9.out, Y9.out⟩ (fun hHeld => ?_)
  clear hK K0
  try simp [Act.put]
  refine wpAnyH_take (i := 24) (v := ?v40) rfl (by kernel_rfl) (by kernel_rfl) (by kernel_rfl) (fun _ _ _ h => h) (Or.inl ⟨by rfl, ?hy40⟩) hHeld ?rest40
  case hy40 => (intro w' hSw; have s0 := NBx.c0 hSw.1; have s1 := NBx.c1 hSw.1; have s2 := NBx.c0 hSw.2; have s3 := NBx.c1 hSw.2; simp only at s0 s1 s2 s3; go_simp; try with_reducible rfl)
  try simp [Act.put]
  refine wpAnyH_take (i := 25) (v := ?v41) rfl (by kernel_rfl) (by kernel_rfl) (by kernel_rfl) (fun _ _ _ h => h) (Or.inl ⟨by rfl, ?hy41⟩) hHeld ?rest41
  case hy41 => (intro w' hSw; have s0 := NBx.c0 hSw.1; have s1 := NBx.c1 hSw.1; have s2 := NBx.c0 hSw.2; have s3 := NBx.c1 hSw.2; simp only at s0 s1 s2 s3; go_simp; try with_reducible rfl)
  try simp [Act.put]
  refine wpAnyH_take (i := 26) (v := ?v42) rfl (by kernel_rfl) (by kernel_rfl) (by kernel_rfl) (fun _ _ _ h => h) (Or.inl ⟨by rfl, ?hy42⟩) hHeld ?rest42
  case hy42 => (intro w' hSw; have s0 := NBx.c0 hSw.1; have s1 := NBx.c1 hSw.1; have s2 := NBx.c0 hSw.2; have s3 := NBx.c1 hSw.2; simp only at s0 s1 s2 s3; go_simp; try with_reducible rfl)
  try simp [Act.put]
  refine wpAnyH_take (i := 27) (v := ?v43) rfl (by kernel_rfl) (by kernel_rfl) (by kernel_rfl) (fun _ _ _ h => h) (Or.inl ⟨by rfl, ?hy43⟩) hHeld ?rest43
  case hy43 => (intro w' hSw; have s0 := NBx.c0 hSw.1; have s1 := NBx.c1 hSw.1; have s2 := NBx.c0 hSw.2; have s3 := NBx.c1 hSw.2; simp only at s0 s1 s2 s3; go_simp; try with_reducible rfl)
  try simp [Act.put]
  refine wpAnyH_take (i := 28) (v := ?v44) rfl (by kernel_rfl) (by kernel_rfl) (by kernel_rfl) (fun _ _ _ h => h) (Or.inl ⟨by rfl, ?hy44⟩) hHeld ?rest44
  case hy44 => (intro w' hSw; have s0 := NBx.c0 hSw.1; have s1 := NBx.c1 hSw.1; have s2 := NBx.c0 hSw.2; have s3 := NBx.c1 hSw.2; simp only at s0 s1 s2 s3; go_simp; try with_reducible rfl)
  try simp [Act.put]
  refine wpAnyH_take (i := 29) (v := ?v45) rfl (by kernel_rfl) (by kernel_rfl) (by kernel_rfl) (fun _ _ _ h => h) (Or.inl ⟨by rfl, ?hy45⟩) hHeld ?rest45
  case hy45 => (intro w' hSw; have s0 := NBx.c0 hSw.1; have s1 := NBx.c1 hSw.1; have s2 := NBx.c0 hSw.2; have s3 := NBx.c1 hSw.2; simp only at s0 s1 s2 s3; go_simp; try with_reducible rfl)
  try simp [Act.put]
  refine wpAnyH_take (i := 30) (v := ?v46) rfl (by kernel_rfl) (by kernel_rfl) (by kernel_rfl) (fun _ _ _ h => h) (Or.inl ⟨by rfl, ?hy46⟩) hHeld ?rest46
  case hy46 => (intro w' hSw; have s0 := NBx.c0 hSw.1; have s1 := NBx.c1 hSw.1; have s2 := NBx.c0 hSw.2; have s3 := NBx.c1 hSw.2; simp only at s0 s1 s2 s3; go_simp; try with_reducible rfl)
  try simp [Act.put]
  refine wpAnyH_ready (rs := [31]) (by kernel_rfl) (by simp) ?_
  refine AllReadyH.cons rfl (fun K0 hK => ?_) AllReadyH.nil
  have d9 := Below.refl W9.heap.size W9
  go_simp
  refine (nlive_any _ (KA.out.below (B9.out.trans (d9.mono B9.out.size)))).mono ?_
  rintro e W10 ⟨rfl, hb⟩
  have b10 := d9.trans hb
  have B10 := hide (B9.out.trans (b10.mono B9.out.size))
  have X10 := hide (X9.out.below b10 X9.out.lt)
  have Y10 := hide (Y9.out.below b10 Y9.out.lt)
  have ND10 := hide (ND9.out.below b10)
  have IN10 := hide (IN9.out.below b10)
  have MD10 := hide (MD9.out.below b10)
  have MI10 := hide (MI9.out.below b10)
  clear d9 b10 hb B9 X9 Y9 ND9 IN9 MD9 MI9
  try go_simp
  refine hK.out _ _ ⟨X10.out, Y10.out⟩ (fun hHeld => ?_)
  clear hK K0
  try simp [Act.put]
  refine wpAnyH_take (i := 32) (v := ?v50) rfl (by kernel_rfl) (by kernel_rfl) (by kernel_rfl) (fun _ _ _ h => h) (Or.inl ⟨by rfl, ?hy50⟩) hHeld ?rest50
  case hy50 => (intro w' hSw; have s0 := NBx.c0 hSw.1; have s1 := NBx.c1 hSw.1; have s2 := NBx.c0 hSw.2; have s3 := NBx.c1 hSw.2; simp only at s0 s1 s2 s3; go_simp; try with_reducible rfl)
  try simp [Act.put]
  refine wpAnyH_take (i := 33) (v := ?v51) rfl (by kernel_rfl) (by kernel_rfl) (by kernel_rfl) (fun _ _ _ h => h) (Or.inl ⟨by rfl, ?hy51⟩) hHeld ?rest51
  case hy51 => (intro w' hSw; have s0 := NBx.c0 hSw.1; have s1 := NBx.c1 hSw.1; have s2 := NBx.c0 hSw.2; have s3 := NBx.c1 hSw.2; simp only at s0 s1 s2 s3; go_simp; try with_reducible rfl)
  try simp [Act.put]
  refine wpAnyH_done (by kernel_rfl) (NoPanic.normal ?_) _
  go_wp2_with fail
  try go_ret
  exact ⟨rfl, B10.out⟩
end Go.Proofs.YtomcdajoeakhdaaDoor
