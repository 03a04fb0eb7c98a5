/- Layer 7's law looks at some answers of the document: they are as they should be. -/
import Derived.Test.YtjcabdgikkmlpaaSeRefMine
import Derived.Test.YtjcabdgikkmlpaaCrLive
namespace Go.Proofs.Ytjcabdgikkmlpaa
open Go.RowKit
set_option linter.unusedVariables false
def h300 : Hd := ⟨300, 1, 8, 11, 47, sHi⟩
def h9 : Hd := ⟨0, 0, 9, 0, 0, ByteArray.empty⟩
def sJunk : ByteArray := ⟨#[106, 117, 110, 107]⟩
theorem h300_ok : wE h300 = 0 := wE_zero.2 ⟨by unfold Hd.inR h300; simp, by decide⟩
theorem hz_ok : wE Hd.zero = 0 := wE_zero.2 ⟨by unfold Hd.inR Hd.zero; simp, by decide⟩
theorem h9_bad : wE h9 = 1 := by unfold wE; rw [if_neg (by unfold Hd.inR h9; simp)]
theorem h300_size : (wS h300).size = 15 := by
  rw [wS_size h300_ok]
  have e1 : (numI h300.v).size = 2 := by
    have : numI h300.v = numS 300 := numI_nat (n := 300) (by omega)
    rw [this, numS_size, nlen_step (by omega), nlen_small (by omega)]
  have e2 : (numI h300.g).size = 1 := numI_len1 (by decide) (by decide)
  rw [e1, e2]
  rfl
theorem hz_size : (wS Hd.zero).size = 12 := by
  rw [wS_size hz_ok]
  have e1 : (numI Hd.zero.v).size = 1 := numI_len1 (by decide) (by decide)
  have e2 : (numI Hd.zero.g).size = 1 := numI_len1 (by decide) (by decide)
  rw [e1, e2]
  rfl
theorem abc_cut : rdE sAbc = 3 := by unfold rdE; rw [opE_abc]; rfl
theorem junk_form : rdE (sealS sJunk) = 4 := by
  unfold rdE
  rw [opE_seal, if_pos rfl, if_neg]
  intro e
  have h4 : 4 ≤ (sealS sJunk).size := by rw [sealS_size]; omega
  have e2 := (wS_some h4 e).2
  have e3 := congrArg headS e2
  rw [head_seal, head_seal] at e3
  have e4 : bt sJunk 0 = bt (bodyS (tk (rest2 (opT (sealS sJunk))))) 0 := congrArg (fun s => bt s 0) e3
  have e5 : bt (bodyS (tk (rest2 (opT (sealS sJunk))))) 0 = 83 := by
    unfold bodyS
    rw [bt_append, if_pos (by decide)]
    rfl
  rw [e5] at e4
  exact absurd e4 (by decide)
def v0 : Vol := ⟨0, 0, 0, none, 0, 0, []⟩
theorem mine_v0 (s : ByteArray) : mE s v0 0 = 1 ∧ mT s v0 0 = ByteArray.empty := by
  have e : mE s v0 0 = 1 := by unfold mE; rw [if_neg (by unfold v0; simp)]
  exact ⟨e, by unfold mT; rw [e, if_neg (by decide)]⟩
set_option maxRecDepth 100000 in
set_option maxHeartbeats 8000000 in
theorem slive_any (w : World) : Calls Try.prog 10 #[] w fun e w' => e = .returned (.bool true) ∧ Below w.heap.size w w' := by
  have HS := hide (hbx_new 30 h300 w)
  have HA : Hid (Below w.heap.size w (w.alloc (.cells (hcs h300) 30))) := (Below.refl _ _).alloc (Nat.le_refl _) _
  have H1 := hide (write_any h300 (w.alloc (.cells (hcs h300) 30)))
  have hz15 := h300_size
  have H2 := hide (fun w => sread_any (wS h300) w (by rw [h300_size]; omega))
  rw [(read_back h300_ok).1, (read_back h300_ok).2] at H2
  rw [h300_ok] at H1
  have H3 := hide (write_any h9)
  rw [h9_bad, wS_bad (by rw [h9_bad]; decide)] at H3
  have H4 := hide (fun w => sread_any sAbc w (by decide))
  rw [abc_cut, show rdH sAbc = Hd.zero by unfold rdH; rw [abc_cut]; rfl] at H4
  have H5 := hide (fun w => refSeal_any sJunk w (by decide))
  have H6 := hide (fun w => sread_any (sealS sJunk) w (by rw [sealS_size]; decide))
  rw [junk_form, show rdH (sealS sJunk) = Hd.zero by unfold rdH; rw [junk_form]; rfl] at H6
  have H7 := hide (write_any Hd.zero)
  have hz12 := hz_size
  rw [hz_ok] at H7
  have H8 := hide (fun w => mine_any (wS h300) v0 0 w (by rw [h300_size]; omega) rfl (.inl rfl))
  rw [(mine_v0 (wS h300)).1, (mine_v0 (wS h300)).2] at H8
  generalize wS h300 = S at *
  generalize wS Hd.zero = Z at *
  generalize sealS sJunk = J at *
  simp only [hcs, vcs, h300, h9, Hd.zero, v0, sHi, sAbc, sJunk] at HA HS H1 H2 H3 H4 H5 H6 H7 H8
  go_enter Try.func10, Try.ntmps10
  go_wp2_with fail
  refine H1.out.mono ?_
  rintro e w1 ⟨rfl, hb1⟩
  have B1 := hide (HA.out.trans (hb1.mono HA.out.size))
  have S1 := hide (HS.out.below hb1 HS.out.lt)
  clear hb1 HA HS H1
  go_wp2_with fail
  refine (H2.out _).mono ?_
  rintro e w2 ⟨rfl, hb1⟩
  have B2 := hide (B1.out.trans (hb1.mono B1.out.size))
  have S2 := hide (S1.out.below hb1 S1.out.lt)
  clear hb1 B1 S1 H2
  have hal : Below w2.heap.size w2 (w2.alloc (.cells #[.int .i64 300, .int .i64 1, .int .i64 8, .int .i64 11, .int .i64 47, .string ⟨#[104, 105]⟩] 30)) := (Below.refl _ _).alloc (Nat.le_refl _) _
  have X3 := hide (hbx_new 30 h300 w2)
  have B3 := hide (B2.out.trans (hal.mono B2.out.size))
  have S3 := hide (S2.out.below hal S2.out.lt)
  simp only [hcs, h300, sHi] at X3
  clear hal B2 S2
  go_wp2_with fail
  generalize w2.alloc (.cells #[.int .i64 300, .int .i64 1, .int .i64 8, .int .i64 11, .int .i64 47, .string ⟨#[104, 105]⟩] 30) = W3 at *
  generalize w2.heap.size = b2 at *
  refine (H3.out _).mono ?_
  rintro e w4 ⟨rfl, hb1⟩
  have B4 := hide (B3.out.trans (hb1.mono B3.out.size))
  have S4 := hide (S3.out.below hb1 S3.out.lt)
  have X4 := hide (X3.out.below hb1 X3.out.lt)
  clear hb1 B3 S3 X3 H3
  go_wp2_with fail
  refine (H4.out _).mono ?_
  rintro e w5 ⟨rfl, hb1⟩
  have hb2 : Below w4.heap.size w4 (w5.alloc (.cells #[.int .i64 0, .int .i64 0, .int .i64 0, .int .i64 0, .int .i64 0, .string ByteArray.empty] 30)) := hb1.alloc hb1.size _
  have B5 := hide (B4.out.trans (hb2.mono B4.out.size))
  have S5 := hide (S4.out.below hb2 S4.out.lt)
  have X5 := hide (X4.out.below hb2 X4.out.lt)
  clear hb1 hb2 B4 S4 X4 H4
  go_wp2_with fail
  generalize w5.alloc (.cells #[.int .i64 0, .int .i64 0, .int .i64 0, .int .i64 0, .int .i64 0, .string ByteArray.empty] 30) = W6 at *
  refine (H5.out _).mono ?_
  rintro e w7 ⟨rfl, hb1⟩
  have B7 := hide (B5.out.trans (hb1.mono B5.out.size))
  have S7 := hide (S5.out.below hb1 S5.out.lt)
  have X7 := hide (X5.out.below hb1 X5.out.lt)
  clear hb1 B5 S5 X5 H5
  go_wp2_with fail
  refine (H6.out _).mono ?_
  rintro e w8 ⟨rfl, hb1⟩
  have hb2 : Below w7.heap.size w7 (w8.alloc (.cells #[.int .i64 0, .int .i64 0, .int .i64 0, .int .i64 0, .int .i64 0, .string ByteArray.empty] 30)) := hb1.alloc hb1.size _
  have B8 := hide (B7.out.trans (hb2.mono B7.out.size))
  have S8 := hide (S7.out.below hb2 S7.out.lt)
  have X8 := hide (X7.out.below hb2 X7.out.lt)
  clear hb1 hb2 B7 S7 X7 H6
  go_wp2_with fail
  generalize w8.alloc (.cells #[.int .i64 0, .int .i64 0, .int .i64 0, .int .i64 0, .int .i64 0, .string ByteArray.empty] 30) = W9 at *
  refine (H7.out _).mono ?_
  rintro e w10 ⟨rfl, hb1⟩
  have B10 := hide (B8.out.trans (hb1.mono B8.out.size))
  have S10 := hide (S8.out.below hb1 S8.out.lt)
  have X10 := hide (X8.out.below hb1 X8.out.lt)
  clear hb1 B8 S8 X8 H7
  go_wp2_with fail
  refine (H8.out _).mono ?_
  rintro e w11 ⟨rfl, hb1⟩
  have B11 := hide (B10.out.trans (hb1.mono B10.out.size))
  obtain ⟨⟨s0, s1, s2, s3, s4, s5⟩, -⟩ := (S10.out.below hb1 S10.out.lt).cells
  obtain ⟨⟨t0, t1, t2, t3, t4, t5⟩, -⟩ := (X10.out.below hb1 X10.out.lt).cells
  simp only at s0 s1 s2 s3 s4 s5 t0 t1 t2 t3 t4 t5
  clear hb1 B10 S10 X10 H8
  go_wp2_with fail
  try go_ret
  exact ⟨rfl, B11.out⟩
end Go.Proofs.Ytjcabdgikkmlpaa
