/- What the document's Read answers at every text. -/
import Derived.Test.YtaiafbihcfbglaaRcRfVol
import Derived.Test.YtaiafbihcfbglaaRcLiveB
namespace Go.Proofs.Ytaiafbihcfbglaa
open Go.RowKit
set_option linter.unusedVariables false
theorem tkQ_fit (s : ByteArray) (hs : s.size ≤ 100000) : (tkQ s).fit := by
  have a1 := rR_size s
  have a2 := rR_size (rR s)
  have a3 := rR_size (rR (rR s))
  have a4 := rR_size (rR (rR (rR s)))
  have a5 := rR_size (rR (rR (rR (rR s))))
  have a6 := lcsR_size 9 (rR (rR (rR (rR (rR s)))))
  have a7 := tR_size (lcsR 9 (rR (rR (rR (rR (rR s))))))
  have a8 := rR_size (tR (lcsR 9 (rR (rR (rR (rR (rR s)))))))
  have a9 := rR_size (rR (tR (lcsR 9 (rR (rR (rR (rR (rR s))))))))
  have b1 := tT_size (lcsR 9 (rR (rR (rR (rR (rR s))))))
  have b2 := tT_size (rR (rR s))
  have b3 := lcsT_len 9 (rR (rR (rR (rR (rR s)))))
  have b4 := rN_56 (tR (lcsR 9 (rR (rR (rR (rR (rR s)))))))
  unfold tkQ Rc.fit
  split
  · unfold tk0; dsimp only; exact ⟨by omega, by omega, by omega, by simp, by omega, by omega⟩
  split
  · unfold tk1; dsimp only; exact ⟨by simp, by simp, by simp, by omega, by omega, by omega⟩
  split
  · unfold tk3; dsimp only; exact ⟨by omega, by simp, by simp, by simp, by omega, by omega⟩
  · unfold tk2; dsimp only; exact ⟨by omega, by simp, by simp, by simp, by omega, by omega⟩
/-- what Read has in memory: the result's box, the record's, the reader -/
structure Tq (w0 : World) (C : Prop) (bp bz bx : Nat) (r : Rc) (a : Option Addr) (c : Nat) (s : ByteArray) (w : World) : Prop where
  z : RBx bz 33 Rc.zero none 0 w
  x : RBx bx 33 r a c w
  rd : RdC C w bp 84 s
  be : Below w0.heap.size w0 w
  gp : w0.heap.size ≤ bp
  gz : w0.heap.size ≤ bz
  gx : w0.heap.size ≤ bx
  ne : bz ≠ bx
  np : bz ≠ bp
  nq : bx ≠ bp
  ls : LocsAt w a r.ls
  far : ∀ b o, a = some ⟨b, o, none⟩ → w0.heap.size ≤ b ∧ b ≠ bz ∧ b ≠ bx ∧ b ≠ bp ∧ LocB w b
theorem Tq.but {w0 w w' : World} {C : Prop} {bp bz bx : Nat} {r : Rc} {a : Option Addr} {c : Nat} {s s' : ByteArray} (h : Tq w0 C bp bz bx r a c s w) (hb : Ba bp w w') (hr : RdC C w' bp 84 s') : Tq w0 C bp bz bx r a c s' w' :=
  ⟨h.z.ba hb h.np, h.x.ba hb h.nq, hr, h.be.trans (hb.below h.gp h.be.size), h.gp, h.gz, h.gx, h.ne, h.np, h.nq, h.ls.keep hb.size fun b o e hl => hb.block b hl (h.far b o e).2.2.2.1, fun b o e => ⟨(h.far b o e).1, (h.far b o e).2.1, (h.far b o e).2.2.1, (h.far b o e).2.2.2.1, (h.far b o e).2.2.2.2.keep (hb.block b (h.far b o e).2.2.2.2.lt (h.far b o e).2.2.2.1)⟩⟩
theorem Tq.set {w0 w : World} {C : Prop} {bp bz bx o : Nat} {r r' : Rc} {a : Option Addr} {c : Nat} {s : ByteArray} (h : Tq w0 C bp bz bx r a c s w) (u : Value) (hx : RBx bx 33 r' a c (w.setCell ⟨bx, o, none⟩ u)) (hl : r'.ls = r.ls) : Tq w0 C bp bz bx r' a c s (w.setCell ⟨bx, o, none⟩ u) := by
  refine ⟨h.z.away h.ne _, hx, h.rd.away h.nq.symm _, h.be.setCell h.gx _, h.gp, h.gz, h.gx, h.ne, h.np, h.nq, ?_, fun b o' e => ⟨(h.far b o' e).1, (h.far b o' e).2.1, (h.far b o' e).2.2.1, (h.far b o' e).2.2.2.1, (h.far b o' e).2.2.2.2.keep (Below.heap_setCell _ _ _ _ (h.far b o' e).2.2.1)⟩⟩
  rw [hl]
  exact h.ls.keep (by simp [World.setCell]) fun b o' e hl => Below.heap_setCell _ _ _ _ (h.far b o' e).2.2.1
theorem Tq.vol {w0 w : World} {C : Prop} {bp bz bx : Nat} {r : Rc} {s : ByteArray} (h : Tq w0 C bp bz bx r none 0 s w) (i g n : Int) (l : List (Int × Int)) (a : Option Addr) (c : Nat) (hl : LocsAt w a l) (hf : ∀ b o, a = some ⟨b, o, none⟩ → w0.heap.size ≤ b ∧ b ≠ bz ∧ b ≠ bx ∧ b ≠ bp ∧ LocB w b) :
    Tq w0 C bp bz bx { r with vid := i, vgen := g, vlen := n, ls := l } a c s ((((w.setCell ⟨bx, 2, none⟩ (.int .i64 i)).setCell ⟨bx, 3, none⟩ (.int .i64 g)).setCell ⟨bx, 4, none⟩ (.int .i64 n)).setCell ⟨bx, 5, none⟩ (.slice a l.length c)) := by
  have e : ∀ b, b ≠ bx → ((((w.setCell ⟨bx, 2, none⟩ (.int .i64 i)).setCell ⟨bx, 3, none⟩ (.int .i64 g)).setCell ⟨bx, 4, none⟩ (.int .i64 n)).setCell ⟨bx, 5, none⟩ (.slice a l.length c)).heap[b]? = w.heap[b]? := fun b hb => by
    repeat rw [Below.heap_setCell _ _ _ _ (show b ≠ bx from hb)]
  refine ⟨(e bz h.ne).trans h.z, (((h.x.s2 i).s3 g).s4 n).s5 a l c, h.rd.keep (e bp h.nq.symm), (((h.be.setCell h.gx _).setCell h.gx _).setCell h.gx _).setCell h.gx _, h.gp, h.gz, h.gx, h.ne, h.np, h.nq, ?_, fun b o q => ⟨(hf b o q).1, (hf b o q).2.1, (hf b o q).2.2.1, (hf b o q).2.2.2.1, (hf b o q).2.2.2.2.keep (e b (hf b o q).2.2.1)⟩⟩
  exact hl.keep (by simp [World.setCell]) fun b o q _ => e b (hf b o q).2.2.1
/-- the record of any text, and what is left of it -/
def RqP (s : ByteArray) (w : World) (e : Ending) (w' : World) : Prop := ∃ a c, e = .returned (.tuple #[.agg (rcs (rdC s) a c), .int .i64 (rdE s)]) ∧ LocsAt w' a (rdC s).ls ∧ (∀ b o, a = some ⟨b, o, none⟩ → w.heap.size ≤ b ∧ LocB w' b) ∧ Below w.heap.size w w'
set_option maxRecDepth 100000 in
set_option maxHeartbeats 8000000 in
theorem qread_err (s : ByteArray) (w : World) (hs : s.size ≤ 100000) (h : opE s ≠ 0) : Calls Try.prog 26 #[.string s] w (RqP s w) := by
  obtain ⟨e1, e2⟩ := rdE_err h
  unfold RqP
  rw [e1, e2]
  have HZ : Hid (RBx w.heap.size 33 Rc.zero none 0 (w.alloc (.cells #[.int .i64 0, .int .i64 0, .int .i64 0, .int .i64 0, .int .i64 0, .slice none 0 0, .string { data := #[] }, .int .i64 0, .int .i64 0, .int .i64 0, .string { data := #[] }, .string { data := #[] }, .int .i64 0, .int .i64 0] 33))) := rbx_new 33 Rc.zero none 0 w
  have HA : Hid (Below w.heap.size w (w.alloc (.cells #[.int .i64 0, .int .i64 0, .int .i64 0, .int .i64 0, .int .i64 0, .slice none 0 0, .string { data := #[] }, .int .i64 0, .int .i64 0, .int .i64 0, .string { data := #[] }, .string { data := #[] }, .int .i64 0, .int .i64 0] 33))) := (Below.refl _ _).alloc (Nat.le_refl _) _
  have HO : Hid (∀ w, Calls Try.prog 37 #[.string s] w fun e w' => e = .returned (.tuple #[.string (opT s), .int .i64 (opE s)]) ∧ Below w.heap.size w w') := fun w => refOpen_any s w (by omega)
  have hne : (opE s == 0) = false := by simpa using h
  have hne2 : (opE s != 0) = true := by simpa using h
  clear h e1 e2
  generalize opE s = E at *
  generalize opT s = T at *
  go_enter Try.func26, Try.ntmps26
  go_upto_region 1 with fail
  generalize w.alloc (.cells #[.int .i64 0, .int .i64 0, .int .i64 0, .int .i64 0, .int .i64 0, .slice none 0 0, .string { data := #[] }, .int .i64 0, .int .i64 0, .int .i64 0, .string { data := #[] }, .string { data := #[] }, .int .i64 0, .int .i64 0] 33) = W1 at *
  go_wp2_with fail
  refine (HO.out W1).mono ?_
  rintro e w1 ⟨rfl, hb1⟩
  have HB1 := hide (HA.out.trans (hb1.mono HA.out.size))
  have HZ1 := hide (HZ.out.below hb1 HZ.out.lt)
  clear hb1 HA HZ HO
  go_wp2_with (first | (refine wpList_store_row rfl 33 (.tmp 2) (.tmp 17) rfl w.heap.size (rcs Rc.zero none 0) rfl rfl 33 (rcs Rc.zero none 0) HZ1.out ref_info rfl (rcs_one _ _ _) ?_))
  refine bodyPost_ret (res_ref_tmp rfl _ _ w.heap.size Rc.zero none 0 rfl (HZ1.out.row _ _ _)) rfl ?_
  exact ⟨none, 0, rfl, .inl rfl, (fun b o q => by cases q), below_setRow HB1.out (Nat.le_refl _) _⟩
set_option maxRecDepth 100000 in
set_option maxHeartbeats 8000000 in
theorem qread_short (s : ByteArray) (w : World) (hs : s.size ≤ 100000) (h : opE s = 0) (hl : (opT s).size < 2) : Calls Try.prog 26 #[.string s] w (RqP s w) := by
  obtain ⟨e1, e2⟩ := rdE_no h (short_not h hl _)
  unfold RqP
  rw [e1, e2]
  have HZ : Hid (RBx w.heap.size 33 Rc.zero none 0 (w.alloc (.cells #[.int .i64 0, .int .i64 0, .int .i64 0, .int .i64 0, .int .i64 0, .slice none 0 0, .string { data := #[] }, .int .i64 0, .int .i64 0, .int .i64 0, .string { data := #[] }, .string { data := #[] }, .int .i64 0, .int .i64 0] 33))) := rbx_new 33 Rc.zero none 0 w
  have HA : Hid (Below w.heap.size w (w.alloc (.cells #[.int .i64 0, .int .i64 0, .int .i64 0, .int .i64 0, .int .i64 0, .slice none 0 0, .string { data := #[] }, .int .i64 0, .int .i64 0, .int .i64 0, .string { data := #[] }, .string { data := #[] }, .int .i64 0, .int .i64 0] 33))) := (Below.refl _ _).alloc (Nat.le_refl _) _
  have HO : Hid (∀ w, Calls Try.prog 37 #[.string s] w fun e w' => e = .returned (.tuple #[.string (opT s), .int .i64 0]) ∧ Below w.heap.size w w') := fun w => by have := refOpen_any s w (by omega); rw [h] at this; exact this
  have q2 : decide (((opT s).size : Int) < 2) = true := by simp; omega
  have hl2 : ((opT s).size : Int) < 2 := by omega
  clear h e1 e2
  generalize opT s = T at *
  go_enter Try.func26, Try.ntmps26
  go_upto_region 1 with fail
  generalize w.alloc (.cells #[.int .i64 0, .int .i64 0, .int .i64 0, .int .i64 0, .int .i64 0, .slice none 0 0, .string { data := #[] }, .int .i64 0, .int .i64 0, .int .i64 0, .string { data := #[] }, .string { data := #[] }, .int .i64 0, .int .i64 0] 33) = W1 at *
  go_wp2_with fail
  refine (HO.out W1).mono ?_
  rintro e w1 ⟨rfl, hb1⟩
  have HB1 := hide (HA.out.trans (hb1.mono HA.out.size))
  have HZ1 := hide (HZ.out.below hb1 HZ.out.lt)
  clear hb1 HA HZ HO
  go_wp2_with (first | (refine wpList_store_row rfl 33 (.tmp 2) (.tmp 22) rfl w.heap.size (rcs Rc.zero none 0) rfl rfl 33 (rcs Rc.zero none 0) HZ1.out ref_info rfl (rcs_one _ _ _) ?_))
  refine bodyPost_ret (res_ref_tmp rfl _ _ w.heap.size Rc.zero none 0 rfl (HZ1.out.row _ _ _)) rfl ?_
  exact ⟨none, 0, rfl, .inl rfl, (fun b o q => by cases q), below_setRow HB1.out (Nat.le_refl _) _⟩
set_option maxRecDepth 100000 in
set_option maxHeartbeats 16000000 in
theorem qread0 (s : ByteArray) (w : World) (hs : s.size ≤ 100000) (h : opE s = 0) (hl : ¬ (opT s).size < 2) (hk : rN (rR (rest2 (opT s))) = 0) : Calls Try.prog 26 #[.string s] w (RqP s w) := by
  have HZ : Hid (RBx w.heap.size 33 Rc.zero none 0 (w.alloc (.cells #[.int .i64 0, .int .i64 0, .int .i64 0, .int .i64 0, .int .i64 0, .slice none 0 0, .string { data := #[] }, .int .i64 0, .int .i64 0, .int .i64 0, .string { data := #[] }, .string { data := #[] }, .int .i64 0, .int .i64 0] 33))) := rbx_new 33 Rc.zero none 0 w
  have HA : Hid (Below w.heap.size w (w.alloc (.cells #[.int .i64 0, .int .i64 0, .int .i64 0, .int .i64 0, .int .i64 0, .slice none 0 0, .string { data := #[] }, .int .i64 0, .int .i64 0, .int .i64 0, .string { data := #[] }, .string { data := #[] }, .int .i64 0, .int .i64 0] 33))) := (Below.refl _ _).alloc (Nat.le_refl _) _
  have HO : Hid (∀ w, Calls Try.prog 37 #[.string s] w fun e w' => e = .returned (.tuple #[.string (opT s), .int .i64 0]) ∧ Below w.heap.size w w') := fun w => by have := refOpen_any s w (by omega); rw [h] at this; exact this
  have q2 : decide (((opT s).size : Int) < 2) = false := by simp; omega
  have hl2 : ¬ ((opT s).size : Int) < 2 := by omega
  have hl3 : (2 : Int) ≤ ((opT s).size : Int) := by omega
  have HU : Hid ((opT s).extract 2 (opT s).size = rest2 (opT s)) := rfl
  obtain ⟨hq1, hq2⟩ := q_same h
  have HYES : Hid (wR (tkQ (rest2 (opT s))) = s → rdE s = 0 ∧ rdC s = tkQ (rest2 (opT s))) := fun q => by
    have p := hq1.1 q
    rw [(hq2 p).1]
    exact rdE_yes h p
  have HNO : Hid (wR (tkQ (rest2 (opT s))) ≠ s → rdE s = 4 ∧ rdC s = Rc.zero) := fun q => rdE_no h fun p => q (hq1.2 p)
  have HCL : Hid (wR (tkQ (rest2 (opT s))) = s → clnR (rest2 (opT s))) := fun q => (hq2 (hq1.1 q)).2
  have HCK : Hid (wR (tkQ (rest2 (opT s))) = s → ckR (tkQ (rest2 (opT s))) = 0) := fun q => (wR_some (opE_zero h).1 q).1
  have hz : (rest2 (opT s)).size ≤ 100000 := by
    have : (opT s).size ≤ 100000 := by rw [(opE_zero h).2.2, headS_size]; omega
    unfold rest2; rw [ByteArray.size_extract]; omega
  have HF := hide (tkQ_fit (rest2 (opT s)) hz)
  have e0 : tkQ (rest2 (opT s)) = tk0 (rest2 (opT s)) := by unfold tkQ; rw [if_pos hk]
  rw [e0] at HYES HNO HCL HCK HF
  have HLF : Hid (leftR (rest2 (opT s)) = leftR (rest2 (opT s))) := rfl
  clear e0 hq1 hq2 h hl
  generalize rest2 (opT s) = U at *
  generalize opT s = T at *
  have HL0 : Hid (wR (tk0 U) = s → (ByteArray.empty : ByteArray) = ByteArray.empty) := fun q => by
    have p := (HCL.out q).2.2.2.2.2.2
    unfold leftR at p
    dsimp only at p
    rw [if_pos hk] at p
    skip
  have l1 := rR_size U
  have l2 := rR_size (rR U)
  have l3 := rR_size (rR (rR U))
  have l4 := rR_size (rR (rR (rR U)))
  have l5 := rR_size (rR (rR (rR (rR U))))
  have l6 := lcsR_size 9 (rR (rR (rR (rR (rR U)))))
  have l7 := tR_size (lcsR 9 (rR (rR (rR (rR (rR U))))))
  have l8 := rR_size (tR (lcsR 9 (rR (rR (rR (rR (rR U)))))))
  have l9 := rR_size (lcsR 9 (rR (rR (rR (rR (rR U))))))
  have x1 : Hid (∀ bp W, RdC (wR (tk0 U) = s) W bp 84 U → Calls Try.prog 38 #[.pointer (some ⟨bp, 0, none⟩)] W fun r w' => r = .returned (.int .i64 (rN U : Nat)) ∧ RdC (wR (tk0 U) = s) w' bp 84 (rR U) ∧ But bp W w') := fun bp W h => qnum_c _ bp _ W h (by omega) fun c => (HCL.out c).1
  have x2 : Hid (∀ bp W, RdC (wR (tk0 U) = s) W bp 84 (rR U) → Calls Try.prog 38 #[.pointer (some ⟨bp, 0, none⟩)] W fun r w' => r = .returned (.int .i64 (rN (rR U) : Nat)) ∧ RdC (wR (tk0 U) = s) w' bp 84 (rR (rR U)) ∧ But bp W w') := fun bp W h => qnum_c _ bp _ W h (by omega) fun c => (HCL.out c).2.1
  have xv : Hid (∀ bp W, RdC (wR (tk0 U) = s) W bp 84 (rR (rR U)) → Calls Try.prog 40 #[.pointer (some ⟨bp, 0, none⟩)] W fun e w' => ∃ a c, e = .returned (.agg (vlc (rN (rR (rR U)) : Nat) (rN (rR (rR (rR U))) : Nat) (rN (rR (rR (rR (rR U)))) : Nat) a 9 c)) ∧ LocsAt w' a (lcsT 9 (rR (rR (rR (rR (rR U)))))) ∧ (∀ b o, a = some ⟨b, o, none⟩ → W.heap.size ≤ b ∧ LocB w' b) ∧ RdC (wR (tk0 U) = s) w' bp 84 (lcsR 9 (rR (rR (rR (rR (rR U)))))) ∧ Ba bp W w') := fun bp W h => rvolume_any _ bp _ W h (by omega) fun c => (HCL.out c).2.2.2.1 (by omega)
  have x3 : Hid (∀ bp W, RdC (wR (tk0 U) = s) W bp 84 (lcsR 9 (rR (rR (rR (rR (rR U)))))) → Calls Try.prog 39 #[.pointer (some ⟨bp, 0, none⟩)] W fun r w' => r = .returned (.string (tT (lcsR 9 (rR (rR (rR (rR (rR U)))))))) ∧ RdC (wR (tk0 U) = s) w' bp 84 (tR (lcsR 9 (rR (rR (rR (rR (rR U))))))) ∧ But bp W w') := fun bp W h => qtext_c _ bp _ W h (by omega) fun c => ((HCL.out c).2.2.2.2.1 hk).1
  have x4 : Hid (∀ bp W, RdC (wR (tk0 U) = s) W bp 84 (tR (lcsR 9 (rR (rR (rR (rR (rR U))))))) → Calls Try.prog 38 #[.pointer (some ⟨bp, 0, none⟩)] W fun r w' => r = .returned (.int .i64 (rN (tR (lcsR 9 (rR (rR (rR (rR (rR U))))))) : Nat)) ∧ RdC (wR (tk0 U) = s) w' bp 84 (rR (tR (lcsR 9 (rR (rR (rR (rR (rR U)))))))) ∧ But bp W w') := fun bp W h => qnum_c _ bp _ W h (by omega) fun c => ((HCL.out c).2.2.2.2.1 hk).2.1
  have x5 : Hid (∀ bp W, RdC (wR (tk0 U) = s) W bp 84 (rR (tR (lcsR 9 (rR (rR (rR (rR (rR U)))))))) → Calls Try.prog 38 #[.pointer (some ⟨bp, 0, none⟩)] W fun r w' => r = .returned (.int .i64 (rN (rR (tR (lcsR 9 (rR (rR (rR (rR (rR U)))))))) : Nat)) ∧ RdC (wR (tk0 U) = s) w' bp 84 (rR (rR (tR (lcsR 9 (rR (rR (rR (rR (rR U))))))))) ∧ But bp W w') := fun bp W h => qnum_c _ bp _ W h (by omega) fun c => ((HCL.out c).2.2.2.2.1 hk).2.2
  have x6 : Hid (∀ bp W, RdC (wR (tk0 U) = s) W bp 84 (rR (rR (tR (lcsR 9 (rR (rR (rR (rR (rR U))))))))) → Calls Try.prog 41 #[.pointer (some ⟨bp, 0, none⟩)] W fun r w' => r = .returned (.string (rR (rR (tR (lcsR 9 (rR (rR (rR (rR (rR U)))))))))) ∧ RdC (wR (tk0 U) = s) w' bp 84 ByteArray.empty ∧ But bp W w') := fun bp W h => qrest_c _ bp _ W h
  have HTK : Hid (tk0 U = ⟨((rN U : Nat) : Int), ((rN (rR U) : Nat) : Int), ((rN (rR (rR U)) : Nat) : Int), ((rN (rR (rR (rR U))) : Nat) : Int), ((rN (rR (rR (rR (rR U)))) : Nat) : Int), lcsT 9 (rR (rR (rR (rR (rR U))))), tT (lcsR 9 (rR (rR (rR (rR (rR U)))))), ((rN (rR (rR U)) : Nat) : Int), ((rN (tR (lcsR 9 (rR (rR (rR (rR (rR U))))))) : Nat) : Int), ((rN (rR (tR (lcsR 9 (rR (rR (rR (rR (rR U)))))))) : Nat) : Int), rR (rR (tR (lcsR 9 (rR (rR (rR (rR (rR U)))))))), ByteArray.empty, 0, 0⟩) := rfl
  rw [hk] at x2 HTK
  clear l1 l2 l3 l4 l5 l6 l7 l8 l9 HCL HLF
  clear hk hs hz
  generalize tk0 U = X at *
  generalize rR (rR (tR (lcsR 9 (rR (rR (rR (rR (rR U)))))))) = dg at *
  generalize rN (rR (tR (lcsR 9 (rR (rR (rR (rR (rR U)))))))) = nl at *
  generalize rR (tR (lcsR 9 (rR (rR (rR (rR (rR U))))))) = v2 at *
  generalize rN (tR (lcsR 9 (rR (rR (rR (rR (rR U))))))) = no at *
  generalize tR (lcsR 9 (rR (rR (rR (rR (rR U)))))) = v1 at *
  generalize tT (lcsR 9 (rR (rR (rR (rR (rR U)))))) = ky at *
  have HLN : Hid ((lcsT 9 (rR (rR (rR (rR (rR U)))))).length = 9) := lcsT_len _ _
  generalize (lcsR 9 (rR (rR (rR (rR (rR U)))))) = v0 at *
  generalize lcsT 9 (rR (rR (rR (rR (rR U))))) = ll at *
  generalize rN (rR (rR (rR (rR U)))) = m3 at *
  generalize rN (rR (rR (rR U))) = m2 at *
  generalize rN (rR (rR U)) = m1 at *
  generalize rR (rR U) = s2 at *
  generalize rR U = s1 at *
  generalize rN U = n1 at *
  go_enter Try.func26, Try.ntmps26
  go_upto_region 1 with fail
  generalize w.alloc (.cells #[.int .i64 0, .int .i64 0, .int .i64 0, .int .i64 0, .int .i64 0, .slice none 0 0, .string { data := #[] }, .int .i64 0, .int .i64 0, .int .i64 0, .string { data := #[] }, .string { data := #[] }, .int .i64 0, .int .i64 0] 33) = W1 at *
  go_wp2_with fail
  refine (HO.out W1).mono ?_
  rintro e w1 ⟨rfl, hb1⟩
  have HB1 := hide (HA.out.trans (hb1.mono HA.out.size))
  have HZ1 := hide (HZ.out.below hb1 HZ.out.lt)
  clear hb1 HA HZ HO
  have hal : Below w1.heap.size w1 ((w1.alloc (.cells #[.string U, .int .i64 0] 84)).alloc (.cells #[.int .i64 0, .int .i64 0, .int .i64 0, .int .i64 0, .int .i64 0, .slice none 0 0, .string { data := #[] }, .int .i64 0, .int .i64 0, .int .i64 0, .string { data := #[] }, .string { data := #[] }, .int .i64 0, .int .i64 0] 33)) := ((Below.refl _ _).alloc (Nat.le_refl _) _).alloc (by rw [World.size_alloc]; omega) _
  have hzl := HZ1.out.lt
  have T8 : Hid (Tq w (wR X = s) w1.heap.size w.heap.size (w1.heap.size + 1) Rc.zero none 0 U ((w1.alloc (.cells #[.string U, .int .i64 0] 84)).alloc (.cells #[.int .i64 0, .int .i64 0, .int .i64 0, .int .i64 0, .int .i64 0, .slice none 0 0, .string { data := #[] }, .int .i64 0, .int .i64 0, .int .i64 0, .string { data := #[] }, .string { data := #[] }, .int .i64 0, .int .i64 0] 33))) := by
    have q1 : ((w1.alloc (.cells #[.string U, .int .i64 0] 84)).alloc (.cells #[.int .i64 0, .int .i64 0, .int .i64 0, .int .i64 0, .int .i64 0, .slice none 0 0, .string { data := #[] }, .int .i64 0, .int .i64 0, .int .i64 0, .string { data := #[] }, .string { data := #[] }, .int .i64 0, .int .i64 0] 33)).heap[w1.heap.size]? = some (.cells #[.string U, .int .i64 0] 84 (0, 0)) := (Below.heap_alloc _ _ _ (by rw [World.size_alloc]; omega)).trans (heap_alloc_new w1 _)
    have q2 := rbx_new 33 Rc.zero none 0 (w1.alloc (.cells #[.string U, .int .i64 0] 84))
    rw [World.size_alloc] at q2
    exact ⟨HZ1.out.below hal HZ1.out.lt, q2, ⟨0, q1, fun q => absurd rfl q, fun _ => rfl⟩, HB1.out.trans (hal.mono HB1.out.size), HB1.out.size, Nat.le_refl _, by have := HB1.out.size; omega, by omega, by omega, by omega, .inl rfl, fun b o q => by cases q⟩
  clear hal HB1 HZ1
  go_upto_region 8 with fail
  rw [HU.out]
  generalize ((w1.alloc (.cells #[.string U, .int .i64 0] 84)).alloc (.cells #[.int .i64 0, .int .i64 0, .int .i64 0, .int .i64 0, .int .i64 0, .slice none 0 0, .string { data := #[] }, .int .i64 0, .int .i64 0, .int .i64 0, .string { data := #[] }, .string { data := #[] }, .int .i64 0, .int .i64 0] 33)) = W8 at *
  generalize hbpx : w1.heap.size = bp at *
  have hbx0 : bp + 1 ≠ bp := by omega
  generalize bp + 1 = bx at *
  clear hl2 hl3 q2 hzl hbpx
  go_wp2_with fail
  refine (x1.out bp W8 T8.out.rd).mono ?_
  rintro e y9 ⟨rfl, hr, hb⟩
  have Ta := hide (T8.out.but hb.ba hr)
  clear hr hb T8
  have kc := Ta.out.x.c0
  have kf := Ta.out.x.free 0
  simp only [Rc.zero] at kc
  have T9 := hide (Ta.out.set _ (Ta.out.x.s0 (n1 : Int)) rfl)
  clear Ta
  go_upto_region 9 with fail
  generalize y9.setCell ⟨bx, 0, none⟩ (.int .i64 (n1 : Int)) = W9 at *
  clear kc kf
  go_wp2_with fail
  refine (x2.out bp W9 T9.out.rd).mono ?_
  rintro e y10 ⟨rfl, hr, hb⟩
  have Ta := hide (T9.out.but hb.ba hr)
  clear hr hb T9
  have kc := Ta.out.x.c1
  have kf := Ta.out.x.free 1
  simp only [Rc.zero] at kc
  have T10 := hide (Ta.out.set _ (Ta.out.x.s1 ((0 : Nat) : Int)) rfl)
  clear Ta
  go_upto_region 10 with fail
  generalize y10.setCell ⟨bx, 1, none⟩ (.int .i64 ((0 : Nat) : Int)) = W10 at *
  clear kc kf
  have c1 := T10.out.x.c1
  simp only at c1
  go_wp2_with fail
  refine (xv.out bp W10 T10.out.rd).mono ?_
  rintro e u5 ⟨a5, c5, rfl, hl5, hf5, hr5, hb5⟩
  have T5 := hide (T10.out.but hb5 hr5)
  have T6 := hide (T5.out.vol (m1 : Int) (m2 : Int) (m3 : Int) ll a5 c5 hl5 fun b o q => by
    have h1 := hf5 b o q
    have h2 := T10.out.z.lt
    have h3 := T10.out.x.lt
    have h4 := T10.out.rd.lt
    have h5 := T10.out.be.size
    exact ⟨by omega, by omega, by omega, by omega, h1.2⟩)
  clear hl5 hf5 hr5 hb5 T10 xv c1
  obtain ⟨k0, k1, k2, k3, k4, k5, k6, k7, k8, k9, k10, k11, k12, k13⟩ := T5.out.x.cells
  obtain ⟨f0, f1, f2, f3, f4, f5, f6, f7, f8, f9, f10, f11, f12, f13⟩ := T5.out.x.frees
  simp only [Rc.zero, List.length_nil] at k0 k1 k2 k3 k4 k5 k6 k7 k8 k9 k10 k11 k12 k13
  simp only [vlc]
  rw [HLN.out] at T6
  go_upto_region 13 with fail
  generalize (((u5.setCell ⟨bx, 2, none⟩ (.int .i64 (m1 : Int))).setCell ⟨bx, 3, none⟩ (.int .i64 (m2 : Int))).setCell ⟨bx, 4, none⟩ (.int .i64 (m3 : Int))).setCell ⟨bx, 5, none⟩ (.slice a5 9 c5) = W6 at *
  clear T5 k0 k1 k2 k3 k4 k5 k6 k7 k8 k9 k10 k11 k12 k13 f0 f1 f2 f3 f4 f5 f6 f7 f8 f9 f10 f11 f12 f13
  have c1 := T6.out.x.c1
  simp only at c1
  have c2 := T6.out.x.c2
  have c7 := T6.out.x.c7
  have f7 := T6.out.x.free 7
  simp only [Rc.zero] at c2 c7
  have T13 := hide (T6.out.set _ (T6.out.x.s7 (m1 : Int)) rfl)
  go_upto_region 15 with fail
  generalize W6.setCell ⟨bx, 7, none⟩ (.int .i64 (m1 : Int)) = W13 at *
  clear T6 c1 c2 c7 f7
  go_wp2_with fail
  refine (x3.out bp W13 T13.out.rd).mono ?_
  rintro e y14 ⟨rfl, hr, hb⟩
  have Ta := hide (T13.out.but hb.ba hr)
  clear hr hb T13
  have kc := Ta.out.x.c6
  have kf := Ta.out.x.free 6
  simp only [Rc.zero] at kc
  have T14 := hide (Ta.out.set _ (Ta.out.x.s6 ky) rfl)
  clear Ta
  go_upto_region 16 with fail
  generalize y14.setCell ⟨bx, 6, none⟩ (.string ky) = W14 at *
  clear kc kf
  go_wp2_with fail
  refine (x4.out bp W14 T14.out.rd).mono ?_
  rintro e y15 ⟨rfl, hr, hb⟩
  have Ta := hide (T14.out.but hb.ba hr)
  clear hr hb T14
  have kc := Ta.out.x.c8
  have kf := Ta.out.x.free 8
  simp only [Rc.zero] at kc
  have T15 := hide (Ta.out.set _ (Ta.out.x.s8 (no : Int)) rfl)
  clear Ta
  go_upto_region 17 with fail
  generalize y15.setCell ⟨bx, 8, none⟩ (.int .i64 (no : Int)) = W15 at *
  clear kc kf
  go_wp2_with fail
  refine (x5.out bp W15 T15.out.rd).mono ?_
  rintro e y16 ⟨rfl, hr, hb⟩
  have Ta := hide (T15.out.but hb.ba hr)
  clear hr hb T15
  have kc := Ta.out.x.c9
  have kf := Ta.out.x.free 9
  simp only [Rc.zero] at kc
  have T16 := hide (Ta.out.set _ (Ta.out.x.s9 (nl : Int)) rfl)
  clear Ta
  go_upto_region 18 with fail
  generalize y16.setCell ⟨bx, 9, none⟩ (.int .i64 (nl : Int)) = W16 at *
  clear kc kf
  go_wp2_with fail
  refine (x6.out bp W16 T16.out.rd).mono ?_
  rintro e y17 ⟨rfl, hr, hb⟩
  have Ta := hide (T16.out.but hb.ba hr)
  clear hr hb T16
  have kc := Ta.out.x.c10
  have kf := Ta.out.x.free 10
  simp only [Rc.zero] at kc
  have T17 := hide (Ta.out.set _ (Ta.out.x.s10 dg) rfl)
  clear Ta
  go_upto_region 19 with fail
  generalize y17.setCell ⟨bx, 10, none⟩ (.string dg) = W17 at *
  clear kc kf
  have c1 := T17.out.x.c1
  simp only at c1
  go_upto_region 22 with fail
  clear c1
  have TX : Hid (Tq w (wR X = s) bp w.heap.size bx X a5 c5 ByteArray.empty W17) := by
    have q := T17.out
    have e := HTK.out
    unfold Hid
    revert q
    generalize (wR X = s) = CP
    intro q
    rw [e]
    exact q
  clear T17 HTK
  go_wp2_with (first | (refine wpList_load_row rfl 33 (.tmp 7) rfl bx rfl 33 (rcs X a5 c5) (0, 0) _ TX.out.x Try.underlying33 rfl ref_info ?_))
  refine (qwrite_any X a5 c5 W17 TX.out.ls HF.out).mono ?_
  rintro e z1 ⟨rfl, hb⟩
  have TY1 := hide (TX.out.but (ba_below hb) (TX.out.rd.below hb))
  clear hb TX HF
  go_wp2_with fail
  refine (qend_c _ bp ByteArray.empty z1 TY1.out.rd).mono ?_
  rintro e z2 ⟨⟨E, rfl, hE⟩, hb⟩
  have hzz := (hb.block w.heap.size TY1.out.np).trans TY1.out.z
  have hxx := (hb.block bx TY1.out.nq).trans TY1.out.x
  have HZ2 : Hid (RBx w.heap.size 33 Rc.zero none 0 z2) := hzz
  have HX2 : Hid (RBx bx 33 X a5 c5 z2) := hxx
  have HB2 := hide (TY1.out.be.trans (hb.ba.below TY1.out.gp TY1.out.be.size))
  have HLS := hide (TY1.out.ls.keep hb.ba.size fun b o q hl => hb.block b (TY1.out.far b o q).2.2.2.1)
  have HTYP : Hid (∀ b o, (a5 : Option Addr) = some ⟨b, o, none⟩ → LocB z2 b) := fun b o q => (TY1.out.far b o q).2.2.2.2.keep (hb.block b (TY1.out.far b o q).2.2.2.1)
  have HFAR := hide TY1.out.far
  clear hb TY1 hzz hxx
  by_cases hw : wR X = s
  · obtain ⟨e1, e2⟩ := HYES.out hw
    have hq := str_eq hw
    have hck := HCK.out hw
    obtain rfl : E = 0 := hE hw rfl
    have HE1 := hide e1
    have HE2 := hide e2
    clear e1 e2 hw HYES HNO hE HL0 HCK
    generalize wR X = S at *
    rw [hck]
    clear hck
    have HLX : Hid (LocsAt (z2.setRow w.heap.size (rcs X a5 c5)) a5 X.ls) := HLS.out.keep (below_setRow (Below.refl w.heap.size z2) (Nat.le_refl _) _).size fun b o q hl => setRow_other _ _ _ _ (HFAR.out b o q).2.1
    go_wp2_with (first | (refine wpList_load_row rfl 33 (.tmp 7) rfl bx rfl 33 (rcs X a5 c5) (0, 0) _ HX2.out Try.underlying33 rfl ref_info ?_) | (refine wpList_store_row rfl 33 (.tmp 2) (.tmp 94) rfl w.heap.size (rcs X a5 c5) rfl rfl 33 (rcs Rc.zero none 0) HZ2.out ref_info rfl (rcs_one _ _ _) ?_))
    refine bodyPost_ret (res_ref_tmp rfl _ _ w.heap.size X a5 c5 rfl (HZ2.out.row _ _ _)) rfl ?_
    unfold RqP
    rw [HE1.out, HE2.out]
    exact ⟨a5, c5, rfl, HLX.out, (fun b o q => ⟨(HFAR.out b o q).1, (HTYP.out b o q).keep (setRow_other _ _ _ _ (HFAR.out b o q).2.1)⟩), below_setRow HB2.out (Nat.le_refl _) _⟩
  · obtain ⟨e1, e2⟩ := HNO.out hw
    have hq := str_ne hw
    have HE1 := hide e1
    have HE2 := hide e2
    clear e1 e2 hw HYES HNO hE HL0 HCK
    generalize wR X = S at *
    generalize ckR X = K at *
    have fin : RqP s w (.returned (.tuple #[.agg (rcs Rc.zero none 0), .int .i64 4])) (z2.setRow w.heap.size (rcs Rc.zero none 0)) := by
      unfold RqP
      rw [HE1.out, HE2.out]
      exact ⟨none, 0, rfl, .inl rfl, (fun b o q => by cases q), below_setRow HB2.out (Nat.le_refl _) _⟩
    have FIN := hide fin
    clear fin
    by_cases hE0 : E = 0
    · have p1 : (E != 0) = false := by simpa using hE0
      have p1' : (E == 0) = true := by simpa using hE0
      clear hE0
      by_cases hK0 : K = 0
      · have p2 : (K != 0) = false := by simpa using hK0
        have p2' : (K == 0) = true := by simpa using hK0
        clear hK0
        go_wp2_with (first | (refine wpList_store_row rfl 33 (.tmp 2) (.tmp 93) rfl w.heap.size (rcs Rc.zero none 0) rfl rfl 33 (rcs Rc.zero none 0) HZ2.out ref_info rfl (rcs_one _ _ _) ?_))
        refine bodyPost_ret (res_ref_tmp rfl _ _ w.heap.size Rc.zero none 0 rfl (HZ2.out.row _ _ _)) rfl ?_
        exact FIN.out
      · have p2 : (K != 0) = true := by simpa using hK0
        have p2' : (K == 0) = false := by simpa using hK0
        go_wp2_with (first | (refine wpList_store_row rfl 33 (.tmp 2) (.tmp 93) rfl w.heap.size (rcs Rc.zero none 0) rfl rfl 33 (rcs Rc.zero none 0) HZ2.out ref_info rfl (rcs_one _ _ _) ?_))
        refine bodyPost_ret (res_ref_tmp rfl _ _ w.heap.size Rc.zero none 0 rfl (HZ2.out.row _ _ _)) rfl ?_
        exact FIN.out
    · have p1 : (E != 0) = true := by simpa using hE0
      have p1' : (E == 0) = false := by simpa using hE0
      go_wp2_with (first | (refine wpList_store_row rfl 33 (.tmp 2) (.tmp 93) rfl w.heap.size (rcs Rc.zero none 0) rfl rfl 33 (rcs Rc.zero none 0) HZ2.out ref_info rfl (rcs_one _ _ _) ?_))
      refine bodyPost_ret (res_ref_tmp rfl _ _ w.heap.size Rc.zero none 0 rfl (HZ2.out.row _ _ _)) rfl ?_
      exact FIN.out
set_option maxRecDepth 100000 in
set_option maxHeartbeats 16000000 in
theorem qread1 (s : ByteArray) (w : World) (hs : s.size ≤ 100000) (h : opE s = 0) (hl : ¬ (opT s).size < 2) (hk : rN (rR (rest2 (opT s))) = 1) : Calls Try.prog 26 #[.string s] w (RqP s w) := by
  have HZ : Hid (RBx w.heap.size 33 Rc.zero none 0 (w.alloc (.cells #[.int .i64 0, .int .i64 0, .int .i64 0, .int .i64 0, .int .i64 0, .slice none 0 0, .string { data := #[] }, .int .i64 0, .int .i64 0, .int .i64 0, .string { data := #[] }, .string { data := #[] }, .int .i64 0, .int .i64 0] 33))) := rbx_new 33 Rc.zero none 0 w
  have HA : Hid (Below w.heap.size w (w.alloc (.cells #[.int .i64 0, .int .i64 0, .int .i64 0, .int .i64 0, .int .i64 0, .slice none 0 0, .string { data := #[] }, .int .i64 0, .int .i64 0, .int .i64 0, .string { data := #[] }, .string { data := #[] }, .int .i64 0, .int .i64 0] 33))) := (Below.refl _ _).alloc (Nat.le_refl _) _
  have HO : Hid (∀ w, Calls Try.prog 37 #[.string s] w fun e w' => e = .returned (.tuple #[.string (opT s), .int .i64 0]) ∧ Below w.heap.size w w') := fun w => by have := refOpen_any s w (by omega); rw [h] at this; exact this
  have q2 : decide (((opT s).size : Int) < 2) = false := by simp; omega
  have hl2 : ¬ ((opT s).size : Int) < 2 := by omega
  have hl3 : (2 : Int) ≤ ((opT s).size : Int) := by omega
  have HU : Hid ((opT s).extract 2 (opT s).size = rest2 (opT s)) := rfl
  obtain ⟨hq1, hq2⟩ := q_same h
  have HYES : Hid (wR (tkQ (rest2 (opT s))) = s → rdE s = 0 ∧ rdC s = tkQ (rest2 (opT s))) := fun q => by
    have p := hq1.1 q
    rw [(hq2 p).1]
    exact rdE_yes h p
  have HNO : Hid (wR (tkQ (rest2 (opT s))) ≠ s → rdE s = 4 ∧ rdC s = Rc.zero) := fun q => rdE_no h fun p => q (hq1.2 p)
  have HCL : Hid (wR (tkQ (rest2 (opT s))) = s → clnR (rest2 (opT s))) := fun q => (hq2 (hq1.1 q)).2
  have HCK : Hid (wR (tkQ (rest2 (opT s))) = s → ckR (tkQ (rest2 (opT s))) = 0) := fun q => (wR_some (opE_zero h).1 q).1
  have hz : (rest2 (opT s)).size ≤ 100000 := by
    have : (opT s).size ≤ 100000 := by rw [(opE_zero h).2.2, headS_size]; omega
    unfold rest2; rw [ByteArray.size_extract]; omega
  have HF := hide (tkQ_fit (rest2 (opT s)) hz)
  have e0 : tkQ (rest2 (opT s)) = tk1 (rest2 (opT s)) := by unfold tkQ; rw [if_neg (by omega), if_pos hk]
  rw [e0] at HYES HNO HCL HCK HF
  have HLF : Hid (leftR (rest2 (opT s)) = leftR (rest2 (opT s))) := rfl
  clear e0 hq1 hq2 h hl
  generalize rest2 (opT s) = U at *
  generalize opT s = T at *
  have HL0 : Hid (wR (tk1 U) = s → (tR (rR (rR U)) : ByteArray) = ByteArray.empty) := fun q => by
    have p := (HCL.out q).2.2.2.2.2.2
    unfold leftR at p
    dsimp only at p
    rw [if_neg (by omega), if_pos hk] at p
    exact p
  have l1 := rR_size U
  have l2 := rR_size (rR U)
  have l3 := rR_size (rR (rR U))
  have l4 := rR_size (rR (rR (rR U)))
  have l5 := rR_size (rR (rR (rR (rR U))))
  have l6 := lcsR_size 9 (rR (rR (rR (rR (rR U)))))
  have l7 := tR_size (lcsR 9 (rR (rR (rR (rR (rR U))))))
  have l8 := rR_size (tR (lcsR 9 (rR (rR (rR (rR (rR U)))))))
  have l9 := rR_size (lcsR 9 (rR (rR (rR (rR (rR U))))))
  have x1 : Hid (∀ bp W, RdC (wR (tk1 U) = s) W bp 84 U → Calls Try.prog 38 #[.pointer (some ⟨bp, 0, none⟩)] W fun r w' => r = .returned (.int .i64 (rN U : Nat)) ∧ RdC (wR (tk1 U) = s) w' bp 84 (rR U) ∧ But bp W w') := fun bp W h => qnum_c _ bp _ W h (by omega) fun c => (HCL.out c).1
  have x2 : Hid (∀ bp W, RdC (wR (tk1 U) = s) W bp 84 (rR U) → Calls Try.prog 38 #[.pointer (some ⟨bp, 0, none⟩)] W fun r w' => r = .returned (.int .i64 (rN (rR U) : Nat)) ∧ RdC (wR (tk1 U) = s) w' bp 84 (rR (rR U)) ∧ But bp W w') := fun bp W h => qnum_c _ bp _ W h (by omega) fun c => (HCL.out c).2.1
  have x3 : Hid (∀ bp W, RdC (wR (tk1 U) = s) W bp 84 (rR (rR U)) → Calls Try.prog 39 #[.pointer (some ⟨bp, 0, none⟩)] W fun r w' => r = .returned (.string (tT (rR (rR U)))) ∧ RdC (wR (tk1 U) = s) w' bp 84 (tR (rR (rR U))) ∧ But bp W w') := fun bp W h => qtext_c _ bp _ W h (by omega) fun c => (HCL.out c).2.2.1 hk
  have HTK : Hid (tk1 U = ⟨((rN U : Nat) : Int), ((rN (rR U) : Nat) : Int), 0, 0, 0, [], ByteArray.empty, 0, 0, 0, ByteArray.empty, tT (rR (rR U)), 0, 0⟩) := rfl
  rw [hk] at x2 HTK
  clear l1 l2 l3 l4 l5 l6 l7 l8 l9 HCL HLF
  clear hk hs hz
  generalize tk1 U = X at *
  generalize tR (rR (rR U)) = v1 at *
  generalize tT (rR (rR U)) = ky at *
  generalize rR (rR U) = s2 at *
  generalize rR U = s1 at *
  generalize rN U = n1 at *
  go_enter Try.func26, Try.ntmps26
  go_upto_region 1 with fail
  generalize w.alloc (.cells #[.int .i64 0, .int .i64 0, .int .i64 0, .int .i64 0, .int .i64 0, .slice none 0 0, .string { data := #[] }, .int .i64 0, .int .i64 0, .int .i64 0, .string { data := #[] }, .string { data := #[] }, .int .i64 0, .int .i64 0] 33) = W1 at *
  go_wp2_with fail
  refine (HO.out W1).mono ?_
  rintro e w1 ⟨rfl, hb1⟩
  have HB1 := hide (HA.out.trans (hb1.mono HA.out.size))
  have HZ1 := hide (HZ.out.below hb1 HZ.out.lt)
  clear hb1 HA HZ HO
  have hal : Below w1.heap.size w1 ((w1.alloc (.cells #[.string U, .int .i64 0] 84)).alloc (.cells #[.int .i64 0, .int .i64 0, .int .i64 0, .int .i64 0, .int .i64 0, .slice none 0 0, .string { data := #[] }, .int .i64 0, .int .i64 0, .int .i64 0, .string { data := #[] }, .string { data := #[] }, .int .i64 0, .int .i64 0] 33)) := ((Below.refl _ _).alloc (Nat.le_refl _) _).alloc (by rw [World.size_alloc]; omega) _
  have hzl := HZ1.out.lt
  have T8 : Hid (Tq w (wR X = s) w1.heap.size w.heap.size (w1.heap.size + 1) Rc.zero none 0 U ((w1.alloc (.cells #[.string U, .int .i64 0] 84)).alloc (.cells #[.int .i64 0, .int .i64 0, .int .i64 0, .int .i64 0, .int .i64 0, .slice none 0 0, .string { data := #[] }, .int .i64 0, .int .i64 0, .int .i64 0, .string { data := #[] }, .string { data := #[] }, .int .i64 0, .int .i64 0] 33))) := by
    have q1 : ((w1.alloc (.cells #[.string U, .int .i64 0] 84)).alloc (.cells #[.int .i64 0, .int .i64 0, .int .i64 0, .int .i64 0, .int .i64 0, .slice none 0 0, .string { data := #[] }, .int .i64 0, .int .i64 0, .int .i64 0, .string { data := #[] }, .string { data := #[] }, .int .i64 0, .int .i64 0] 33)).heap[w1.heap.size]? = some (.cells #[.string U, .int .i64 0] 84 (0, 0)) := (Below.heap_alloc _ _ _ (by rw [World.size_alloc]; omega)).trans (heap_alloc_new w1 _)
    have q2 := rbx_new 33 Rc.zero none 0 (w1.alloc (.cells #[.string U, .int .i64 0] 84))
    rw [World.size_alloc] at q2
    exact ⟨HZ1.out.below hal HZ1.out.lt, q2, ⟨0, q1, fun q => absurd rfl q, fun _ => rfl⟩, HB1.out.trans (hal.mono HB1.out.size), HB1.out.size, Nat.le_refl _, by have := HB1.out.size; omega, by omega, by omega, by omega, .inl rfl, fun b o q => by cases q⟩
  clear hal HB1 HZ1
  go_upto_region 8 with fail
  rw [HU.out]
  generalize ((w1.alloc (.cells #[.string U, .int .i64 0] 84)).alloc (.cells #[.int .i64 0, .int .i64 0, .int .i64 0, .int .i64 0, .int .i64 0, .slice none 0 0, .string { data := #[] }, .int .i64 0, .int .i64 0, .int .i64 0, .string { data := #[] }, .string { data := #[] }, .int .i64 0, .int .i64 0] 33)) = W8 at *
  generalize hbpx : w1.heap.size = bp at *
  have hbx0 : bp + 1 ≠ bp := by omega
  generalize bp + 1 = bx at *
  clear hl2 hl3 q2 hzl hbpx
  go_wp2_with fail
  refine (x1.out bp W8 T8.out.rd).mono ?_
  rintro e y9 ⟨rfl, hr, hb⟩
  have Ta := hide (T8.out.but hb.ba hr)
  clear hr hb T8
  have kc := Ta.out.x.c0
  have kf := Ta.out.x.free 0
  simp only [Rc.zero] at kc
  have T9 := hide (Ta.out.set _ (Ta.out.x.s0 (n1 : Int)) rfl)
  clear Ta
  go_upto_region 9 with fail
  generalize y9.setCell ⟨bx, 0, none⟩ (.int .i64 (n1 : Int)) = W9 at *
  clear kc kf
  go_wp2_with fail
  refine (x2.out bp W9 T9.out.rd).mono ?_
  rintro e y10 ⟨rfl, hr, hb⟩
  have Ta := hide (T9.out.but hb.ba hr)
  clear hr hb T9
  have kc := Ta.out.x.c1
  have kf := Ta.out.x.free 1
  simp only [Rc.zero] at kc
  have T10 := hide (Ta.out.set _ (Ta.out.x.s1 ((1 : Nat) : Int)) rfl)
  clear Ta
  go_upto_region 10 with fail
  generalize y10.setCell ⟨bx, 1, none⟩ (.int .i64 ((1 : Nat) : Int)) = W10 at *
  clear kc kf
  have c1 := T10.out.x.c1
  simp only at c1
  go_wp2_with fail
  refine (x3.out bp W10 T10.out.rd).mono ?_
  rintro e y11 ⟨rfl, hr, hb⟩
  have Ta := hide (T10.out.but hb.ba hr)
  clear hr hb T10
  have kc := Ta.out.x.c11
  have kf := Ta.out.x.free 11
  simp only [Rc.zero] at kc
  have T11 := hide (Ta.out.set _ (Ta.out.x.s11 ky) rfl)
  clear Ta
  go_upto_region 13 with fail
  generalize y11.setCell ⟨bx, 11, none⟩ (.string ky) = W11 at *
  clear kc kf c1
  have c1 := T11.out.x.c1
  simp only at c1
  go_upto_region 22 with fail
  clear c1
  have TX : Hid (Tq w (wR X = s) bp w.heap.size bx X none 0 v1 W11) := by
    have q := T11.out
    have e := HTK.out
    unfold Hid
    revert q
    generalize (wR X = s) = CP
    intro q
    rw [e]
    exact q
  clear T11 HTK
  go_wp2_with (first | (refine wpList_load_row rfl 33 (.tmp 7) rfl bx rfl 33 (rcs X none 0) (0, 0) _ TX.out.x Try.underlying33 rfl ref_info ?_))
  refine (qwrite_any X none 0 W11 TX.out.ls HF.out).mono ?_
  rintro e z1 ⟨rfl, hb⟩
  have TY1 := hide (TX.out.but (ba_below hb) (TX.out.rd.below hb))
  clear hb TX HF
  go_wp2_with fail
  refine (qend_c _ bp v1 z1 TY1.out.rd).mono ?_
  rintro e z2 ⟨⟨E, rfl, hE⟩, hb⟩
  have hzz := (hb.block w.heap.size TY1.out.np).trans TY1.out.z
  have hxx := (hb.block bx TY1.out.nq).trans TY1.out.x
  have HZ2 : Hid (RBx w.heap.size 33 Rc.zero none 0 z2) := hzz
  have HX2 : Hid (RBx bx 33 X none 0 z2) := hxx
  have HB2 := hide (TY1.out.be.trans (hb.ba.below TY1.out.gp TY1.out.be.size))
  have HLS := hide (TY1.out.ls.keep hb.ba.size fun b o q hl => hb.block b (TY1.out.far b o q).2.2.2.1)
  have HTYP : Hid (∀ b o, (none : Option Addr) = some ⟨b, o, none⟩ → LocB z2 b) := fun b o q => (TY1.out.far b o q).2.2.2.2.keep (hb.block b (TY1.out.far b o q).2.2.2.1)
  have HFAR := hide TY1.out.far
  clear hb TY1 hzz hxx
  by_cases hw : wR X = s
  · obtain ⟨e1, e2⟩ := HYES.out hw
    have hq := str_eq hw
    have hck := HCK.out hw
    obtain rfl : E = 0 := hE hw (HL0.out hw)
    have HE1 := hide e1
    have HE2 := hide e2
    clear e1 e2 hw HYES HNO hE HL0 HCK
    generalize wR X = S at *
    rw [hck]
    clear hck
    have HLX : Hid (LocsAt (z2.setRow w.heap.size (rcs X none 0)) none X.ls) := HLS.out.keep (below_setRow (Below.refl w.heap.size z2) (Nat.le_refl _) _).size fun b o q hl => setRow_other _ _ _ _ (HFAR.out b o q).2.1
    go_wp2_with (first | (refine wpList_load_row rfl 33 (.tmp 7) rfl bx rfl 33 (rcs X none 0) (0, 0) _ HX2.out Try.underlying33 rfl ref_info ?_) | (refine wpList_store_row rfl 33 (.tmp 2) (.tmp 94) rfl w.heap.size (rcs X none 0) rfl rfl 33 (rcs Rc.zero none 0) HZ2.out ref_info rfl (rcs_one _ _ _) ?_))
    refine bodyPost_ret (res_ref_tmp rfl _ _ w.heap.size X none 0 rfl (HZ2.out.row _ _ _)) rfl ?_
    unfold RqP
    rw [HE1.out, HE2.out]
    exact ⟨none, 0, rfl, HLX.out, (fun b o q => ⟨(HFAR.out b o q).1, (HTYP.out b o q).keep (setRow_other _ _ _ _ (HFAR.out b o q).2.1)⟩), below_setRow HB2.out (Nat.le_refl _) _⟩
  · obtain ⟨e1, e2⟩ := HNO.out hw
    have hq := str_ne hw
    have HE1 := hide e1
    have HE2 := hide e2
    clear e1 e2 hw HYES HNO hE HL0 HCK
    generalize wR X = S at *
    generalize ckR X = K at *
    have fin : RqP s w (.returned (.tuple #[.agg (rcs Rc.zero none 0), .int .i64 4])) (z2.setRow w.heap.size (rcs Rc.zero none 0)) := by
      unfold RqP
      rw [HE1.out, HE2.out]
      exact ⟨none, 0, rfl, .inl rfl, (fun b o q => by cases q), below_setRow HB2.out (Nat.le_refl _) _⟩
    have FIN := hide fin
    clear fin
    by_cases hE0 : E = 0
    · have p1 : (E != 0) = false := by simpa using hE0
      have p1' : (E == 0) = true := by simpa using hE0
      clear hE0
      by_cases hK0 : K = 0
      · have p2 : (K != 0) = false := by simpa using hK0
        have p2' : (K == 0) = true := by simpa using hK0
        clear hK0
        go_wp2_with (first | (refine wpList_store_row rfl 33 (.tmp 2) (.tmp 93) rfl w.heap.size (rcs Rc.zero none 0) rfl rfl 33 (rcs Rc.zero none 0) HZ2.out ref_info rfl (rcs_one _ _ _) ?_))
        refine bodyPost_ret (res_ref_tmp rfl _ _ w.heap.size Rc.zero none 0 rfl (HZ2.out.row _ _ _)) rfl ?_
        exact FIN.out
      · have p2 : (K != 0) = true := by simpa using hK0
        have p2' : (K == 0) = false := by simpa using hK0
        go_wp2_with (first | (refine wpList_store_row rfl 33 (.tmp 2) (.tmp 93) rfl w.heap.size (rcs Rc.zero none 0) rfl rfl 33 (rcs Rc.zero none 0) HZ2.out ref_info rfl (rcs_one _ _ _) ?_))
        refine bodyPost_ret (res_ref_tmp rfl _ _ w.heap.size Rc.zero none 0 rfl (HZ2.out.row _ _ _)) rfl ?_
        exact FIN.out
    · have p1 : (E != 0) = true := by simpa using hE0
      have p1' : (E == 0) = false := by simpa using hE0
      go_wp2_with (first | (refine wpList_store_row rfl 33 (.tmp 2) (.tmp 93) rfl w.heap.size (rcs Rc.zero none 0) rfl rfl 33 (rcs Rc.zero none 0) HZ2.out ref_info rfl (rcs_one _ _ _) ?_))
      refine bodyPost_ret (res_ref_tmp rfl _ _ w.heap.size Rc.zero none 0 rfl (HZ2.out.row _ _ _)) rfl ?_
      exact FIN.out
set_option maxRecDepth 100000 in
set_option maxHeartbeats 16000000 in
theorem qread3 (s : ByteArray) (w : World) (hs : s.size ≤ 100000) (h : opE s = 0) (hl : ¬ (opT s).size < 2) (hk : rN (rR (rest2 (opT s))) = 3) : Calls Try.prog 26 #[.string s] w (RqP s w) := by
  have HZ : Hid (RBx w.heap.size 33 Rc.zero none 0 (w.alloc (.cells #[.int .i64 0, .int .i64 0, .int .i64 0, .int .i64 0, .int .i64 0, .slice none 0 0, .string { data := #[] }, .int .i64 0, .int .i64 0, .int .i64 0, .string { data := #[] }, .string { data := #[] }, .int .i64 0, .int .i64 0] 33))) := rbx_new 33 Rc.zero none 0 w
  have HA : Hid (Below w.heap.size w (w.alloc (.cells #[.int .i64 0, .int .i64 0, .int .i64 0, .int .i64 0, .int .i64 0, .slice none 0 0, .string { data := #[] }, .int .i64 0, .int .i64 0, .int .i64 0, .string { data := #[] }, .string { data := #[] }, .int .i64 0, .int .i64 0] 33))) := (Below.refl _ _).alloc (Nat.le_refl _) _
  have HO : Hid (∀ w, Calls Try.prog 37 #[.string s] w fun e w' => e = .returned (.tuple #[.string (opT s), .int .i64 0]) ∧ Below w.heap.size w w') := fun w => by have := refOpen_any s w (by omega); rw [h] at this; exact this
  have q2 : decide (((opT s).size : Int) < 2) = false := by simp; omega
  have hl2 : ¬ ((opT s).size : Int) < 2 := by omega
  have hl3 : (2 : Int) ≤ ((opT s).size : Int) := by omega
  have HU : Hid ((opT s).extract 2 (opT s).size = rest2 (opT s)) := rfl
  obtain ⟨hq1, hq2⟩ := q_same h
  have HYES : Hid (wR (tkQ (rest2 (opT s))) = s → rdE s = 0 ∧ rdC s = tkQ (rest2 (opT s))) := fun q => by
    have p := hq1.1 q
    rw [(hq2 p).1]
    exact rdE_yes h p
  have HNO : Hid (wR (tkQ (rest2 (opT s))) ≠ s → rdE s = 4 ∧ rdC s = Rc.zero) := fun q => rdE_no h fun p => q (hq1.2 p)
  have HCL : Hid (wR (tkQ (rest2 (opT s))) = s → clnR (rest2 (opT s))) := fun q => (hq2 (hq1.1 q)).2
  have HCK : Hid (wR (tkQ (rest2 (opT s))) = s → ckR (tkQ (rest2 (opT s))) = 0) := fun q => (wR_some (opE_zero h).1 q).1
  have hz : (rest2 (opT s)).size ≤ 100000 := by
    have : (opT s).size ≤ 100000 := by rw [(opE_zero h).2.2, headS_size]; omega
    unfold rest2; rw [ByteArray.size_extract]; omega
  have HF := hide (tkQ_fit (rest2 (opT s)) hz)
  have e0 : tkQ (rest2 (opT s)) = tk3 (rest2 (opT s)) := by unfold tkQ; rw [if_neg (by omega), if_neg (by omega), if_pos hk]
  rw [e0] at HYES HNO HCL HCK HF
  have HLF : Hid (leftR (rest2 (opT s)) = leftR (rest2 (opT s))) := rfl
  clear e0 hq1 hq2 h hl
  generalize rest2 (opT s) = U at *
  generalize opT s = T at *
  have HL0 : Hid (wR (tk3 U) = s → (rR (rR (lcsR 9 (rR (rR (rR (rR (rR U))))))) : ByteArray) = ByteArray.empty) := fun q => by
    have p := (HCL.out q).2.2.2.2.2.2
    unfold leftR at p
    dsimp only at p
    rw [if_neg (by omega), if_neg (by omega), if_pos hk] at p
    exact p
  have l1 := rR_size U
  have l2 := rR_size (rR U)
  have l3 := rR_size (rR (rR U))
  have l4 := rR_size (rR (rR (rR U)))
  have l5 := rR_size (rR (rR (rR (rR U))))
  have l6 := lcsR_size 9 (rR (rR (rR (rR (rR U)))))
  have l7 := tR_size (lcsR 9 (rR (rR (rR (rR (rR U))))))
  have l8 := rR_size (tR (lcsR 9 (rR (rR (rR (rR (rR U)))))))
  have l9 := rR_size (lcsR 9 (rR (rR (rR (rR (rR U))))))
  have x1 : Hid (∀ bp W, RdC (wR (tk3 U) = s) W bp 84 U → Calls Try.prog 38 #[.pointer (some ⟨bp, 0, none⟩)] W fun r w' => r = .returned (.int .i64 (rN U : Nat)) ∧ RdC (wR (tk3 U) = s) w' bp 84 (rR U) ∧ But bp W w') := fun bp W h => qnum_c _ bp _ W h (by omega) fun c => (HCL.out c).1
  have x2 : Hid (∀ bp W, RdC (wR (tk3 U) = s) W bp 84 (rR U) → Calls Try.prog 38 #[.pointer (some ⟨bp, 0, none⟩)] W fun r w' => r = .returned (.int .i64 (rN (rR U) : Nat)) ∧ RdC (wR (tk3 U) = s) w' bp 84 (rR (rR U)) ∧ But bp W w') := fun bp W h => qnum_c _ bp _ W h (by omega) fun c => (HCL.out c).2.1
  have xv : Hid (∀ bp W, RdC (wR (tk3 U) = s) W bp 84 (rR (rR U)) → Calls Try.prog 40 #[.pointer (some ⟨bp, 0, none⟩)] W fun e w' => ∃ a c, e = .returned (.agg (vlc (rN (rR (rR U)) : Nat) (rN (rR (rR (rR U))) : Nat) (rN (rR (rR (rR (rR U)))) : Nat) a 9 c)) ∧ LocsAt w' a (lcsT 9 (rR (rR (rR (rR (rR U)))))) ∧ (∀ b o, a = some ⟨b, o, none⟩ → W.heap.size ≤ b ∧ LocB w' b) ∧ RdC (wR (tk3 U) = s) w' bp 84 (lcsR 9 (rR (rR (rR (rR (rR U)))))) ∧ Ba bp W w') := fun bp W h => rvolume_any _ bp _ W h (by omega) fun c => (HCL.out c).2.2.2.1 (by omega)
  have x3 : Hid (∀ bp W, RdC (wR (tk3 U) = s) W bp 84 (lcsR 9 (rR (rR (rR (rR (rR U)))))) → Calls Try.prog 38 #[.pointer (some ⟨bp, 0, none⟩)] W fun r w' => r = .returned (.int .i64 (rN (lcsR 9 (rR (rR (rR (rR (rR U)))))) : Nat)) ∧ RdC (wR (tk3 U) = s) w' bp 84 (rR (lcsR 9 (rR (rR (rR (rR (rR U))))))) ∧ But bp W w') := fun bp W h => qnum_c _ bp _ W h (by omega) fun c => ((HCL.out c).2.2.2.2.2.1 hk).1
  have x4 : Hid (∀ bp W, RdC (wR (tk3 U) = s) W bp 84 (rR (lcsR 9 (rR (rR (rR (rR (rR U))))))) → Calls Try.prog 38 #[.pointer (some ⟨bp, 0, none⟩)] W fun r w' => r = .returned (.int .i64 (rN (rR (lcsR 9 (rR (rR (rR (rR (rR U))))))) : Nat)) ∧ RdC (wR (tk3 U) = s) w' bp 84 (rR (rR (lcsR 9 (rR (rR (rR (rR (rR U)))))))) ∧ But bp W w') := fun bp W h => qnum_c _ bp _ W h (by omega) fun c => ((HCL.out c).2.2.2.2.2.1 hk).2
  have HTK : Hid (tk3 U = ⟨((rN U : Nat) : Int), ((rN (rR U) : Nat) : Int), ((rN (rR (rR U)) : Nat) : Int), ((rN (rR (rR (rR U))) : Nat) : Int), ((rN (rR (rR (rR (rR U)))) : Nat) : Int), lcsT 9 (rR (rR (rR (rR (rR U))))), ByteArray.empty, 0, 0, 0, ByteArray.empty, ByteArray.empty, ((rN (lcsR 9 (rR (rR (rR (rR (rR U)))))) : Nat) : Int), ((rN (rR (lcsR 9 (rR (rR (rR (rR (rR U))))))) : Nat) : Int)⟩) := rfl
  rw [hk] at x2 HTK
  clear l1 l2 l3 l4 l5 l6 l7 l8 l9 HCL HLF
  clear hk hs hz
  generalize tk3 U = X at *
  generalize rR (rR (lcsR 9 (rR (rR (rR (rR (rR U))))))) = v2 at *
  generalize rN (rR (lcsR 9 (rR (rR (rR (rR (rR U))))))) = nt at *
  generalize rR (lcsR 9 (rR (rR (rR (rR (rR U)))))) = v1 at *
  generalize rN (lcsR 9 (rR (rR (rR (rR (rR U)))))) = nf at *
  have HLN : Hid ((lcsT 9 (rR (rR (rR (rR (rR U)))))).length = 9) := lcsT_len _ _
  generalize (lcsR 9 (rR (rR (rR (rR (rR U)))))) = v0 at *
  generalize lcsT 9 (rR (rR (rR (rR (rR U))))) = ll at *
  generalize rN (rR (rR (rR (rR U)))) = m3 at *
  generalize rN (rR (rR (rR U))) = m2 at *
  generalize rN (rR (rR U)) = m1 at *
  generalize rR (rR U) = s2 at *
  generalize rR U = s1 at *
  generalize rN U = n1 at *
  go_enter Try.func26, Try.ntmps26
  go_upto_region 1 with fail
  generalize w.alloc (.cells #[.int .i64 0, .int .i64 0, .int .i64 0, .int .i64 0, .int .i64 0, .slice none 0 0, .string { data := #[] }, .int .i64 0, .int .i64 0, .int .i64 0, .string { data := #[] }, .string { data := #[] }, .int .i64 0, .int .i64 0] 33) = W1 at *
  go_wp2_with fail
  refine (HO.out W1).mono ?_
  rintro e w1 ⟨rfl, hb1⟩
  have HB1 := hide (HA.out.trans (hb1.mono HA.out.size))
  have HZ1 := hide (HZ.out.below hb1 HZ.out.lt)
  clear hb1 HA HZ HO
  have hal : Below w1.heap.size w1 ((w1.alloc (.cells #[.string U, .int .i64 0] 84)).alloc (.cells #[.int .i64 0, .int .i64 0, .int .i64 0, .int .i64 0, .int .i64 0, .slice none 0 0, .string { data := #[] }, .int .i64 0, .int .i64 0, .int .i64 0, .string { data := #[] }, .string { data := #[] }, .int .i64 0, .int .i64 0] 33)) := ((Below.refl _ _).alloc (Nat.le_refl _) _).alloc (by rw [World.size_alloc]; omega) _
  have hzl := HZ1.out.lt
  have T8 : Hid (Tq w (wR X = s) w1.heap.size w.heap.size (w1.heap.size + 1) Rc.zero none 0 U ((w1.alloc (.cells #[.string U, .int .i64 0] 84)).alloc (.cells #[.int .i64 0, .int .i64 0, .int .i64 0, .int .i64 0, .int .i64 0, .slice none 0 0, .string { data := #[] }, .int .i64 0, .int .i64 0, .int .i64 0, .string { data := #[] }, .string { data := #[] }, .int .i64 0, .int .i64 0] 33))) := by
    have q1 : ((w1.alloc (.cells #[.string U, .int .i64 0] 84)).alloc (.cells #[.int .i64 0, .int .i64 0, .int .i64 0, .int .i64 0, .int .i64 0, .slice none 0 0, .string { data := #[] }, .int .i64 0, .int .i64 0, .int .i64 0, .string { data := #[] }, .string { data := #[] }, .int .i64 0, .int .i64 0] 33)).heap[w1.heap.size]? = some (.cells #[.string U, .int .i64 0] 84 (0, 0)) := (Below.heap_alloc _ _ _ (by rw [World.size_alloc]; omega)).trans (heap_alloc_new w1 _)
    have q2 := rbx_new 33 Rc.zero none 0 (w1.alloc (.cells #[.string U, .int .i64 0] 84))
    rw [World.size_alloc] at q2
    exact ⟨HZ1.out.below hal HZ1.out.lt, q2, ⟨0, q1, fun q => absurd rfl q, fun _ => rfl⟩, HB1.out.trans (hal.mono HB1.out.size), HB1.out.size, Nat.le_refl _, by have := HB1.out.size; omega, by omega, by omega, by omega, .inl rfl, fun b o q => by cases q⟩
  clear hal HB1 HZ1
  go_upto_region 8 with fail
  rw [HU.out]
  generalize ((w1.alloc (.cells #[.string U, .int .i64 0] 84)).alloc (.cells #[.int .i64 0, .int .i64 0, .int .i64 0, .int .i64 0, .int .i64 0, .slice none 0 0, .string { data := #[] }, .int .i64 0, .int .i64 0, .int .i64 0, .string { data := #[] }, .string { data := #[] }, .int .i64 0, .int .i64 0] 33)) = W8 at *
  generalize hbpx : w1.heap.size = bp at *
  have hbx0 : bp + 1 ≠ bp := by omega
  generalize bp + 1 = bx at *
  clear hl2 hl3 q2 hzl hbpx
  go_wp2_with fail
  refine (x1.out bp W8 T8.out.rd).mono ?_
  rintro e y9 ⟨rfl, hr, hb⟩
  have Ta := hide (T8.out.but hb.ba hr)
  clear hr hb T8
  have kc := Ta.out.x.c0
  have kf := Ta.out.x.free 0
  simp only [Rc.zero] at kc
  have T9 := hide (Ta.out.set _ (Ta.out.x.s0 (n1 : Int)) rfl)
  clear Ta
  go_upto_region 9 with fail
  generalize y9.setCell ⟨bx, 0, none⟩ (.int .i64 (n1 : Int)) = W9 at *
  clear kc kf
  go_wp2_with fail
  refine (x2.out bp W9 T9.out.rd).mono ?_
  rintro e y10 ⟨rfl, hr, hb⟩
  have Ta := hide (T9.out.but hb.ba hr)
  clear hr hb T9
  have kc := Ta.out.x.c1
  have kf := Ta.out.x.free 1
  simp only [Rc.zero] at kc
  have T10 := hide (Ta.out.set _ (Ta.out.x.s1 ((3 : Nat) : Int)) rfl)
  clear Ta
  go_upto_region 10 with fail
  generalize y10.setCell ⟨bx, 1, none⟩ (.int .i64 ((3 : Nat) : Int)) = W10 at *
  clear kc kf
  have c1 := T10.out.x.c1
  simp only at c1
  go_wp2_with fail
  refine (xv.out bp W10 T10.out.rd).mono ?_
  rintro e u5 ⟨a5, c5, rfl, hl5, hf5, hr5, hb5⟩
  have T5 := hide (T10.out.but hb5 hr5)
  have T6 := hide (T5.out.vol (m1 : Int) (m2 : Int) (m3 : Int) ll a5 c5 hl5 fun b o q => by
    have h1 := hf5 b o q
    have h2 := T10.out.z.lt
    have h3 := T10.out.x.lt
    have h4 := T10.out.rd.lt
    have h5 := T10.out.be.size
    exact ⟨by omega, by omega, by omega, by omega, h1.2⟩)
  clear hl5 hf5 hr5 hb5 T10 xv c1
  obtain ⟨k0, k1, k2, k3, k4, k5, k6, k7, k8, k9, k10, k11, k12, k13⟩ := T5.out.x.cells
  obtain ⟨f0, f1, f2, f3, f4, f5, f6, f7, f8, f9, f10, f11, f12, f13⟩ := T5.out.x.frees
  simp only [Rc.zero, List.length_nil] at k0 k1 k2 k3 k4 k5 k6 k7 k8 k9 k10 k11 k12 k13
  simp only [vlc]
  rw [HLN.out] at T6
  go_upto_region 13 with fail
  generalize (((u5.setCell ⟨bx, 2, none⟩ (.int .i64 (m1 : Int))).setCell ⟨bx, 3, none⟩ (.int .i64 (m2 : Int))).setCell ⟨bx, 4, none⟩ (.int .i64 (m3 : Int))).setCell ⟨bx, 5, none⟩ (.slice a5 9 c5) = W6 at *
  clear T5 k0 k1 k2 k3 k4 k5 k6 k7 k8 k9 k10 k11 k12 k13 f0 f1 f2 f3 f4 f5 f6 f7 f8 f9 f10 f11 f12 f13
  have c1 := T6.out.x.c1
  simp only at c1
  go_upto_region 19 with fail
  clear c1
  have c1 := T6.out.x.c1
  simp only at c1
  go_wp2_with fail
  refine (x3.out bp W6 T6.out.rd).mono ?_
  rintro e y13 ⟨rfl, hr, hb⟩
  have Ta := hide (T6.out.but hb.ba hr)
  clear hr hb T6
  have kc := Ta.out.x.c12
  have kf := Ta.out.x.free 12
  simp only [Rc.zero] at kc
  have T13 := hide (Ta.out.set _ (Ta.out.x.s12 (nf : Int)) rfl)
  clear Ta
  go_upto_region 21 with fail
  generalize y13.setCell ⟨bx, 12, none⟩ (.int .i64 (nf : Int)) = W13 at *
  clear kc kf c1
  go_wp2_with fail
  refine (x4.out bp W13 T13.out.rd).mono ?_
  rintro e y14 ⟨rfl, hr, hb⟩
  have Ta := hide (T13.out.but hb.ba hr)
  clear hr hb T13
  have kc := Ta.out.x.c13
  have kf := Ta.out.x.free 13
  simp only [Rc.zero] at kc
  have T14 := hide (Ta.out.set _ (Ta.out.x.s13 (nt : Int)) rfl)
  clear Ta
  go_upto_region 22 with fail
  generalize y14.setCell ⟨bx, 13, none⟩ (.int .i64 (nt : Int)) = W14 at *
  clear kc kf
  have TX : Hid (Tq w (wR X = s) bp w.heap.size bx X a5 c5 v2 W14) := by
    have q := T14.out
    have e := HTK.out
    unfold Hid
    revert q
    generalize (wR X = s) = CP
    intro q
    rw [e]
    exact q
  clear T14 HTK
  go_wp2_with (first | (refine wpList_load_row rfl 33 (.tmp 7) rfl bx rfl 33 (rcs X a5 c5) (0, 0) _ TX.out.x Try.underlying33 rfl ref_info ?_))
  refine (qwrite_any X a5 c5 W14 TX.out.ls HF.out).mono ?_
  rintro e z1 ⟨rfl, hb⟩
  have TY1 := hide (TX.out.but (ba_below hb) (TX.out.rd.below hb))
  clear hb TX HF
  go_wp2_with fail
  refine (qend_c _ bp v2 z1 TY1.out.rd).mono ?_
  rintro e z2 ⟨⟨E, rfl, hE⟩, hb⟩
  have hzz := (hb.block w.heap.size TY1.out.np).trans TY1.out.z
  have hxx := (hb.block bx TY1.out.nq).trans TY1.out.x
  have HZ2 : Hid (RBx w.heap.size 33 Rc.zero none 0 z2) := hzz
  have HX2 : Hid (RBx bx 33 X a5 c5 z2) := hxx
  have HB2 := hide (TY1.out.be.trans (hb.ba.below TY1.out.gp TY1.out.be.size))
  have HLS := hide (TY1.out.ls.keep hb.ba.size fun b o q hl => hb.block b (TY1.out.far b o q).2.2.2.1)
  have HTYP : Hid (∀ b o, (a5 : Option Addr) = some ⟨b, o, none⟩ → LocB z2 b) := fun b o q => (TY1.out.far b o q).2.2.2.2.keep (hb.block b (TY1.out.far b o q).2.2.2.1)
  have HFAR := hide TY1.out.far
  clear hb TY1 hzz hxx
  by_cases hw : wR X = s
  · obtain ⟨e1, e2⟩ := HYES.out hw
    have hq := str_eq hw
    have hck := HCK.out hw
    obtain rfl : E = 0 := hE hw (HL0.out hw)
    have HE1 := hide e1
    have HE2 := hide e2
    clear e1 e2 hw HYES HNO hE HL0 HCK
    generalize wR X = S at *
    rw [hck]
    clear hck
    have HLX : Hid (LocsAt (z2.setRow w.heap.size (rcs X a5 c5)) a5 X.ls) := HLS.out.keep (below_setRow (Below.refl w.heap.size z2) (Nat.le_refl _) _).size fun b o q hl => setRow_other _ _ _ _ (HFAR.out b o q).2.1
    go_wp2_with (first | (refine wpList_load_row rfl 33 (.tmp 7) rfl bx rfl 33 (rcs X a5 c5) (0, 0) _ HX2.out Try.underlying33 rfl ref_info ?_) | (refine wpList_store_row rfl 33 (.tmp 2) (.tmp 94) rfl w.heap.size (rcs X a5 c5) rfl rfl 33 (rcs Rc.zero none 0) HZ2.out ref_info rfl (rcs_one _ _ _) ?_))
    refine bodyPost_ret (res_ref_tmp rfl _ _ w.heap.size X a5 c5 rfl (HZ2.out.row _ _ _)) rfl ?_
    unfold RqP
    rw [HE1.out, HE2.out]
    exact ⟨a5, c5, rfl, HLX.out, (fun b o q => ⟨(HFAR.out b o q).1, (HTYP.out b o q).keep (setRow_other _ _ _ _ (HFAR.out b o q).2.1)⟩), below_setRow HB2.out (Nat.le_refl _) _⟩
  · obtain ⟨e1, e2⟩ := HNO.out hw
    have hq := str_ne hw
    have HE1 := hide e1
    have HE2 := hide e2
    clear e1 e2 hw HYES HNO hE HL0 HCK
    generalize wR X = S at *
    generalize ckR X = K at *
    have fin : RqP s w (.returned (.tuple #[.agg (rcs Rc.zero none 0), .int .i64 4])) (z2.setRow w.heap.size (rcs Rc.zero none 0)) := by
      unfold RqP
      rw [HE1.out, HE2.out]
      exact ⟨none, 0, rfl, .inl rfl, (fun b o q => by cases q), below_setRow HB2.out (Nat.le_refl _) _⟩
    have FIN := hide fin
    clear fin
    by_cases hE0 : E = 0
    · have p1 : (E != 0) = false := by simpa using hE0
      have p1' : (E == 0) = true := by simpa using hE0
      clear hE0
      by_cases hK0 : K = 0
      · have p2 : (K != 0) = false := by simpa using hK0
        have p2' : (K == 0) = true := by simpa using hK0
        clear hK0
        go_wp2_with (first | (refine wpList_store_row rfl 33 (.tmp 2) (.tmp 93) rfl w.heap.size (rcs Rc.zero none 0) rfl rfl 33 (rcs Rc.zero none 0) HZ2.out ref_info rfl (rcs_one _ _ _) ?_))
        refine bodyPost_ret (res_ref_tmp rfl _ _ w.heap.size Rc.zero none 0 rfl (HZ2.out.row _ _ _)) rfl ?_
        exact FIN.out
      · have p2 : (K != 0) = true := by simpa using hK0
        have p2' : (K == 0) = false := by simpa using hK0
        go_wp2_with (first | (refine wpList_store_row rfl 33 (.tmp 2) (.tmp 93) rfl w.heap.size (rcs Rc.zero none 0) rfl rfl 33 (rcs Rc.zero none 0) HZ2.out ref_info rfl (rcs_one _ _ _) ?_))
        refine bodyPost_ret (res_ref_tmp rfl _ _ w.heap.size Rc.zero none 0 rfl (HZ2.out.row _ _ _)) rfl ?_
        exact FIN.out
    · have p1 : (E != 0) = true := by simpa using hE0
      have p1' : (E == 0) = false := by simpa using hE0
      go_wp2_with (first | (refine wpList_store_row rfl 33 (.tmp 2) (.tmp 93) rfl w.heap.size (rcs Rc.zero none 0) rfl rfl 33 (rcs Rc.zero none 0) HZ2.out ref_info rfl (rcs_one _ _ _) ?_))
      refine bodyPost_ret (res_ref_tmp rfl _ _ w.heap.size Rc.zero none 0 rfl (HZ2.out.row _ _ _)) rfl ?_
      exact FIN.out
set_option maxRecDepth 100000 in
set_option maxHeartbeats 16000000 in
theorem qreadX (s : ByteArray) (w : World) (hs : s.size ≤ 100000) (h : opE s = 0) (hl : ¬ (opT s).size < 2) (hk : rN (rR (rest2 (opT s))) ≠ 0 ∧ rN (rR (rest2 (opT s))) ≠ 1 ∧ rN (rR (rest2 (opT s))) ≠ 3) : Calls Try.prog 26 #[.string s] w (RqP s w) := by
  have HZ : Hid (RBx w.heap.size 33 Rc.zero none 0 (w.alloc (.cells #[.int .i64 0, .int .i64 0, .int .i64 0, .int .i64 0, .int .i64 0, .slice none 0 0, .string { data := #[] }, .int .i64 0, .int .i64 0, .int .i64 0, .string { data := #[] }, .string { data := #[] }, .int .i64 0, .int .i64 0] 33))) := rbx_new 33 Rc.zero none 0 w
  have HA : Hid (Below w.heap.size w (w.alloc (.cells #[.int .i64 0, .int .i64 0, .int .i64 0, .int .i64 0, .int .i64 0, .slice none 0 0, .string { data := #[] }, .int .i64 0, .int .i64 0, .int .i64 0, .string { data := #[] }, .string { data := #[] }, .int .i64 0, .int .i64 0] 33))) := (Below.refl _ _).alloc (Nat.le_refl _) _
  have HO : Hid (∀ w, Calls Try.prog 37 #[.string s] w fun e w' => e = .returned (.tuple #[.string (opT s), .int .i64 0]) ∧ Below w.heap.size w w') := fun w => by have := refOpen_any s w (by omega); rw [h] at this; exact this
  have q2 : decide (((opT s).size : Int) < 2) = false := by simp; omega
  have hl2 : ¬ ((opT s).size : Int) < 2 := by omega
  have hl3 : (2 : Int) ≤ ((opT s).size : Int) := by omega
  have HU : Hid ((opT s).extract 2 (opT s).size = rest2 (opT s)) := rfl
  obtain ⟨hq1, hq2⟩ := q_same h
  have HYES : Hid (wR (tkQ (rest2 (opT s))) = s → rdE s = 0 ∧ rdC s = tkQ (rest2 (opT s))) := fun q => by
    have p := hq1.1 q
    rw [(hq2 p).1]
    exact rdE_yes h p
  have HNO : Hid (wR (tkQ (rest2 (opT s))) ≠ s → rdE s = 4 ∧ rdC s = Rc.zero) := fun q => rdE_no h fun p => q (hq1.2 p)
  have HCL : Hid (wR (tkQ (rest2 (opT s))) = s → clnR (rest2 (opT s))) := fun q => (hq2 (hq1.1 q)).2
  have HCK : Hid (wR (tkQ (rest2 (opT s))) = s → ckR (tkQ (rest2 (opT s))) = 0) := fun q => (wR_some (opE_zero h).1 q).1
  have hz : (rest2 (opT s)).size ≤ 100000 := by
    have : (opT s).size ≤ 100000 := by rw [(opE_zero h).2.2, headS_size]; omega
    unfold rest2; rw [ByteArray.size_extract]; omega
  have HF := hide (tkQ_fit (rest2 (opT s)) hz)
  have e0 : tkQ (rest2 (opT s)) = tk2 (rest2 (opT s)) := by unfold tkQ; rw [if_neg hk.1, if_neg hk.2.1, if_neg hk.2.2]
  rw [e0] at HYES HNO HCL HCK HF
  have HLF : Hid (leftR (rest2 (opT s)) = leftR (rest2 (opT s))) := rfl
  clear e0 hq1 hq2 h hl
  generalize rest2 (opT s) = U at *
  generalize opT s = T at *
  have HL0 : Hid (wR (tk2 U) = s → ((lcsR 9 (rR (rR (rR (rR (rR U)))))) : ByteArray) = ByteArray.empty) := fun q => by
    have p := (HCL.out q).2.2.2.2.2.2
    unfold leftR at p
    dsimp only at p
    rw [if_neg hk.1, if_neg hk.2.1, if_neg hk.2.2] at p
    exact p
  have l1 := rR_size U
  have l2 := rR_size (rR U)
  have l3 := rR_size (rR (rR U))
  have l4 := rR_size (rR (rR (rR U)))
  have l5 := rR_size (rR (rR (rR (rR U))))
  have l6 := lcsR_size 9 (rR (rR (rR (rR (rR U)))))
  have l7 := tR_size (lcsR 9 (rR (rR (rR (rR (rR U))))))
  have l8 := rR_size (tR (lcsR 9 (rR (rR (rR (rR (rR U)))))))
  have l9 := rR_size (lcsR 9 (rR (rR (rR (rR (rR U))))))
  have x1 : Hid (∀ bp W, RdC (wR (tk2 U) = s) W bp 84 U → Calls Try.prog 38 #[.pointer (some ⟨bp, 0, none⟩)] W fun r w' => r = .returned (.int .i64 (rN U : Nat)) ∧ RdC (wR (tk2 U) = s) w' bp 84 (rR U) ∧ But bp W w') := fun bp W h => qnum_c _ bp _ W h (by omega) fun c => (HCL.out c).1
  have x2 : Hid (∀ bp W, RdC (wR (tk2 U) = s) W bp 84 (rR U) → Calls Try.prog 38 #[.pointer (some ⟨bp, 0, none⟩)] W fun r w' => r = .returned (.int .i64 (rN (rR U) : Nat)) ∧ RdC (wR (tk2 U) = s) w' bp 84 (rR (rR U)) ∧ But bp W w') := fun bp W h => qnum_c _ bp _ W h (by omega) fun c => (HCL.out c).2.1
  have xv : Hid (∀ bp W, RdC (wR (tk2 U) = s) W bp 84 (rR (rR U)) → Calls Try.prog 40 #[.pointer (some ⟨bp, 0, none⟩)] W fun e w' => ∃ a c, e = .returned (.agg (vlc (rN (rR (rR U)) : Nat) (rN (rR (rR (rR U))) : Nat) (rN (rR (rR (rR (rR U)))) : Nat) a 9 c)) ∧ LocsAt w' a (lcsT 9 (rR (rR (rR (rR (rR U)))))) ∧ (∀ b o, a = some ⟨b, o, none⟩ → W.heap.size ≤ b ∧ LocB w' b) ∧ RdC (wR (tk2 U) = s) w' bp 84 (lcsR 9 (rR (rR (rR (rR (rR U)))))) ∧ Ba bp W w') := fun bp W h => rvolume_any _ bp _ W h (by omega) fun c => (HCL.out c).2.2.2.1 (by omega)
  have HTK : Hid (tk2 U = ⟨((rN U : Nat) : Int), ((rN (rR U) : Nat) : Int), ((rN (rR (rR U)) : Nat) : Int), ((rN (rR (rR (rR U))) : Nat) : Int), ((rN (rR (rR (rR (rR U)))) : Nat) : Int), lcsT 9 (rR (rR (rR (rR (rR U))))), ByteArray.empty, 0, 0, 0, ByteArray.empty, ByteArray.empty, 0, 0⟩) := rfl
  clear l1 l2 l3 l4 l5 l6 l7 l8 l9 HCL HLF
  have g0 : (((rN (rR U) : Nat) : Int) == 0) = false := by simp; omega
  have g1 : (((rN (rR U) : Nat) : Int) == 1) = false := by simp; omega
  have g3 : (((rN (rR U) : Nat) : Int) == 3) = false := by simp; omega
  clear hk hs hz
  generalize tk2 U = X at *
  have HLN : Hid ((lcsT 9 (rR (rR (rR (rR (rR U)))))).length = 9) := lcsT_len _ _
  generalize (lcsR 9 (rR (rR (rR (rR (rR U)))))) = v0 at *
  generalize lcsT 9 (rR (rR (rR (rR (rR U))))) = ll at *
  generalize rN (rR (rR (rR (rR U)))) = m3 at *
  generalize rN (rR (rR (rR U))) = m2 at *
  generalize rN (rR (rR U)) = m1 at *
  generalize rR (rR U) = s2 at *
  generalize rN (rR U) = n2 at *
  generalize rR U = s1 at *
  generalize rN U = n1 at *
  go_enter Try.func26, Try.ntmps26
  go_upto_region 1 with fail
  generalize w.alloc (.cells #[.int .i64 0, .int .i64 0, .int .i64 0, .int .i64 0, .int .i64 0, .slice none 0 0, .string { data := #[] }, .int .i64 0, .int .i64 0, .int .i64 0, .string { data := #[] }, .string { data := #[] }, .int .i64 0, .int .i64 0] 33) = W1 at *
  go_wp2_with fail
  refine (HO.out W1).mono ?_
  rintro e w1 ⟨rfl, hb1⟩
  have HB1 := hide (HA.out.trans (hb1.mono HA.out.size))
  have HZ1 := hide (HZ.out.below hb1 HZ.out.lt)
  clear hb1 HA HZ HO
  have hal : Below w1.heap.size w1 ((w1.alloc (.cells #[.string U, .int .i64 0] 84)).alloc (.cells #[.int .i64 0, .int .i64 0, .int .i64 0, .int .i64 0, .int .i64 0, .slice none 0 0, .string { data := #[] }, .int .i64 0, .int .i64 0, .int .i64 0, .string { data := #[] }, .string { data := #[] }, .int .i64 0, .int .i64 0] 33)) := ((Below.refl _ _).alloc (Nat.le_refl _) _).alloc (by rw [World.size_alloc]; omega) _
  have hzl := HZ1.out.lt
  have T8 : Hid (Tq w (wR X = s) w1.heap.size w.heap.size (w1.heap.size + 1) Rc.zero none 0 U ((w1.alloc (.cells #[.string U, .int .i64 0] 84)).alloc (.cells #[.int .i64 0, .int .i64 0, .int .i64 0, .int .i64 0, .int .i64 0, .slice none 0 0, .string { data := #[] }, .int .i64 0, .int .i64 0, .int .i64 0, .string { data := #[] }, .string { data := #[] }, .int .i64 0, .int .i64 0] 33))) := by
    have q1 : ((w1.alloc (.cells #[.string U, .int .i64 0] 84)).alloc (.cells #[.int .i64 0, .int .i64 0, .int .i64 0, .int .i64 0, .int .i64 0, .slice none 0 0, .string { data := #[] }, .int .i64 0, .int .i64 0, .int .i64 0, .string { data := #[] }, .string { data := #[] }, .int .i64 0, .int .i64 0] 33)).heap[w1.heap.size]? = some (.cells #[.string U, .int .i64 0] 84 (0, 0)) := (Below.heap_alloc _ _ _ (by rw [World.size_alloc]; omega)).trans (heap_alloc_new w1 _)
    have q2 := rbx_new 33 Rc.zero none 0 (w1.alloc (.cells #[.string U, .int .i64 0] 84))
    rw [World.size_alloc] at q2
    exact ⟨HZ1.out.below hal HZ1.out.lt, q2, ⟨0, q1, fun q => absurd rfl q, fun _ => rfl⟩, HB1.out.trans (hal.mono HB1.out.size), HB1.out.size, Nat.le_refl _, by have := HB1.out.size; omega, by omega, by omega, by omega, .inl rfl, fun b o q => by cases q⟩
  clear hal HB1 HZ1
  go_upto_region 8 with fail
  rw [HU.out]
  generalize ((w1.alloc (.cells #[.string U, .int .i64 0] 84)).alloc (.cells #[.int .i64 0, .int .i64 0, .int .i64 0, .int .i64 0, .int .i64 0, .slice none 0 0, .string { data := #[] }, .int .i64 0, .int .i64 0, .int .i64 0, .string { data := #[] }, .string { data := #[] }, .int .i64 0, .int .i64 0] 33)) = W8 at *
  generalize hbpx : w1.heap.size = bp at *
  have hbx0 : bp + 1 ≠ bp := by omega
  generalize bp + 1 = bx at *
  clear hl2 hl3 q2 hzl hbpx
  go_wp2_with fail
  refine (x1.out bp W8 T8.out.rd).mono ?_
  rintro e y9 ⟨rfl, hr, hb⟩
  have Ta := hide (T8.out.but hb.ba hr)
  clear hr hb T8
  have kc := Ta.out.x.c0
  have kf := Ta.out.x.free 0
  simp only [Rc.zero] at kc
  have T9 := hide (Ta.out.set _ (Ta.out.x.s0 (n1 : Int)) rfl)
  clear Ta
  go_upto_region 9 with fail
  generalize y9.setCell ⟨bx, 0, none⟩ (.int .i64 (n1 : Int)) = W9 at *
  clear kc kf
  go_wp2_with fail
  refine (x2.out bp W9 T9.out.rd).mono ?_
  rintro e y10 ⟨rfl, hr, hb⟩
  have Ta := hide (T9.out.but hb.ba hr)
  clear hr hb T9
  have kc := Ta.out.x.c1
  have kf := Ta.out.x.free 1
  simp only [Rc.zero] at kc
  have T10 := hide (Ta.out.set _ (Ta.out.x.s1 (n2 : Int)) rfl)
  clear Ta
  go_upto_region 10 with fail
  generalize y10.setCell ⟨bx, 1, none⟩ (.int .i64 (n2 : Int)) = W10 at *
  clear kc kf
  have c1 := T10.out.x.c1
  simp only at c1
  go_wp2_with fail
  refine (xv.out bp W10 T10.out.rd).mono ?_
  rintro e u5 ⟨a5, c5, rfl, hl5, hf5, hr5, hb5⟩
  have T5 := hide (T10.out.but hb5 hr5)
  have T6 := hide (T5.out.vol (m1 : Int) (m2 : Int) (m3 : Int) ll a5 c5 hl5 fun b o q => by
    have h1 := hf5 b o q
    have h2 := T10.out.z.lt
    have h3 := T10.out.x.lt
    have h4 := T10.out.rd.lt
    have h5 := T10.out.be.size
    exact ⟨by omega, by omega, by omega, by omega, h1.2⟩)
  clear hl5 hf5 hr5 hb5 T10 xv c1
  obtain ⟨k0, k1, k2, k3, k4, k5, k6, k7, k8, k9, k10, k11, k12, k13⟩ := T5.out.x.cells
  obtain ⟨f0, f1, f2, f3, f4, f5, f6, f7, f8, f9, f10, f11, f12, f13⟩ := T5.out.x.frees
  simp only [Rc.zero, List.length_nil] at k0 k1 k2 k3 k4 k5 k6 k7 k8 k9 k10 k11 k12 k13
  simp only [vlc]
  rw [HLN.out] at T6
  go_upto_region 13 with fail
  generalize (((u5.setCell ⟨bx, 2, none⟩ (.int .i64 (m1 : Int))).setCell ⟨bx, 3, none⟩ (.int .i64 (m2 : Int))).setCell ⟨bx, 4, none⟩ (.int .i64 (m3 : Int))).setCell ⟨bx, 5, none⟩ (.slice a5 9 c5) = W6 at *
  clear T5 k0 k1 k2 k3 k4 k5 k6 k7 k8 k9 k10 k11 k12 k13 f0 f1 f2 f3 f4 f5 f6 f7 f8 f9 f10 f11 f12 f13
  have c1 := T6.out.x.c1
  simp only at c1
  go_upto_region 22 with fail
  clear c1
  have TX : Hid (Tq w (wR X = s) bp w.heap.size bx X a5 c5 v0 W6) := by
    have q := T6.out
    have e := HTK.out
    unfold Hid
    revert q
    generalize (wR X = s) = CP
    intro q
    rw [e]
    exact q
  clear T6 HTK
  go_wp2_with (first | (refine wpList_load_row rfl 33 (.tmp 7) rfl bx rfl 33 (rcs X a5 c5) (0, 0) _ TX.out.x Try.underlying33 rfl ref_info ?_))
  refine (qwrite_any X a5 c5 W6 TX.out.ls HF.out).mono ?_
  rintro e z1 ⟨rfl, hb⟩
  have TY1 := hide (TX.out.but (ba_below hb) (TX.out.rd.below hb))
  clear hb TX HF
  go_wp2_with fail
  refine (qend_c _ bp v0 z1 TY1.out.rd).mono ?_
  rintro e z2 ⟨⟨E, rfl, hE⟩, hb⟩
  have hzz := (hb.block w.heap.size TY1.out.np).trans TY1.out.z
  have hxx := (hb.block bx TY1.out.nq).trans TY1.out.x
  have HZ2 : Hid (RBx w.heap.size 33 Rc.zero none 0 z2) := hzz
  have HX2 : Hid (RBx bx 33 X a5 c5 z2) := hxx
  have HB2 := hide (TY1.out.be.trans (hb.ba.below TY1.out.gp TY1.out.be.size))
  have HLS := hide (TY1.out.ls.keep hb.ba.size fun b o q hl => hb.block b (TY1.out.far b o q).2.2.2.1)
  have HTYP : Hid (∀ b o, (a5 : Option Addr) = some ⟨b, o, none⟩ → LocB z2 b) := fun b o q => (TY1.out.far b o q).2.2.2.2.keep (hb.block b (TY1.out.far b o q).2.2.2.1)
  have HFAR := hide TY1.out.far
  clear hb TY1 hzz hxx
  by_cases hw : wR X = s
  · obtain ⟨e1, e2⟩ := HYES.out hw
    have hq := str_eq hw
    have hck := HCK.out hw
    obtain rfl : E = 0 := hE hw (HL0.out hw)
    have HE1 := hide e1
    have HE2 := hide e2
    clear e1 e2 hw HYES HNO hE HL0 HCK
    generalize wR X = S at *
    rw [hck]
    clear hck
    have HLX : Hid (LocsAt (z2.setRow w.heap.size (rcs X a5 c5)) a5 X.ls) := HLS.out.keep (below_setRow (Below.refl w.heap.size z2) (Nat.le_refl _) _).size fun b o q hl => setRow_other _ _ _ _ (HFAR.out b o q).2.1
    go_wp2_with (first | (refine wpList_load_row rfl 33 (.tmp 7) rfl bx rfl 33 (rcs X a5 c5) (0, 0) _ HX2.out Try.underlying33 rfl ref_info ?_) | (refine wpList_store_row rfl 33 (.tmp 2) (.tmp 94) rfl w.heap.size (rcs X a5 c5) rfl rfl 33 (rcs Rc.zero none 0) HZ2.out ref_info rfl (rcs_one _ _ _) ?_))
    refine bodyPost_ret (res_ref_tmp rfl _ _ w.heap.size X a5 c5 rfl (HZ2.out.row _ _ _)) rfl ?_
    unfold RqP
    rw [HE1.out, HE2.out]
    exact ⟨a5, c5, rfl, HLX.out, (fun b o q => ⟨(HFAR.out b o q).1, (HTYP.out b o q).keep (setRow_other _ _ _ _ (HFAR.out b o q).2.1)⟩), below_setRow HB2.out (Nat.le_refl _) _⟩
  · obtain ⟨e1, e2⟩ := HNO.out hw
    have hq := str_ne hw
    have HE1 := hide e1
    have HE2 := hide e2
    clear e1 e2 hw HYES HNO hE HL0 HCK
    generalize wR X = S at *
    generalize ckR X = K at *
    have fin : RqP s w (.returned (.tuple #[.agg (rcs Rc.zero none 0), .int .i64 4])) (z2.setRow w.heap.size (rcs Rc.zero none 0)) := by
      unfold RqP
      rw [HE1.out, HE2.out]
      exact ⟨none, 0, rfl, .inl rfl, (fun b o q => by cases q), below_setRow HB2.out (Nat.le_refl _) _⟩
    have FIN := hide fin
    clear fin
    by_cases hE0 : E = 0
    · have p1 : (E != 0) = false := by simpa using hE0
      have p1' : (E == 0) = true := by simpa using hE0
      clear hE0
      by_cases hK0 : K = 0
      · have p2 : (K != 0) = false := by simpa using hK0
        have p2' : (K == 0) = true := by simpa using hK0
        clear hK0
        go_wp2_with (first | (refine wpList_store_row rfl 33 (.tmp 2) (.tmp 93) rfl w.heap.size (rcs Rc.zero none 0) rfl rfl 33 (rcs Rc.zero none 0) HZ2.out ref_info rfl (rcs_one _ _ _) ?_))
        refine bodyPost_ret (res_ref_tmp rfl _ _ w.heap.size Rc.zero none 0 rfl (HZ2.out.row _ _ _)) rfl ?_
        exact FIN.out
      · have p2 : (K != 0) = true := by simpa using hK0
        have p2' : (K == 0) = false := by simpa using hK0
        go_wp2_with (first | (refine wpList_store_row rfl 33 (.tmp 2) (.tmp 93) rfl w.heap.size (rcs Rc.zero none 0) rfl rfl 33 (rcs Rc.zero none 0) HZ2.out ref_info rfl (rcs_one _ _ _) ?_))
        refine bodyPost_ret (res_ref_tmp rfl _ _ w.heap.size Rc.zero none 0 rfl (HZ2.out.row _ _ _)) rfl ?_
        exact FIN.out
    · have p1 : (E != 0) = true := by simpa using hE0
      have p1' : (E == 0) = false := by simpa using hE0
      go_wp2_with (first | (refine wpList_store_row rfl 33 (.tmp 2) (.tmp 93) rfl w.heap.size (rcs Rc.zero none 0) rfl rfl 33 (rcs Rc.zero none 0) HZ2.out ref_info rfl (rcs_one _ _ _) ?_))
      refine bodyPost_ret (res_ref_tmp rfl _ _ w.heap.size Rc.zero none 0 rfl (HZ2.out.row _ _ _)) rfl ?_
      exact FIN.out
theorem qread_any (s : ByteArray) (w : World) (hs : s.size ≤ 100000) : Calls Try.prog 26 #[.string s] w (RqP s w) := by
  by_cases h : opE s = 0
  · by_cases hl : (opT s).size < 2
    · exact qread_short s w hs h hl
    · by_cases k0 : rN (rR (rest2 (opT s))) = 0
      · exact qread0 s w hs h hl k0
      · by_cases k1 : rN (rR (rest2 (opT s))) = 1
        · exact qread1 s w hs h hl k1
        · by_cases k3 : rN (rR (rest2 (opT s))) = 3
          · exact qread3 s w hs h hl k3
          · exact qreadX s w hs h hl ⟨k0, k1, k3⟩
  · exact qread_err s w hs h
end Go.Proofs.Ytaiafbihcfbglaa
