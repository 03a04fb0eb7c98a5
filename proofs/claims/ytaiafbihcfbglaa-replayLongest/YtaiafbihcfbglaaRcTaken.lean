/- What record.taken answers. -/
import Derived.Test.YtaiafbihcfbglaaRcTkVol
namespace Go.Proofs.Ytaiafbihcfbglaa
open Go.RowKit
set_option linter.unusedVariables false
theorem LocsAt.keep {w w' : World} {a : Option Addr} {l : List (Int × Int)} (h : LocsAt w a l) (hs : w.heap.size ≤ w'.heap.size) (hb : ∀ b o, a = some ⟨b, o, none⟩ → b < w.heap.size → w'.heap[b]? = w.heap[b]?) : LocsAt w' a l := by
  rcases h with h | ⟨b1, o, ha, hlt, hc⟩
  · exact .inl h
  · have hbl := hb b1 o ha hlt
    exact .inr ⟨b1, o, ha, Nat.lt_of_lt_of_le hlt hs, fun i x hx => ⟨(World.cell?_of_block (a := ⟨b1, o + i * 2, none⟩) hbl).trans (hc i x hx).1, (World.cell?_of_block (a := ⟨b1, o + i * 2 + 1, none⟩) hbl).trans (hc i x hx).2⟩⟩
theorem rrest_c (C : Prop) (b : Nat) (s : ByteArray) (w : World) (h : RdC C w b 131 s) : Calls Try.prog 84 #[.pointer (some ⟨b, 0, none⟩)] w fun r w' => r = .returned (.string s) ∧ RdC C w' b 131 ByteArray.empty ∧ But b w w' := by
  obtain ⟨e, h, he, hc⟩ := h
  by_cases h0 : e = 0
  · subst h0
    exact (rrest_ok b s w h).mono fun r w' k => ⟨k.1, ⟨_, k.2.1, fun _ => rfl, fun _ => rfl⟩, k.2.2⟩
  · obtain rfl := he h0
    refine (rrest_err b _ e w h h0).mono fun r w' k => ⟨k.1, ?_, k.2 ▸ But.refl _ _⟩
    rw [← k.2]
    exact ⟨e, h, fun _ => rfl, hc⟩
/-- what taken has in memory: the result's box, the record's, the reader -/
structure Tk (w0 : World) (bp bz bx : Nat) (r : Rc) (a : Option Addr) (c : Nat) (s : ByteArray) (w : World) : Prop where
  z : RBx bz 55 Rc.zero none 0 w
  x : RBx bx 55 r a c w
  rd : RdC False w bp 131 s
  ba : Ba bp w0 w
  gz : w0.heap.size ≤ bz
  gx : w0.heap.size ≤ bx
  ne : bz ≠ bx
  lt : bp < w0.heap.size
  ls : LocsAt w a r.ls
  far : ∀ b o, a = some ⟨b, o, none⟩ → w0.heap.size ≤ b ∧ b ≠ bz ∧ b ≠ bx ∧ LocB w b
theorem Tk.but {w0 w w' : World} {bp bz bx : Nat} {r : Rc} {a : Option Addr} {c : Nat} {s s' : ByteArray} (h : Tk w0 bp bz bx r a c s w) (hb : Ba bp w w') (hr : RdC False w' bp 131 s') : Tk w0 bp bz bx r a c s' w' := by
  have g1 := h.gz
  have g2 := h.gx
  have g3 := h.lt
  exact ⟨h.z.ba hb (by omega), h.x.ba hb (by omega), hr, h.ba.trans hb, h.gz, h.gx, h.ne, h.lt, h.ls.keep hb.size fun b o e hl => hb.block b hl (by have := (h.far b o e).1; omega), fun b o e => ⟨(h.far b o e).1, (h.far b o e).2.1, (h.far b o e).2.2.1, (h.far b o e).2.2.2.keep (hb.block b (h.far b o e).2.2.2.lt (by have := (h.far b o e).1; omega))⟩⟩
theorem Tk.set {w0 w : World} {bp bz bx o : Nat} {r r' : Rc} {a : Option Addr} {c : Nat} {s : ByteArray} (h : Tk w0 bp bz bx r a c s w) (u : Value) (hx : RBx bx 55 r' a c (w.setCell ⟨bx, o, none⟩ u)) (hl : r'.ls = r.ls) : Tk w0 bp bz bx r' a c s (w.setCell ⟨bx, o, none⟩ u) := by
  have g1 := h.gz
  have g2 := h.gx
  have g3 := h.lt
  refine ⟨h.z.away h.ne _, hx, h.rd.away (by omega) _, h.ba.set h.gx _, h.gz, h.gx, h.ne, h.lt, ?_, fun b o' e => ⟨(h.far b o' e).1, (h.far b o' e).2.1, (h.far b o' e).2.2.1, (h.far b o' e).2.2.2.keep (Below.heap_setCell _ _ _ _ (h.far b o' e).2.2.1)⟩⟩
  rw [hl]
  exact h.ls.keep (by simp [World.setCell]) fun b o' e hl => Below.heap_setCell _ _ _ _ (h.far b o' e).2.2.1
theorem Tk.other {w0 w w' : World} {bp bz bx : Nat} {r : Rc} {a : Option Addr} {c : Nat} {s : ByteArray} (h : Tk w0 bp bz bx r a c s w) (hb : Below w.heap.size w w') : Tk w0 bp bz bx r a c s w' := h.but (ba_below hb) (h.rd.below hb)
/-- .. and the volume's four cells -/
theorem Tk.vol {w0 w : World} {bp bz bx : Nat} {r : Rc} {s : ByteArray} (h : Tk w0 bp bz bx r none 0 s w) (hr : r.ls = []) (i g n : Int) (l : List (Int × Int)) (a : Option Addr) (c : Nat) (hl : LocsAt w a l) (hf : ∀ b o, a = some ⟨b, o, none⟩ → w0.heap.size ≤ b ∧ b ≠ bz ∧ b ≠ bx ∧ LocB w b) :
    Tk w0 bp bz bx { r with vid := i, vgen := g, vlen := n, ls := l } a c s ((((w.setCell ⟨bx, 2, none⟩ (.int .i64 i)).setCell ⟨bx, 3, none⟩ (.int .i64 g)).setCell ⟨bx, 4, none⟩ (.int .i64 n)).setCell ⟨bx, 5, none⟩ (.slice a l.length c)) := by
  have g1 := h.gz
  have g2 := h.gx
  have g3 := h.lt
  have e : ∀ b, b ≠ bx → ((((w.setCell ⟨bx, 2, none⟩ (.int .i64 i)).setCell ⟨bx, 3, none⟩ (.int .i64 g)).setCell ⟨bx, 4, none⟩ (.int .i64 n)).setCell ⟨bx, 5, none⟩ (.slice a l.length c)).heap[b]? = w.heap[b]? := fun b hb => by
    repeat rw [Below.heap_setCell _ _ _ _ (show b ≠ bx from hb)]
  refine ⟨(e bz h.ne).trans h.z, (((h.x.s2 i).s3 g).s4 n).s5 a l c, h.rd.keep (e bp (by omega)), (((h.ba.set h.gx _).set h.gx _).set h.gx _).set h.gx _, h.gz, h.gx, h.ne, h.lt, ?_, fun b o q => ⟨(hf b o q).1, (hf b o q).2.1, (hf b o q).2.2.1, (hf b o q).2.2.2.keep (e b (hf b o q).2.2.1)⟩⟩
  exact hl.keep (by simp [World.setCell]) fun b o q _ => e b (hf b o q).2.2.1
theorem Tk.done {w0 w : World} {bp bz bx : Nat} {r : Rc} {a : Option Addr} {c : Nat} {s : ByteArray} (h : Tk w0 bp bz bx r a c s w) : RBx bz 55 r a c (w.setRow bz (rcs r a c)) ∧ LocsAt (w.setRow bz (rcs r a c)) a r.ls ∧ (∀ b o, a = some ⟨b, o, none⟩ → w0.heap.size ≤ b ∧ LocB (w.setRow bz (rcs r a c)) b) ∧ Ba bp w0 (w.setRow bz (rcs r a c)) := by
  have hb := below_setRow (Below.refl bz w) (Nat.le_refl _) (rcs r a c)
  exact ⟨h.z.row r a c, h.ls.keep hb.size fun b o e _ => setRow_other _ _ _ _ (h.far b o e).2.1, fun b o e => ⟨(h.far b o e).1, (h.far b o e).2.2.2.keep (setRow_other _ _ _ _ (h.far b o e).2.1)⟩, h.ba.row h.gz _⟩
set_option maxRecDepth 100000 in
set_option maxHeartbeats 16000000 in
theorem taken0 (bp : Nat) (s : ByteArray) (w : World) (hR : RdC False w bp 131 s) (hs : s.size ≤ 1000000000000000) (hk : rN (rR s) = 0) : Calls Try.prog 64 #[.pointer (some ⟨bp, 0, none⟩)] w fun e w' => ∃ a c, e = .returned (.agg (rcs (tk0 s) a c)) ∧ LocsAt w' a (tk0 s).ls ∧ (∀ b o, a = some ⟨b, o, none⟩ → w.heap.size ≤ b ∧ LocB w' b) ∧ Ba bp w w' := by
  have hbp := hR.lt
  have l1 := rR_size s
  have l2 := rR_size (rR s)
  have x1 : Hid (∀ W, RdC False W bp 131 s → Calls Try.prog 81 #[.pointer (some ⟨bp, 0, none⟩)] W fun r w' => r = .returned (.int .i64 (rN s : Nat)) ∧ RdC False w' bp 131 (rR s) ∧ But bp W w') := fun W h => rnum_c False bp _ W h (by omega) fun c => c.elim
  have x2 : Hid (∀ W, RdC False W bp 131 (rR s) → Calls Try.prog 81 #[.pointer (some ⟨bp, 0, none⟩)] W fun r w' => r = .returned (.int .i64 (rN (rR s) : Nat)) ∧ RdC False w' bp 131 (rR (rR s)) ∧ But bp W w') := fun W h => rnum_c False bp _ W h (by omega) fun c => c.elim
  have xv : Hid (∀ W, RdC False W bp 131 (rR (rR s)) → Calls Try.prog 82 #[.pointer (some ⟨bp, 0, none⟩)] W fun e w' => ∃ a c, e = .returned (.agg (vlc (rN (rR (rR s)) : Nat) (rN (rR (rR (rR s))) : Nat) (rN (rR (rR (rR (rR s)))) : Nat) a 9 c)) ∧ LocsAt w' a (lcsT 9 (rR (rR (rR (rR (rR s)))))) ∧ (∀ b o, a = some ⟨b, o, none⟩ → W.heap.size ≤ b ∧ LocB w' b) ∧ RdC False w' bp 131 (lcsR 9 (rR (rR (rR (rR (rR s)))))) ∧ Ba bp W w') := fun W h => takenVol_any False bp _ W h (by omega) fun c => c.elim
  have l3 := rR_size (rR (rR s))
  have l4 := rR_size (rR (rR (rR s)))
  have l5 := rR_size (rR (rR (rR (rR s))))
  have l6 := lcsR_size 9 (rR (rR (rR (rR (rR s)))))
  have l7 := tR_size (lcsR 9 (rR (rR (rR (rR (rR s))))))
  have l8 := rR_size (tR (lcsR 9 (rR (rR (rR (rR (rR s)))))))
  have x3 : Hid (∀ W, RdC False W bp 131 (lcsR 9 (rR (rR (rR (rR (rR s)))))) → Calls Try.prog 83 #[.pointer (some ⟨bp, 0, none⟩)] W fun r w' => r = .returned (.string (tT (lcsR 9 (rR (rR (rR (rR (rR s)))))))) ∧ RdC False w' bp 131 (tR (lcsR 9 (rR (rR (rR (rR (rR s))))))) ∧ But bp W w') := fun W h => rtext_c False bp _ W h (by omega) fun c => c.elim
  have x4 : Hid (∀ W, RdC False W bp 131 (tR (lcsR 9 (rR (rR (rR (rR (rR s))))))) → Calls Try.prog 81 #[.pointer (some ⟨bp, 0, none⟩)] W fun r w' => r = .returned (.int .i64 (rN (tR (lcsR 9 (rR (rR (rR (rR (rR s))))))) : Nat)) ∧ RdC False w' bp 131 (rR (tR (lcsR 9 (rR (rR (rR (rR (rR s)))))))) ∧ But bp W w') := fun W h => rnum_c False bp _ W h (by omega) fun c => c.elim
  have x5 : Hid (∀ W, RdC False W bp 131 (rR (tR (lcsR 9 (rR (rR (rR (rR (rR s)))))))) → Calls Try.prog 81 #[.pointer (some ⟨bp, 0, none⟩)] W fun r w' => r = .returned (.int .i64 (rN (rR (tR (lcsR 9 (rR (rR (rR (rR (rR s)))))))) : Nat)) ∧ RdC False w' bp 131 (rR (rR (tR (lcsR 9 (rR (rR (rR (rR (rR s))))))))) ∧ But bp W w') := fun W h => rnum_c False bp _ W h (by omega) fun c => c.elim
  have x6 : Hid (∀ W, RdC False W bp 131 (rR (rR (tR (lcsR 9 (rR (rR (rR (rR (rR s))))))))) → Calls Try.prog 84 #[.pointer (some ⟨bp, 0, none⟩)] W fun r w' => r = .returned (.string (rR (rR (tR (lcsR 9 (rR (rR (rR (rR (rR s)))))))))) ∧ RdC False w' bp 131 ByteArray.empty ∧ But bp W w') := fun W h => rrest_c False bp _ W h
  unfold tk0
  dsimp only
  clear l1 l2
  rw [hk]
  rw [hk] at x2
  clear l3 l4 l5 l6 l7 l8
  generalize rR (rR (tR (lcsR 9 (rR (rR (rR (rR (rR s)))))))) = dg at *
  generalize rN (rR (tR (lcsR 9 (rR (rR (rR (rR (rR s)))))))) = nl at *
  generalize rR (tR (lcsR 9 (rR (rR (rR (rR (rR s))))))) = v2 at *
  generalize rN (tR (lcsR 9 (rR (rR (rR (rR (rR s))))))) = no at *
  generalize tR (lcsR 9 (rR (rR (rR (rR (rR s)))))) = v1 at *
  generalize tT (lcsR 9 (rR (rR (rR (rR (rR s)))))) = ky at *
  have HLN : Hid ((lcsT 9 (rR (rR (rR (rR (rR s)))))).length = 9) := lcsT_len _ _
  generalize lcsR 9 (rR (rR (rR (rR (rR s))))) = v0 at *
  generalize lcsT 9 (rR (rR (rR (rR (rR s))))) = ll at *
  generalize rN (rR (rR (rR (rR s)))) = m3 at *
  generalize rN (rR (rR (rR s))) = m2 at *
  generalize rN (rR (rR s)) = m1 at *
  generalize rR (rR s) = s2 at *
  generalize rR s = s1 at *
  generalize rN s = n1 at *
  have HP : Hid (∀ w, Calls Try.prog 49 #[.int .i64 0] w fun r w' => r = .returned (.agg #[.bool true, .bool true, .bool false, .bool false]) ∧ Below w.heap.size w w') := fun w => by
    have q := partsOf_any 0 w
    have e : prt 0 = #[.bool true, .bool true, .bool false, .bool false] := by simp [prt]
    rw [e] at q
    exact q
  have HZ1 : Hid (RBx w.heap.size 55 Rc.zero none 0 (w.alloc (.cells #[.int .i64 0, .int .i64 0, .int .i64 0, .int .i64 0, .int .i64 0, .slice none 0 0, .string { data := #[] }, .int .i64 0, .int .i64 0, .int .i64 0, .string { data := #[] }, .string { data := #[] }, .int .i64 0, .int .i64 0] 55))) := rbx_new 55 Rc.zero none 0 w
  have HR1 := hide (hR.below ((Below.refl _ _).alloc (Nat.le_refl _) (.cells #[.int .i64 0, .int .i64 0, .int .i64 0, .int .i64 0, .int .i64 0, .slice none 0 0, .string { data := #[] }, .int .i64 0, .int .i64 0, .int .i64 0, .string { data := #[] }, .string { data := #[] }, .int .i64 0, .int .i64 0] 55)))
  have HA1 := hide ((Ba.refl bp w).alloc (.cells #[.int .i64 0, .int .i64 0, .int .i64 0, .int .i64 0, .int .i64 0, .slice none 0 0, .string { data := #[] }, .int .i64 0, .int .i64 0, .int .i64 0, .string { data := #[] }, .string { data := #[] }, .int .i64 0, .int .i64 0] 55))
  have HS1 : Hid ((w.alloc (.cells #[.int .i64 0, .int .i64 0, .int .i64 0, .int .i64 0, .int .i64 0, .slice none 0 0, .string { data := #[] }, .int .i64 0, .int .i64 0, .int .i64 0, .string { data := #[] }, .string { data := #[] }, .int .i64 0, .int .i64 0] 55)).heap.size = w.heap.size + 1) := World.size_alloc _ _
  have hzp : w.heap.size ≠ bp := by omega
  clear hR hs hk
  go_enter Try.func64, Try.ntmps64
  go_upto_region 1 with fail
  generalize w.alloc (.cells #[.int .i64 0, .int .i64 0, .int .i64 0, .int .i64 0, .int .i64 0, .slice none 0 0, .string { data := #[] }, .int .i64 0, .int .i64 0, .int .i64 0, .string { data := #[] }, .string { data := #[] }, .int .i64 0, .int .i64 0] 55) = W1 at *
  go_wp2_with fail
  refine (x1.out W1 HR1.out).mono ?_
  rintro e u1 ⟨rfl, hr1, hb1⟩
  have R1 := hide hr1
  have B1 := hide hb1
  clear hr1 hb1
  go_wp2_with fail
  refine (x2.out u1 R1.out).mono ?_
  rintro e u2 ⟨rfl, hr1, hb1⟩
  have R2 := hide hr1
  have B2 := hide (B1.out.trans hb1)
  clear hr1 hb1 R1 B1
  have hsz : u2.heap.size = w.heap.size + 1 := by rw [B2.out.size, HS1.out]
  have Z2 := hide (HZ1.out.but B2.out hzp)
  have A2 := hide (HA1.out.trans B2.out.ba)
  have hal : Below u2.heap.size u2 (u2.alloc (.cells #[.int .i64 0, .int .i64 0, .int .i64 0, .int .i64 0, .int .i64 0, .slice none 0 0, .string { data := #[] }, .int .i64 0, .int .i64 0, .int .i64 0, .string { data := #[] }, .string { data := #[] }, .int .i64 0, .int .i64 0] 55)) := (Below.refl _ _).alloc (Nat.le_refl _) _
  have N3 : Hid (RBx u2.heap.size 55 Rc.zero none 0 (u2.alloc (.cells #[.int .i64 0, .int .i64 0, .int .i64 0, .int .i64 0, .int .i64 0, .slice none 0 0, .string { data := #[] }, .int .i64 0, .int .i64 0, .int .i64 0, .string { data := #[] }, .string { data := #[] }, .int .i64 0, .int .i64 0] 55))) := rbx_new 55 Rc.zero none 0 u2
  have hrow := below_setRow hal (Nat.le_refl _) (rcs ⟨(n1 : Int), 0, 0, 0, 0, [], ByteArray.empty, 0, 0, 0, ByteArray.empty, ByteArray.empty, 0, 0⟩ none 0)
  have T3 : Hid (Tk w bp w.heap.size u2.heap.size ⟨(n1 : Int), 0, 0, 0, 0, [], ByteArray.empty, 0, 0, 0, ByteArray.empty, ByteArray.empty, 0, 0⟩ none 0 s2 ((u2.alloc (.cells #[.int .i64 0, .int .i64 0, .int .i64 0, .int .i64 0, .int .i64 0, .slice none 0 0, .string { data := #[] }, .int .i64 0, .int .i64 0, .int .i64 0, .string { data := #[] }, .string { data := #[] }, .int .i64 0, .int .i64 0] 55)).setRow u2.heap.size (rcs ⟨(n1 : Int), 0, 0, 0, 0, [], ByteArray.empty, 0, 0, 0, ByteArray.empty, ByteArray.empty, 0, 0⟩ none 0))) :=
    ⟨(hrow.block _ Z2.out.lt).trans Z2.out, N3.out.row _ _ _, R2.out.below hrow, A2.out.trans (ba_below hrow), Nat.le_refl _, by omega, by omega, hbp, .inl rfl, fun b o q => by cases q⟩
  clear HZ1 HR1 HA1 HS1 R2 B2 Z2 A2 hal hrow x1 x2 hsz
  go_wp2_with (first | (refine wpList_store_row rfl 55 (.tmp 3) (.tmp 9) rfl u2.heap.size (rcs ⟨(n1 : Int), 0, 0, 0, 0, [], ByteArray.empty, 0, 0, 0, ByteArray.empty, ByteArray.empty, 0, 0⟩ none 0) rfl rfl 55 (rcs Rc.zero none 0) N3.out rec_info rfl (rcs_one _ _ _) ?_; generalize (u2.alloc (.cells #[.int .i64 0, .int .i64 0, .int .i64 0, .int .i64 0, .int .i64 0, .slice none 0 0, .string { data := #[] }, .int .i64 0, .int .i64 0, .int .i64 0, .string { data := #[] }, .string { data := #[] }, .int .i64 0, .int .i64 0] 55)).setRow u2.heap.size (rcs ⟨(n1 : Int), 0, 0, 0, 0, [], ByteArray.empty, 0, 0, 0, ByteArray.empty, ByteArray.empty, 0, 0⟩ none 0) = W3 at *; generalize u2.heap.size = bx at *; have c1 := T3.out.x.c1; simp only at c1))
  refine (HP.out W3).mono ?_
  rintro e u4 ⟨rfl, hb4⟩
  have T4 := hide ((T3.out.other hb4).other ((Below.refl _ _).alloc (Nat.le_refl _) (.cells #[.bool true, .bool true, .bool false, .bool false] 94)))
  have H4 : Hid (HBx u4.heap.size true true false false (u4.alloc (.cells #[.bool true, .bool true, .bool false, .bool false] 94))) := heap_alloc_new _ _
  have hx0 : w.heap.size < u4.heap.size ∧ bx < u4.heap.size := ⟨Nat.lt_of_lt_of_le T3.out.z.lt hb4.size, Nat.lt_of_lt_of_le T3.out.x.lt hb4.size⟩
  clear hb4 T3 HP N3 c1
  go_upto_region 3 with fail
  generalize u4.alloc (.cells #[.bool true, .bool true, .bool false, .bool false] 94) = W4 at *
  generalize u4.heap.size = hx at *
  have hhp : hx ≠ bp := by have := T4.out.lt; omega
  obtain ⟨d0, d1, d2, d3⟩ := H4.out.cells
  go_wp2_with fail
  refine (xv.out W4 T4.out.rd).mono ?_
  rintro e u5 ⟨a5, c5, rfl, hl5, hf5, hr5, hb5⟩
  have T5 := hide (T4.out.but hb5 hr5)
  have H5 : Hid (HBx hx true true false false u5) := (hb5.block hx (lt_of_block H4.out) hhp).trans H4.out
  have T6 := hide (T5.out.vol rfl (m1 : Int) (m2 : Int) (m3 : Int) ll a5 c5 hl5 fun b o q => by
    have h1 := hf5 b o q
    have h2 := T4.out.z.lt
    have h3 := T4.out.x.lt
    have h4 := T4.out.ba.size
    exact ⟨by omega, by omega, by omega, h1.2⟩)
  have HFR : Hid (∀ b o, a5 = some ⟨b, o, none⟩ → hx ≠ b) := fun b o q => by have h1 := hf5 b o q; have h2 := lt_of_block H4.out; omega
  clear hl5 hf5 hr5 hb5 T4 H4 xv d0 d1 d2 d3
  have hxx : hx ≠ bx := by omega
  have H6 : Hid (HBx hx true true false false ((((u5.setCell ⟨bx, 2, none⟩ (.int .i64 (m1 : Int))).setCell ⟨bx, 3, none⟩ (.int .i64 (m2 : Int))).setCell ⟨bx, 4, none⟩ (.int .i64 (m3 : Int))).setCell ⟨bx, 5, none⟩ (.slice a5 ll.length c5))) := by
    unfold Hid HBx
    repeat rw [Below.heap_setCell _ _ _ _ (show hx ≠ bx from hxx)]
    exact H5.out
  obtain ⟨k0, k1, k2, k3, k4, k5, k6, k7, k8, k9, k10, k11, k12, k13⟩ := T5.out.x.cells
  obtain ⟨f0, f1, f2, f3, f4, f5, f6, f7, f8, f9, f10, f11, f12, f13⟩ := T5.out.x.frees
  simp only [List.length_nil] at k0 k1 k2 k3 k4 k5 k6 k7 k8 k9 k10 k11 k12 k13
  simp only [vlc]
  rw [HLN.out] at T6 H6
  go_upto_region 5 with fail
  generalize (((u5.setCell ⟨bx, 2, none⟩ (.int .i64 (m1 : Int))).setCell ⟨bx, 3, none⟩ (.int .i64 (m2 : Int))).setCell ⟨bx, 4, none⟩ (.int .i64 (m3 : Int))).setCell ⟨bx, 5, none⟩ (.slice a5 9 c5) = W6 at *
  clear T5 H5 k0 k1 k2 k3 k4 k5 k6 k7 k8 k9 k10 k11 k12 k13 f0 f1 f2 f3 f4 f5 f6 f7 f8 f9 f10 f11 f12 f13
  obtain ⟨d0, d1, d2, d3⟩ := H6.out.cells
  go_wp2_with fail
  have cS := T6.out.x.c2
  simp only at cS
  refine wp_region_noPanic ?_
  refine wp_region_held_drew (S := (fun w => w.cell? ⟨bx, 2, none⟩ = some (.int .i64 (m1 : Int)))) (by kernel_rfl) cS (fun hHeld => ?_)
  have T7 : Hid (Tk w bp w.heap.size bx _ a5 c5 v0 W6.drew) := T6.out.other (drew_below W6)
  have H7 : Hid (HBx hx true true false false W6.drew) := H6.out
  generalize W6.drew = wd at *
  clear T6 H6 cS d0 d1 d2 d3
  refine wpAnyH_take (i := 0) (v := ?v1) rfl (by kernel_rfl) (by kernel_rfl) (by kernel_rfl) (fun _ _ _ h => h) (Or.inl ⟨by rfl, ?hy1⟩) hHeld ?rest1
  case hy1 => (intro w' hSw; go_simp; try with_reducible rfl)
  try simp [Act.put]
  refine wpAnyH_take (i := 2) (v := ?v2) rfl (by kernel_rfl) (by kernel_rfl) (by kernel_rfl) (fun _ _ _ h => h) (Or.inl ⟨by rfl, ?hy2⟩) hHeld ?rest2
  case hy2 => (intro w' hSw; go_simp; try with_reducible rfl)
  try simp [Act.put]
  refine wpAnyH_take (i := 3) (v := ?v3) rfl (by kernel_rfl) (by kernel_rfl) (by kernel_rfl) (fun _ _ _ h => h) (Or.inl ⟨by rfl, ?hy3⟩) hHeld ?rest3
  case hy3 => (intro w' hSw; go_simp; try with_reducible rfl)
  try simp [Act.put]
  refine wpAnyH_take (i := 4) (v := ?v4) rfl (by kernel_rfl) (by kernel_rfl) (by kernel_rfl) (fun _ _ _ h => h) (Or.inl ⟨by rfl, ?hy4⟩) hHeld ?rest4
  case hy4 => (intro w' hSw; have s0 := hSw; go_simp; try with_reducible rfl)
  try simp [Act.put]
  refine wpAnyH_take (i := 5) (v := ?v5) rfl (by kernel_rfl) (by kernel_rfl) (by kernel_rfl) (fun _ _ _ h => h) (Or.inl ⟨by rfl, ?hy5⟩) hHeld ?rest5
  case hy5 => (intro w' hSw; go_simp; try with_reducible rfl)
  try simp [Act.put]
  refine wpAnyH_take (i := 7) (v := ?v6) rfl (by kernel_rfl) (by kernel_rfl) (by kernel_rfl) (fun _ _ _ h => h) (Or.inl ⟨by rfl, ?hy6⟩) hHeld ?rest6
  case hy6 => (intro w' hSw; go_simp; try with_reducible rfl)
  try simp [Act.put]
  refine wpAnyH_take (i := 9) (v := ?v7) rfl (by kernel_rfl) (by kernel_rfl) (by kernel_rfl) (fun _ _ _ h => h) (Or.inl ⟨by rfl, ?hy7⟩) hHeld ?rest7
  case hy7 => (intro w' hSw; go_simp; try with_reducible rfl)
  try simp [Act.put]
  refine wpAnyH_ready (rs := [1]) (by kernel_rfl) (by simp) ?_
  refine AllReadyH.cons rfl (fun K hK => ?_) AllReadyH.nil
  go_simp
  refine (x3.out wd T7.out.rd).mono ?_
  rintro e y8 ⟨rfl, hr, hb⟩
  have T8 := hide (T7.out.but hb.ba hr)
  have H8 : Hid (HBx hx true true false false y8) := (hb.block hx hhp).trans H7.out
  have cS8 : y8.cell? ⟨bx, 2, none⟩ = some (.int .i64 (m1 : Int)) := T8.out.x.c2
  refine hK.out _ _ cS8 (fun hHeld => ?_)
  clear hK K hr hb T7 H7 cS8
  try simp [Act.put]
  refine wpAnyH_ready (rs := [6]) (by kernel_rfl) (by simp) ?_
  refine AllReadyH.cons rfl (fun K hK => ?_) AllReadyH.nil
  go_simp
  refine (x4.out y8 T8.out.rd).mono ?_
  rintro e y9 ⟨rfl, hr, hb⟩
  have T9 := hide (T8.out.but hb.ba hr)
  have H9 : Hid (HBx hx true true false false y9) := (hb.block hx hhp).trans H8.out
  have cS9 : y9.cell? ⟨bx, 2, none⟩ = some (.int .i64 (m1 : Int)) := T9.out.x.c2
  refine hK.out _ _ cS9 (fun hHeld => ?_)
  clear hK K hr hb T8 H8 cS9
  try simp [Act.put]
  refine wpAnyH_ready (rs := [8]) (by kernel_rfl) (by simp) ?_
  refine AllReadyH.cons rfl (fun K hK => ?_) AllReadyH.nil
  go_simp
  refine (x5.out y9 T9.out.rd).mono ?_
  rintro e y10 ⟨rfl, hr, hb⟩
  have T10 := hide (T9.out.but hb.ba hr)
  have H10 : Hid (HBx hx true true false false y10) := (hb.block hx hhp).trans H9.out
  have cS10 : y10.cell? ⟨bx, 2, none⟩ = some (.int .i64 (m1 : Int)) := T10.out.x.c2
  refine hK.out _ _ cS10 (fun hHeld => ?_)
  clear hK K hr hb T9 H9 cS10
  try simp [Act.put]
  refine wpAnyH_ready (rs := [10]) (by kernel_rfl) (by simp) ?_
  refine AllReadyH.cons rfl (fun K hK => ?_) AllReadyH.nil
  go_simp
  refine (x6.out y10 T10.out.rd).mono ?_
  rintro e y11 ⟨rfl, hr, hb⟩
  have T11 := hide (T10.out.but hb.ba hr)
  have H11 : Hid (HBx hx true true false false y11) := (hb.block hx hhp).trans H10.out
  have cS11 : y11.cell? ⟨bx, 2, none⟩ = some (.int .i64 (m1 : Int)) := T11.out.x.c2
  refine hK.out _ _ cS11 (fun hHeld => ?_)
  clear hK K hr hb T10 H10 cS11
  try simp [Act.put]
  refine wpAnyH_take (i := 11) (v := ?v8) rfl (by kernel_rfl) (by kernel_rfl) (by kernel_rfl) (fun _ _ _ h => h) (Or.inl ⟨by rfl, ?hy8⟩) hHeld ?rest8
  case hy8 => (intro w' hSw; go_simp; try with_reducible rfl)
  try simp [Act.put]
  refine wpAnyH_take (i := 12) (v := ?v9) rfl (by kernel_rfl) (by kernel_rfl) (by kernel_rfl) (fun _ _ _ h => h) (Or.inl ⟨by rfl, ?hy9⟩) hHeld ?rest9
  case hy9 => (intro w' hSw; go_simp; try with_reducible rfl)
  try simp [Act.put]
  have t1 := T11.out.set _ (T11.out.x.s6 ky) rfl
  have t2 := t1.set _ (t1.x.s7 (m1 : Int)) rfl
  have t3 := t2.set _ (t2.x.s8 (no : Int)) rfl
  have t4 := t3.set _ (t3.x.s9 (nl : Int)) rfl
  have T12 := hide (t4.set _ (t4.x.s10 dg) rfl)
  clear t1 t2 t3 t4
  have H12 : Hid (HBx hx true true false false (((((y11.setCell ⟨bx, 6, none⟩ (.string ky)).setCell ⟨bx, 7, none⟩ (.int .i64 (m1 : Int))).setCell ⟨bx, 8, none⟩ (.int .i64 (no : Int))).setCell ⟨bx, 9, none⟩ (.int .i64 (nl : Int))).setCell ⟨bx, 10, none⟩ (.string dg))) := by
    unfold Hid HBx
    repeat rw [Below.heap_setCell _ _ _ _ (show hx ≠ bx from hxx)]
    exact H11.out
  obtain ⟨k0, k1, k2, k3, k4, k5, k6, k7, k8, k9, k10, k11, k12, k13⟩ := T11.out.x.cells
  obtain ⟨f0, f1, f2, f3, f4, f5, f6, f7, f8, f9, f10, f11, f12, f13⟩ := T11.out.x.frees
  simp only at k0 k1 k2 k3 k4 k5 k6 k7 k8 k9 k10 k11 k12 k13
  refine wpAnyH_ready (rs := [13]) (by kernel_rfl) (by simp) ?_
  refine AllReadyH.cons rfl (fun K hK => ?_) AllReadyH.nil
  go_simp
  refine hK.out _ _ (show World.cell? (((((y11.setCell ⟨bx, 6, none⟩ (.string ky)).setCell ⟨bx, 7, none⟩ (.int .i64 (m1 : Int))).setCell ⟨bx, 8, none⟩ (.int .i64 (no : Int))).setCell ⟨bx, 9, none⟩ (.int .i64 (nl : Int))).setCell ⟨bx, 10, none⟩ (.string dg)) ⟨bx, 2, none⟩ = some (.int .i64 (m1 : Int)) from T12.out.x.c2) (fun hHeld => ?_)
  clear hK K
  try simp [Act.put]
  refine wpAnyH_done (by kernel_rfl) (NoPanic.normal ?_) _
  clear k0 k1 k2 k3 k4 k5 k6 k7 k8 k9 k10 k11 k12 k13 f0 f1 f2 f3 f4 f5 f6 f7 f8 f9 f10 f11 f12 f13 T11 H11
  generalize ((((y11.setCell ⟨bx, 6, none⟩ (.string ky)).setCell ⟨bx, 7, none⟩ (.int .i64 (m1 : Int))).setCell ⟨bx, 8, none⟩ (.int .i64 (no : Int))).setCell ⟨bx, 9, none⟩ (.int .i64 (nl : Int))).setCell ⟨bx, 10, none⟩ (.string dg) = W12 at *
  obtain ⟨d0, d1, d2, d3⟩ := H12.out.cells
  have TF : Hid (Tk w bp w.heap.size bx ⟨(n1 : Int), 0, (m1 : Int), (m2 : Int), (m3 : Int), ll, ky, (m1 : Int), (no : Int), (nl : Int), dg, ByteArray.empty, 0, 0⟩ a5 c5 _ W12) := T12.out
  have TD := hide TF.out.done
  go_wp2_with (first | (refine wpList_load_row rfl 55 (.tmp 3) rfl bx rfl 55 (rcs ⟨(n1 : Int), 0, (m1 : Int), (m2 : Int), (m3 : Int), ll, ky, (m1 : Int), (no : Int), (nl : Int), dg, ByteArray.empty, 0, 0⟩ a5 c5) (0, 0) _ TF.out.x Try.underlying55 rfl rec_info ?_) | (refine wpList_store_row rfl 55 (.tmp 2) (.tmp 46) rfl w.heap.size (rcs ⟨(n1 : Int), 0, (m1 : Int), (m2 : Int), (m3 : Int), ll, ky, (m1 : Int), (no : Int), (nl : Int), dg, ByteArray.empty, 0, 0⟩ a5 c5) rfl rfl 55 (rcs Rc.zero none 0) TF.out.z rec_info rfl (rcs_one _ _ _) ?_))
  refine bodyPost_ret (res_rec rfl _ _ w.heap.size ⟨(n1 : Int), 0, (m1 : Int), (m2 : Int), (m3 : Int), ll, ky, (m1 : Int), (no : Int), (nl : Int), dg, ByteArray.empty, 0, 0⟩ a5 c5 rfl TD.out.1) rfl ?_
  exact ⟨a5, ⟨c5, rfl⟩, TD.out.2.1, TD.out.2.2.1, TD.out.2.2.2⟩
set_option maxRecDepth 100000 in
set_option maxHeartbeats 16000000 in
theorem taken1 (bp : Nat) (s : ByteArray) (w : World) (hR : RdC False w bp 131 s) (hs : s.size ≤ 1000000000000000) (hk : rN (rR s) = 1) : Calls Try.prog 64 #[.pointer (some ⟨bp, 0, none⟩)] w fun e w' => ∃ a c, e = .returned (.agg (rcs (tk1 s) a c)) ∧ LocsAt w' a (tk1 s).ls ∧ (∀ b o, a = some ⟨b, o, none⟩ → w.heap.size ≤ b ∧ LocB w' b) ∧ Ba bp w w' := by
  have hbp := hR.lt
  have l1 := rR_size s
  have l2 := rR_size (rR s)
  have x1 : Hid (∀ W, RdC False W bp 131 s → Calls Try.prog 81 #[.pointer (some ⟨bp, 0, none⟩)] W fun r w' => r = .returned (.int .i64 (rN s : Nat)) ∧ RdC False w' bp 131 (rR s) ∧ But bp W w') := fun W h => rnum_c False bp _ W h (by omega) fun c => c.elim
  have x2 : Hid (∀ W, RdC False W bp 131 (rR s) → Calls Try.prog 81 #[.pointer (some ⟨bp, 0, none⟩)] W fun r w' => r = .returned (.int .i64 (rN (rR s) : Nat)) ∧ RdC False w' bp 131 (rR (rR s)) ∧ But bp W w') := fun W h => rnum_c False bp _ W h (by omega) fun c => c.elim
  have x3 : Hid (∀ W, RdC False W bp 131 (rR (rR s)) → Calls Try.prog 83 #[.pointer (some ⟨bp, 0, none⟩)] W fun r w' => r = .returned (.string (tT (rR (rR s)))) ∧ RdC False w' bp 131 (tR (rR (rR s))) ∧ But bp W w') := fun W h => rtext_c False bp _ W h (by omega) fun c => c.elim
  unfold tk1
  dsimp only
  clear l1 l2
  rw [hk]
  rw [hk] at x2
  generalize tR (rR (rR s)) = v1 at *
  generalize tT (rR (rR s)) = ky at *
  generalize rR (rR s) = s2 at *
  generalize rR s = s1 at *
  generalize rN s = n1 at *
  have HP : Hid (∀ w, Calls Try.prog 49 #[.int .i64 1] w fun r w' => r = .returned (.agg #[.bool false, .bool false, .bool true, .bool false]) ∧ Below w.heap.size w w') := fun w => by
    have q := partsOf_any 1 w
    have e : prt 1 = #[.bool false, .bool false, .bool true, .bool false] := by simp [prt]
    rw [e] at q
    exact q
  have HZ1 : Hid (RBx w.heap.size 55 Rc.zero none 0 (w.alloc (.cells #[.int .i64 0, .int .i64 0, .int .i64 0, .int .i64 0, .int .i64 0, .slice none 0 0, .string { data := #[] }, .int .i64 0, .int .i64 0, .int .i64 0, .string { data := #[] }, .string { data := #[] }, .int .i64 0, .int .i64 0] 55))) := rbx_new 55 Rc.zero none 0 w
  have HR1 := hide (hR.below ((Below.refl _ _).alloc (Nat.le_refl _) (.cells #[.int .i64 0, .int .i64 0, .int .i64 0, .int .i64 0, .int .i64 0, .slice none 0 0, .string { data := #[] }, .int .i64 0, .int .i64 0, .int .i64 0, .string { data := #[] }, .string { data := #[] }, .int .i64 0, .int .i64 0] 55)))
  have HA1 := hide ((Ba.refl bp w).alloc (.cells #[.int .i64 0, .int .i64 0, .int .i64 0, .int .i64 0, .int .i64 0, .slice none 0 0, .string { data := #[] }, .int .i64 0, .int .i64 0, .int .i64 0, .string { data := #[] }, .string { data := #[] }, .int .i64 0, .int .i64 0] 55))
  have HS1 : Hid ((w.alloc (.cells #[.int .i64 0, .int .i64 0, .int .i64 0, .int .i64 0, .int .i64 0, .slice none 0 0, .string { data := #[] }, .int .i64 0, .int .i64 0, .int .i64 0, .string { data := #[] }, .string { data := #[] }, .int .i64 0, .int .i64 0] 55)).heap.size = w.heap.size + 1) := World.size_alloc _ _
  have hzp : w.heap.size ≠ bp := by omega
  clear hR hs hk
  go_enter Try.func64, Try.ntmps64
  go_upto_region 1 with fail
  generalize w.alloc (.cells #[.int .i64 0, .int .i64 0, .int .i64 0, .int .i64 0, .int .i64 0, .slice none 0 0, .string { data := #[] }, .int .i64 0, .int .i64 0, .int .i64 0, .string { data := #[] }, .string { data := #[] }, .int .i64 0, .int .i64 0] 55) = W1 at *
  go_wp2_with fail
  refine (x1.out W1 HR1.out).mono ?_
  rintro e u1 ⟨rfl, hr1, hb1⟩
  have R1 := hide hr1
  have B1 := hide hb1
  clear hr1 hb1
  go_wp2_with fail
  refine (x2.out u1 R1.out).mono ?_
  rintro e u2 ⟨rfl, hr1, hb1⟩
  have R2 := hide hr1
  have B2 := hide (B1.out.trans hb1)
  clear hr1 hb1 R1 B1
  have hsz : u2.heap.size = w.heap.size + 1 := by rw [B2.out.size, HS1.out]
  have Z2 := hide (HZ1.out.but B2.out hzp)
  have A2 := hide (HA1.out.trans B2.out.ba)
  have hal : Below u2.heap.size u2 (u2.alloc (.cells #[.int .i64 0, .int .i64 0, .int .i64 0, .int .i64 0, .int .i64 0, .slice none 0 0, .string { data := #[] }, .int .i64 0, .int .i64 0, .int .i64 0, .string { data := #[] }, .string { data := #[] }, .int .i64 0, .int .i64 0] 55)) := (Below.refl _ _).alloc (Nat.le_refl _) _
  have N3 : Hid (RBx u2.heap.size 55 Rc.zero none 0 (u2.alloc (.cells #[.int .i64 0, .int .i64 0, .int .i64 0, .int .i64 0, .int .i64 0, .slice none 0 0, .string { data := #[] }, .int .i64 0, .int .i64 0, .int .i64 0, .string { data := #[] }, .string { data := #[] }, .int .i64 0, .int .i64 0] 55))) := rbx_new 55 Rc.zero none 0 u2
  have hrow := below_setRow hal (Nat.le_refl _) (rcs ⟨(n1 : Int), 1, 0, 0, 0, [], ByteArray.empty, 0, 0, 0, ByteArray.empty, ByteArray.empty, 0, 0⟩ none 0)
  have T3 : Hid (Tk w bp w.heap.size u2.heap.size ⟨(n1 : Int), 1, 0, 0, 0, [], ByteArray.empty, 0, 0, 0, ByteArray.empty, ByteArray.empty, 0, 0⟩ none 0 s2 ((u2.alloc (.cells #[.int .i64 0, .int .i64 0, .int .i64 0, .int .i64 0, .int .i64 0, .slice none 0 0, .string { data := #[] }, .int .i64 0, .int .i64 0, .int .i64 0, .string { data := #[] }, .string { data := #[] }, .int .i64 0, .int .i64 0] 55)).setRow u2.heap.size (rcs ⟨(n1 : Int), 1, 0, 0, 0, [], ByteArray.empty, 0, 0, 0, ByteArray.empty, ByteArray.empty, 0, 0⟩ none 0))) :=
    ⟨(hrow.block _ Z2.out.lt).trans Z2.out, N3.out.row _ _ _, R2.out.below hrow, A2.out.trans (ba_below hrow), Nat.le_refl _, by omega, by omega, hbp, .inl rfl, fun b o q => by cases q⟩
  clear HZ1 HR1 HA1 HS1 R2 B2 Z2 A2 hal hrow x1 x2 hsz
  go_wp2_with (first | (refine wpList_store_row rfl 55 (.tmp 3) (.tmp 9) rfl u2.heap.size (rcs ⟨(n1 : Int), 1, 0, 0, 0, [], ByteArray.empty, 0, 0, 0, ByteArray.empty, ByteArray.empty, 0, 0⟩ none 0) rfl rfl 55 (rcs Rc.zero none 0) N3.out rec_info rfl (rcs_one _ _ _) ?_; generalize (u2.alloc (.cells #[.int .i64 0, .int .i64 0, .int .i64 0, .int .i64 0, .int .i64 0, .slice none 0 0, .string { data := #[] }, .int .i64 0, .int .i64 0, .int .i64 0, .string { data := #[] }, .string { data := #[] }, .int .i64 0, .int .i64 0] 55)).setRow u2.heap.size (rcs ⟨(n1 : Int), 1, 0, 0, 0, [], ByteArray.empty, 0, 0, 0, ByteArray.empty, ByteArray.empty, 0, 0⟩ none 0) = W3 at *; generalize u2.heap.size = bx at *; have c1 := T3.out.x.c1; simp only at c1))
  refine (HP.out W3).mono ?_
  rintro e u4 ⟨rfl, hb4⟩
  have T4 := hide ((T3.out.other hb4).other ((Below.refl _ _).alloc (Nat.le_refl _) (.cells #[.bool false, .bool false, .bool true, .bool false] 94)))
  have H4 : Hid (HBx u4.heap.size false false true false (u4.alloc (.cells #[.bool false, .bool false, .bool true, .bool false] 94))) := heap_alloc_new _ _
  have hx0 : w.heap.size < u4.heap.size ∧ bx < u4.heap.size := ⟨Nat.lt_of_lt_of_le T3.out.z.lt hb4.size, Nat.lt_of_lt_of_le T3.out.x.lt hb4.size⟩
  clear hb4 T3 HP N3 c1
  go_upto_region 3 with fail
  generalize u4.alloc (.cells #[.bool false, .bool false, .bool true, .bool false] 94) = W4 at *
  generalize u4.heap.size = hx at *
  have hhp : hx ≠ bp := by have := T4.out.lt; omega
  obtain ⟨d0, d1, d2, d3⟩ := H4.out.cells
  go_wp2_with fail
  refine (x3.out W4 T4.out.rd).mono ?_
  rintro e u5 ⟨rfl, hr5, hb5⟩
  have T5 := hide (T4.out.but hb5.ba hr5)
  have H5 : Hid (HBx hx false false true false u5) := (hb5.block hx hhp).trans H4.out
  have k11 := T5.out.x.c11
  have f11 := T5.out.x.free 11
  simp only at k11
  have T6 := hide (T5.out.set _ (T5.out.x.s11 ky) rfl)
  have H6 : Hid (HBx hx false false true false (u5.setCell ⟨bx, 11, none⟩ (.string ky))) := (Below.heap_setCell _ _ _ _ (by show hx ≠ bx; omega)).trans H5.out
  clear hr5 hb5 T4 H4 x3 d0 d1 d2 d3
  go_upto_region 9 with fail
  generalize u5.setCell ⟨bx, 11, none⟩ (.string ky) = W6 at *
  clear T5 H5 k11 f11
  obtain ⟨d0, d1, d2, d3⟩ := H6.out.cells
  have TF : Hid (Tk w bp w.heap.size bx ⟨(n1 : Int), 1, 0, 0, 0, [], ByteArray.empty, 0, 0, 0, ByteArray.empty, ky, 0, 0⟩ none 0 _ W6) := T6.out
  have TD := hide TF.out.done
  go_wp2_with (first | (refine wpList_load_row rfl 55 (.tmp 3) rfl bx rfl 55 (rcs ⟨(n1 : Int), 1, 0, 0, 0, [], ByteArray.empty, 0, 0, 0, ByteArray.empty, ky, 0, 0⟩ none 0) (0, 0) _ TF.out.x Try.underlying55 rfl rec_info ?_) | (refine wpList_store_row rfl 55 (.tmp 2) (.tmp 46) rfl w.heap.size (rcs ⟨(n1 : Int), 1, 0, 0, 0, [], ByteArray.empty, 0, 0, 0, ByteArray.empty, ky, 0, 0⟩ none 0) rfl rfl 55 (rcs Rc.zero none 0) TF.out.z rec_info rfl (rcs_one _ _ _) ?_))
  refine bodyPost_ret (res_rec rfl _ _ w.heap.size ⟨(n1 : Int), 1, 0, 0, 0, [], ByteArray.empty, 0, 0, 0, ByteArray.empty, ky, 0, 0⟩ none 0 rfl TD.out.1) rfl ?_
  exact ⟨none, ⟨0, rfl⟩, TD.out.2.1, TD.out.2.2.1, TD.out.2.2.2⟩
set_option maxRecDepth 100000 in
set_option maxHeartbeats 16000000 in
theorem taken2 (bp : Nat) (s : ByteArray) (w : World) (hR : RdC False w bp 131 s) (hs : s.size ≤ 1000000000000000) (hk : rN (rR s) = 2) : Calls Try.prog 64 #[.pointer (some ⟨bp, 0, none⟩)] w fun e w' => ∃ a c, e = .returned (.agg (rcs (tk2 s) a c)) ∧ LocsAt w' a (tk2 s).ls ∧ (∀ b o, a = some ⟨b, o, none⟩ → w.heap.size ≤ b ∧ LocB w' b) ∧ Ba bp w w' := by
  have hbp := hR.lt
  have l1 := rR_size s
  have l2 := rR_size (rR s)
  have x1 : Hid (∀ W, RdC False W bp 131 s → Calls Try.prog 81 #[.pointer (some ⟨bp, 0, none⟩)] W fun r w' => r = .returned (.int .i64 (rN s : Nat)) ∧ RdC False w' bp 131 (rR s) ∧ But bp W w') := fun W h => rnum_c False bp _ W h (by omega) fun c => c.elim
  have x2 : Hid (∀ W, RdC False W bp 131 (rR s) → Calls Try.prog 81 #[.pointer (some ⟨bp, 0, none⟩)] W fun r w' => r = .returned (.int .i64 (rN (rR s) : Nat)) ∧ RdC False w' bp 131 (rR (rR s)) ∧ But bp W w') := fun W h => rnum_c False bp _ W h (by omega) fun c => c.elim
  have xv : Hid (∀ W, RdC False W bp 131 (rR (rR s)) → Calls Try.prog 82 #[.pointer (some ⟨bp, 0, none⟩)] W fun e w' => ∃ a c, e = .returned (.agg (vlc (rN (rR (rR s)) : Nat) (rN (rR (rR (rR s))) : Nat) (rN (rR (rR (rR (rR s)))) : Nat) a 9 c)) ∧ LocsAt w' a (lcsT 9 (rR (rR (rR (rR (rR s)))))) ∧ (∀ b o, a = some ⟨b, o, none⟩ → W.heap.size ≤ b ∧ LocB w' b) ∧ RdC False w' bp 131 (lcsR 9 (rR (rR (rR (rR (rR s)))))) ∧ Ba bp W w') := fun W h => takenVol_any False bp _ W h (by omega) fun c => c.elim
  unfold tk2
  dsimp only
  clear l1 l2
  rw [hk]
  rw [hk] at x2
  have HLN : Hid ((lcsT 9 (rR (rR (rR (rR (rR s)))))).length = 9) := lcsT_len _ _
  generalize lcsR 9 (rR (rR (rR (rR (rR s))))) = v0 at *
  generalize lcsT 9 (rR (rR (rR (rR (rR s))))) = ll at *
  generalize rN (rR (rR (rR (rR s)))) = m3 at *
  generalize rN (rR (rR (rR s))) = m2 at *
  generalize rN (rR (rR s)) = m1 at *
  generalize rR (rR s) = s2 at *
  generalize rR s = s1 at *
  generalize rN s = n1 at *
  have HP : Hid (∀ w, Calls Try.prog 49 #[.int .i64 2] w fun r w' => r = .returned (.agg #[.bool true, .bool false, .bool false, .bool false]) ∧ Below w.heap.size w w') := fun w => by
    have q := partsOf_any 2 w
    have e : prt 2 = #[.bool true, .bool false, .bool false, .bool false] := by simp [prt]
    rw [e] at q
    exact q
  have HZ1 : Hid (RBx w.heap.size 55 Rc.zero none 0 (w.alloc (.cells #[.int .i64 0, .int .i64 0, .int .i64 0, .int .i64 0, .int .i64 0, .slice none 0 0, .string { data := #[] }, .int .i64 0, .int .i64 0, .int .i64 0, .string { data := #[] }, .string { data := #[] }, .int .i64 0, .int .i64 0] 55))) := rbx_new 55 Rc.zero none 0 w
  have HR1 := hide (hR.below ((Below.refl _ _).alloc (Nat.le_refl _) (.cells #[.int .i64 0, .int .i64 0, .int .i64 0, .int .i64 0, .int .i64 0, .slice none 0 0, .string { data := #[] }, .int .i64 0, .int .i64 0, .int .i64 0, .string { data := #[] }, .string { data := #[] }, .int .i64 0, .int .i64 0] 55)))
  have HA1 := hide ((Ba.refl bp w).alloc (.cells #[.int .i64 0, .int .i64 0, .int .i64 0, .int .i64 0, .int .i64 0, .slice none 0 0, .string { data := #[] }, .int .i64 0, .int .i64 0, .int .i64 0, .string { data := #[] }, .string { data := #[] }, .int .i64 0, .int .i64 0] 55))
  have HS1 : Hid ((w.alloc (.cells #[.int .i64 0, .int .i64 0, .int .i64 0, .int .i64 0, .int .i64 0, .slice none 0 0, .string { data := #[] }, .int .i64 0, .int .i64 0, .int .i64 0, .string { data := #[] }, .string { data := #[] }, .int .i64 0, .int .i64 0] 55)).heap.size = w.heap.size + 1) := World.size_alloc _ _
  have hzp : w.heap.size ≠ bp := by omega
  clear hR hs hk
  go_enter Try.func64, Try.ntmps64
  go_upto_region 1 with fail
  generalize w.alloc (.cells #[.int .i64 0, .int .i64 0, .int .i64 0, .int .i64 0, .int .i64 0, .slice none 0 0, .string { data := #[] }, .int .i64 0, .int .i64 0, .int .i64 0, .string { data := #[] }, .string { data := #[] }, .int .i64 0, .int .i64 0] 55) = W1 at *
  go_wp2_with fail
  refine (x1.out W1 HR1.out).mono ?_
  rintro e u1 ⟨rfl, hr1, hb1⟩
  have R1 := hide hr1
  have B1 := hide hb1
  clear hr1 hb1
  go_wp2_with fail
  refine (x2.out u1 R1.out).mono ?_
  rintro e u2 ⟨rfl, hr1, hb1⟩
  have R2 := hide hr1
  have B2 := hide (B1.out.trans hb1)
  clear hr1 hb1 R1 B1
  have hsz : u2.heap.size = w.heap.size + 1 := by rw [B2.out.size, HS1.out]
  have Z2 := hide (HZ1.out.but B2.out hzp)
  have A2 := hide (HA1.out.trans B2.out.ba)
  have hal : Below u2.heap.size u2 (u2.alloc (.cells #[.int .i64 0, .int .i64 0, .int .i64 0, .int .i64 0, .int .i64 0, .slice none 0 0, .string { data := #[] }, .int .i64 0, .int .i64 0, .int .i64 0, .string { data := #[] }, .string { data := #[] }, .int .i64 0, .int .i64 0] 55)) := (Below.refl _ _).alloc (Nat.le_refl _) _
  have N3 : Hid (RBx u2.heap.size 55 Rc.zero none 0 (u2.alloc (.cells #[.int .i64 0, .int .i64 0, .int .i64 0, .int .i64 0, .int .i64 0, .slice none 0 0, .string { data := #[] }, .int .i64 0, .int .i64 0, .int .i64 0, .string { data := #[] }, .string { data := #[] }, .int .i64 0, .int .i64 0] 55))) := rbx_new 55 Rc.zero none 0 u2
  have hrow := below_setRow hal (Nat.le_refl _) (rcs ⟨(n1 : Int), 2, 0, 0, 0, [], ByteArray.empty, 0, 0, 0, ByteArray.empty, ByteArray.empty, 0, 0⟩ none 0)
  have T3 : Hid (Tk w bp w.heap.size u2.heap.size ⟨(n1 : Int), 2, 0, 0, 0, [], ByteArray.empty, 0, 0, 0, ByteArray.empty, ByteArray.empty, 0, 0⟩ none 0 s2 ((u2.alloc (.cells #[.int .i64 0, .int .i64 0, .int .i64 0, .int .i64 0, .int .i64 0, .slice none 0 0, .string { data := #[] }, .int .i64 0, .int .i64 0, .int .i64 0, .string { data := #[] }, .string { data := #[] }, .int .i64 0, .int .i64 0] 55)).setRow u2.heap.size (rcs ⟨(n1 : Int), 2, 0, 0, 0, [], ByteArray.empty, 0, 0, 0, ByteArray.empty, ByteArray.empty, 0, 0⟩ none 0))) :=
    ⟨(hrow.block _ Z2.out.lt).trans Z2.out, N3.out.row _ _ _, R2.out.below hrow, A2.out.trans (ba_below hrow), Nat.le_refl _, by omega, by omega, hbp, .inl rfl, fun b o q => by cases q⟩
  clear HZ1 HR1 HA1 HS1 R2 B2 Z2 A2 hal hrow x1 x2 hsz
  go_wp2_with (first | (refine wpList_store_row rfl 55 (.tmp 3) (.tmp 9) rfl u2.heap.size (rcs ⟨(n1 : Int), 2, 0, 0, 0, [], ByteArray.empty, 0, 0, 0, ByteArray.empty, ByteArray.empty, 0, 0⟩ none 0) rfl rfl 55 (rcs Rc.zero none 0) N3.out rec_info rfl (rcs_one _ _ _) ?_; generalize (u2.alloc (.cells #[.int .i64 0, .int .i64 0, .int .i64 0, .int .i64 0, .int .i64 0, .slice none 0 0, .string { data := #[] }, .int .i64 0, .int .i64 0, .int .i64 0, .string { data := #[] }, .string { data := #[] }, .int .i64 0, .int .i64 0] 55)).setRow u2.heap.size (rcs ⟨(n1 : Int), 2, 0, 0, 0, [], ByteArray.empty, 0, 0, 0, ByteArray.empty, ByteArray.empty, 0, 0⟩ none 0) = W3 at *; generalize u2.heap.size = bx at *; have c1 := T3.out.x.c1; simp only at c1))
  refine (HP.out W3).mono ?_
  rintro e u4 ⟨rfl, hb4⟩
  have T4 := hide ((T3.out.other hb4).other ((Below.refl _ _).alloc (Nat.le_refl _) (.cells #[.bool true, .bool false, .bool false, .bool false] 94)))
  have H4 : Hid (HBx u4.heap.size true false false false (u4.alloc (.cells #[.bool true, .bool false, .bool false, .bool false] 94))) := heap_alloc_new _ _
  have hx0 : w.heap.size < u4.heap.size ∧ bx < u4.heap.size := ⟨Nat.lt_of_lt_of_le T3.out.z.lt hb4.size, Nat.lt_of_lt_of_le T3.out.x.lt hb4.size⟩
  clear hb4 T3 HP N3 c1
  go_upto_region 3 with fail
  generalize u4.alloc (.cells #[.bool true, .bool false, .bool false, .bool false] 94) = W4 at *
  generalize u4.heap.size = hx at *
  have hhp : hx ≠ bp := by have := T4.out.lt; omega
  obtain ⟨d0, d1, d2, d3⟩ := H4.out.cells
  go_wp2_with fail
  refine (xv.out W4 T4.out.rd).mono ?_
  rintro e u5 ⟨a5, c5, rfl, hl5, hf5, hr5, hb5⟩
  have T5 := hide (T4.out.but hb5 hr5)
  have H5 : Hid (HBx hx true false false false u5) := (hb5.block hx (lt_of_block H4.out) hhp).trans H4.out
  have T6 := hide (T5.out.vol rfl (m1 : Int) (m2 : Int) (m3 : Int) ll a5 c5 hl5 fun b o q => by
    have h1 := hf5 b o q
    have h2 := T4.out.z.lt
    have h3 := T4.out.x.lt
    have h4 := T4.out.ba.size
    exact ⟨by omega, by omega, by omega, h1.2⟩)
  have HFR : Hid (∀ b o, a5 = some ⟨b, o, none⟩ → hx ≠ b) := fun b o q => by have h1 := hf5 b o q; have h2 := lt_of_block H4.out; omega
  clear hl5 hf5 hr5 hb5 T4 H4 xv d0 d1 d2 d3
  have hxx : hx ≠ bx := by omega
  have H6 : Hid (HBx hx true false false false ((((u5.setCell ⟨bx, 2, none⟩ (.int .i64 (m1 : Int))).setCell ⟨bx, 3, none⟩ (.int .i64 (m2 : Int))).setCell ⟨bx, 4, none⟩ (.int .i64 (m3 : Int))).setCell ⟨bx, 5, none⟩ (.slice a5 ll.length c5))) := by
    unfold Hid HBx
    repeat rw [Below.heap_setCell _ _ _ _ (show hx ≠ bx from hxx)]
    exact H5.out
  obtain ⟨k0, k1, k2, k3, k4, k5, k6, k7, k8, k9, k10, k11, k12, k13⟩ := T5.out.x.cells
  obtain ⟨f0, f1, f2, f3, f4, f5, f6, f7, f8, f9, f10, f11, f12, f13⟩ := T5.out.x.frees
  simp only [List.length_nil] at k0 k1 k2 k3 k4 k5 k6 k7 k8 k9 k10 k11 k12 k13
  simp only [vlc]
  rw [HLN.out] at T6 H6
  go_upto_region 5 with fail
  generalize (((u5.setCell ⟨bx, 2, none⟩ (.int .i64 (m1 : Int))).setCell ⟨bx, 3, none⟩ (.int .i64 (m2 : Int))).setCell ⟨bx, 4, none⟩ (.int .i64 (m3 : Int))).setCell ⟨bx, 5, none⟩ (.slice a5 9 c5) = W6 at *
  clear T5 H5 k0 k1 k2 k3 k4 k5 k6 k7 k8 k9 k10 k11 k12 k13 f0 f1 f2 f3 f4 f5 f6 f7 f8 f9 f10 f11 f12 f13
  obtain ⟨d0, d1, d2, d3⟩ := H6.out.cells
  have TF : Hid (Tk w bp w.heap.size bx ⟨(n1 : Int), 2, (m1 : Int), (m2 : Int), (m3 : Int), ll, ByteArray.empty, 0, 0, 0, ByteArray.empty, ByteArray.empty, 0, 0⟩ a5 c5 _ W6) := T6.out
  have TD := hide TF.out.done
  go_wp2_with (first | (refine wpList_load_row rfl 55 (.tmp 3) rfl bx rfl 55 (rcs ⟨(n1 : Int), 2, (m1 : Int), (m2 : Int), (m3 : Int), ll, ByteArray.empty, 0, 0, 0, ByteArray.empty, ByteArray.empty, 0, 0⟩ a5 c5) (0, 0) _ TF.out.x Try.underlying55 rfl rec_info ?_) | (refine wpList_store_row rfl 55 (.tmp 2) (.tmp 46) rfl w.heap.size (rcs ⟨(n1 : Int), 2, (m1 : Int), (m2 : Int), (m3 : Int), ll, ByteArray.empty, 0, 0, 0, ByteArray.empty, ByteArray.empty, 0, 0⟩ a5 c5) rfl rfl 55 (rcs Rc.zero none 0) TF.out.z rec_info rfl (rcs_one _ _ _) ?_))
  refine bodyPost_ret (res_rec rfl _ _ w.heap.size ⟨(n1 : Int), 2, (m1 : Int), (m2 : Int), (m3 : Int), ll, ByteArray.empty, 0, 0, 0, ByteArray.empty, ByteArray.empty, 0, 0⟩ a5 c5 rfl TD.out.1) rfl ?_
  exact ⟨a5, ⟨c5, rfl⟩, TD.out.2.1, TD.out.2.2.1, TD.out.2.2.2⟩
set_option maxRecDepth 100000 in
set_option maxHeartbeats 16000000 in
theorem taken3 (bp : Nat) (s : ByteArray) (w : World) (hR : RdC False w bp 131 s) (hs : s.size ≤ 1000000000000000) (hk : rN (rR s) = 3) : Calls Try.prog 64 #[.pointer (some ⟨bp, 0, none⟩)] w fun e w' => ∃ a c, e = .returned (.agg (rcs (tk3 s) a c)) ∧ LocsAt w' a (tk3 s).ls ∧ (∀ b o, a = some ⟨b, o, none⟩ → w.heap.size ≤ b ∧ LocB w' b) ∧ Ba bp w w' := by
  have hbp := hR.lt
  have l1 := rR_size s
  have l2 := rR_size (rR s)
  have x1 : Hid (∀ W, RdC False W bp 131 s → Calls Try.prog 81 #[.pointer (some ⟨bp, 0, none⟩)] W fun r w' => r = .returned (.int .i64 (rN s : Nat)) ∧ RdC False w' bp 131 (rR s) ∧ But bp W w') := fun W h => rnum_c False bp _ W h (by omega) fun c => c.elim
  have x2 : Hid (∀ W, RdC False W bp 131 (rR s) → Calls Try.prog 81 #[.pointer (some ⟨bp, 0, none⟩)] W fun r w' => r = .returned (.int .i64 (rN (rR s) : Nat)) ∧ RdC False w' bp 131 (rR (rR s)) ∧ But bp W w') := fun W h => rnum_c False bp _ W h (by omega) fun c => c.elim
  have xv : Hid (∀ W, RdC False W bp 131 (rR (rR s)) → Calls Try.prog 82 #[.pointer (some ⟨bp, 0, none⟩)] W fun e w' => ∃ a c, e = .returned (.agg (vlc (rN (rR (rR s)) : Nat) (rN (rR (rR (rR s))) : Nat) (rN (rR (rR (rR (rR s)))) : Nat) a 9 c)) ∧ LocsAt w' a (lcsT 9 (rR (rR (rR (rR (rR s)))))) ∧ (∀ b o, a = some ⟨b, o, none⟩ → W.heap.size ≤ b ∧ LocB w' b) ∧ RdC False w' bp 131 (lcsR 9 (rR (rR (rR (rR (rR s)))))) ∧ Ba bp W w') := fun W h => takenVol_any False bp _ W h (by omega) fun c => c.elim
  have l3 := rR_size (rR (rR s))
  have l4 := rR_size (rR (rR (rR s)))
  have l5 := rR_size (rR (rR (rR (rR s))))
  have l6 := lcsR_size 9 (rR (rR (rR (rR (rR s)))))
  have l7 := rR_size (lcsR 9 (rR (rR (rR (rR (rR s))))))
  have x3 : Hid (∀ W, RdC False W bp 131 (lcsR 9 (rR (rR (rR (rR (rR s)))))) → Calls Try.prog 81 #[.pointer (some ⟨bp, 0, none⟩)] W fun r w' => r = .returned (.int .i64 (rN (lcsR 9 (rR (rR (rR (rR (rR s)))))) : Nat)) ∧ RdC False w' bp 131 (rR (lcsR 9 (rR (rR (rR (rR (rR s))))))) ∧ But bp W w') := fun W h => rnum_c False bp _ W h (by omega) fun c => c.elim
  have x4 : Hid (∀ W, RdC False W bp 131 (rR (lcsR 9 (rR (rR (rR (rR (rR s))))))) → Calls Try.prog 81 #[.pointer (some ⟨bp, 0, none⟩)] W fun r w' => r = .returned (.int .i64 (rN (rR (lcsR 9 (rR (rR (rR (rR (rR s))))))) : Nat)) ∧ RdC False w' bp 131 (rR (rR (lcsR 9 (rR (rR (rR (rR (rR s)))))))) ∧ But bp W w') := fun W h => rnum_c False bp _ W h (by omega) fun c => c.elim
  unfold tk3
  dsimp only
  clear l1 l2
  rw [hk]
  rw [hk] at x2
  clear l3 l4 l5 l6 l7
  generalize rR (rR (lcsR 9 (rR (rR (rR (rR (rR s))))))) = v2 at *
  generalize rN (rR (lcsR 9 (rR (rR (rR (rR (rR s))))))) = nt at *
  generalize rR (lcsR 9 (rR (rR (rR (rR (rR s)))))) = v1 at *
  generalize rN (lcsR 9 (rR (rR (rR (rR (rR s)))))) = nf at *
  have HLN : Hid ((lcsT 9 (rR (rR (rR (rR (rR s)))))).length = 9) := lcsT_len _ _
  generalize lcsR 9 (rR (rR (rR (rR (rR s))))) = v0 at *
  generalize lcsT 9 (rR (rR (rR (rR (rR s))))) = ll at *
  generalize rN (rR (rR (rR (rR s)))) = m3 at *
  generalize rN (rR (rR (rR s))) = m2 at *
  generalize rN (rR (rR s)) = m1 at *
  generalize rR (rR s) = s2 at *
  generalize rR s = s1 at *
  generalize rN s = n1 at *
  have HP : Hid (∀ w, Calls Try.prog 49 #[.int .i64 3] w fun r w' => r = .returned (.agg #[.bool true, .bool false, .bool false, .bool true]) ∧ Below w.heap.size w w') := fun w => by
    have q := partsOf_any 3 w
    have e : prt 3 = #[.bool true, .bool false, .bool false, .bool true] := by simp [prt]
    rw [e] at q
    exact q
  have HZ1 : Hid (RBx w.heap.size 55 Rc.zero none 0 (w.alloc (.cells #[.int .i64 0, .int .i64 0, .int .i64 0, .int .i64 0, .int .i64 0, .slice none 0 0, .string { data := #[] }, .int .i64 0, .int .i64 0, .int .i64 0, .string { data := #[] }, .string { data := #[] }, .int .i64 0, .int .i64 0] 55))) := rbx_new 55 Rc.zero none 0 w
  have HR1 := hide (hR.below ((Below.refl _ _).alloc (Nat.le_refl _) (.cells #[.int .i64 0, .int .i64 0, .int .i64 0, .int .i64 0, .int .i64 0, .slice none 0 0, .string { data := #[] }, .int .i64 0, .int .i64 0, .int .i64 0, .string { data := #[] }, .string { data := #[] }, .int .i64 0, .int .i64 0] 55)))
  have HA1 := hide ((Ba.refl bp w).alloc (.cells #[.int .i64 0, .int .i64 0, .int .i64 0, .int .i64 0, .int .i64 0, .slice none 0 0, .string { data := #[] }, .int .i64 0, .int .i64 0, .int .i64 0, .string { data := #[] }, .string { data := #[] }, .int .i64 0, .int .i64 0] 55))
  have HS1 : Hid ((w.alloc (.cells #[.int .i64 0, .int .i64 0, .int .i64 0, .int .i64 0, .int .i64 0, .slice none 0 0, .string { data := #[] }, .int .i64 0, .int .i64 0, .int .i64 0, .string { data := #[] }, .string { data := #[] }, .int .i64 0, .int .i64 0] 55)).heap.size = w.heap.size + 1) := World.size_alloc _ _
  have hzp : w.heap.size ≠ bp := by omega
  clear hR hs hk
  go_enter Try.func64, Try.ntmps64
  go_upto_region 1 with fail
  generalize w.alloc (.cells #[.int .i64 0, .int .i64 0, .int .i64 0, .int .i64 0, .int .i64 0, .slice none 0 0, .string { data := #[] }, .int .i64 0, .int .i64 0, .int .i64 0, .string { data := #[] }, .string { data := #[] }, .int .i64 0, .int .i64 0] 55) = W1 at *
  go_wp2_with fail
  refine (x1.out W1 HR1.out).mono ?_
  rintro e u1 ⟨rfl, hr1, hb1⟩
  have R1 := hide hr1
  have B1 := hide hb1
  clear hr1 hb1
  go_wp2_with fail
  refine (x2.out u1 R1.out).mono ?_
  rintro e u2 ⟨rfl, hr1, hb1⟩
  have R2 := hide hr1
  have B2 := hide (B1.out.trans hb1)
  clear hr1 hb1 R1 B1
  have hsz : u2.heap.size = w.heap.size + 1 := by rw [B2.out.size, HS1.out]
  have Z2 := hide (HZ1.out.but B2.out hzp)
  have A2 := hide (HA1.out.trans B2.out.ba)
  have hal : Below u2.heap.size u2 (u2.alloc (.cells #[.int .i64 0, .int .i64 0, .int .i64 0, .int .i64 0, .int .i64 0, .slice none 0 0, .string { data := #[] }, .int .i64 0, .int .i64 0, .int .i64 0, .string { data := #[] }, .string { data := #[] }, .int .i64 0, .int .i64 0] 55)) := (Below.refl _ _).alloc (Nat.le_refl _) _
  have N3 : Hid (RBx u2.heap.size 55 Rc.zero none 0 (u2.alloc (.cells #[.int .i64 0, .int .i64 0, .int .i64 0, .int .i64 0, .int .i64 0, .slice none 0 0, .string { data := #[] }, .int .i64 0, .int .i64 0, .int .i64 0, .string { data := #[] }, .string { data := #[] }, .int .i64 0, .int .i64 0] 55))) := rbx_new 55 Rc.zero none 0 u2
  have hrow := below_setRow hal (Nat.le_refl _) (rcs ⟨(n1 : Int), 3, 0, 0, 0, [], ByteArray.empty, 0, 0, 0, ByteArray.empty, ByteArray.empty, 0, 0⟩ none 0)
  have T3 : Hid (Tk w bp w.heap.size u2.heap.size ⟨(n1 : Int), 3, 0, 0, 0, [], ByteArray.empty, 0, 0, 0, ByteArray.empty, ByteArray.empty, 0, 0⟩ none 0 s2 ((u2.alloc (.cells #[.int .i64 0, .int .i64 0, .int .i64 0, .int .i64 0, .int .i64 0, .slice none 0 0, .string { data := #[] }, .int .i64 0, .int .i64 0, .int .i64 0, .string { data := #[] }, .string { data := #[] }, .int .i64 0, .int .i64 0] 55)).setRow u2.heap.size (rcs ⟨(n1 : Int), 3, 0, 0, 0, [], ByteArray.empty, 0, 0, 0, ByteArray.empty, ByteArray.empty, 0, 0⟩ none 0))) :=
    ⟨(hrow.block _ Z2.out.lt).trans Z2.out, N3.out.row _ _ _, R2.out.below hrow, A2.out.trans (ba_below hrow), Nat.le_refl _, by omega, by omega, hbp, .inl rfl, fun b o q => by cases q⟩
  clear HZ1 HR1 HA1 HS1 R2 B2 Z2 A2 hal hrow x1 x2 hsz
  go_wp2_with (first | (refine wpList_store_row rfl 55 (.tmp 3) (.tmp 9) rfl u2.heap.size (rcs ⟨(n1 : Int), 3, 0, 0, 0, [], ByteArray.empty, 0, 0, 0, ByteArray.empty, ByteArray.empty, 0, 0⟩ none 0) rfl rfl 55 (rcs Rc.zero none 0) N3.out rec_info rfl (rcs_one _ _ _) ?_; generalize (u2.alloc (.cells #[.int .i64 0, .int .i64 0, .int .i64 0, .int .i64 0, .int .i64 0, .slice none 0 0, .string { data := #[] }, .int .i64 0, .int .i64 0, .int .i64 0, .string { data := #[] }, .string { data := #[] }, .int .i64 0, .int .i64 0] 55)).setRow u2.heap.size (rcs ⟨(n1 : Int), 3, 0, 0, 0, [], ByteArray.empty, 0, 0, 0, ByteArray.empty, ByteArray.empty, 0, 0⟩ none 0) = W3 at *; generalize u2.heap.size = bx at *; have c1 := T3.out.x.c1; simp only at c1))
  refine (HP.out W3).mono ?_
  rintro e u4 ⟨rfl, hb4⟩
  have T4 := hide ((T3.out.other hb4).other ((Below.refl _ _).alloc (Nat.le_refl _) (.cells #[.bool true, .bool false, .bool false, .bool true] 94)))
  have H4 : Hid (HBx u4.heap.size true false false true (u4.alloc (.cells #[.bool true, .bool false, .bool false, .bool true] 94))) := heap_alloc_new _ _
  have hx0 : w.heap.size < u4.heap.size ∧ bx < u4.heap.size := ⟨Nat.lt_of_lt_of_le T3.out.z.lt hb4.size, Nat.lt_of_lt_of_le T3.out.x.lt hb4.size⟩
  clear hb4 T3 HP N3 c1
  go_upto_region 3 with fail
  generalize u4.alloc (.cells #[.bool true, .bool false, .bool false, .bool true] 94) = W4 at *
  generalize u4.heap.size = hx at *
  have hhp : hx ≠ bp := by have := T4.out.lt; omega
  obtain ⟨d0, d1, d2, d3⟩ := H4.out.cells
  go_wp2_with fail
  refine (xv.out W4 T4.out.rd).mono ?_
  rintro e u5 ⟨a5, c5, rfl, hl5, hf5, hr5, hb5⟩
  have T5 := hide (T4.out.but hb5 hr5)
  have H5 : Hid (HBx hx true false false true u5) := (hb5.block hx (lt_of_block H4.out) hhp).trans H4.out
  have T6 := hide (T5.out.vol rfl (m1 : Int) (m2 : Int) (m3 : Int) ll a5 c5 hl5 fun b o q => by
    have h1 := hf5 b o q
    have h2 := T4.out.z.lt
    have h3 := T4.out.x.lt
    have h4 := T4.out.ba.size
    exact ⟨by omega, by omega, by omega, h1.2⟩)
  have HFR : Hid (∀ b o, a5 = some ⟨b, o, none⟩ → hx ≠ b) := fun b o q => by have h1 := hf5 b o q; have h2 := lt_of_block H4.out; omega
  clear hl5 hf5 hr5 hb5 T4 H4 xv d0 d1 d2 d3
  have hxx : hx ≠ bx := by omega
  have H6 : Hid (HBx hx true false false true ((((u5.setCell ⟨bx, 2, none⟩ (.int .i64 (m1 : Int))).setCell ⟨bx, 3, none⟩ (.int .i64 (m2 : Int))).setCell ⟨bx, 4, none⟩ (.int .i64 (m3 : Int))).setCell ⟨bx, 5, none⟩ (.slice a5 ll.length c5))) := by
    unfold Hid HBx
    repeat rw [Below.heap_setCell _ _ _ _ (show hx ≠ bx from hxx)]
    exact H5.out
  obtain ⟨k0, k1, k2, k3, k4, k5, k6, k7, k8, k9, k10, k11, k12, k13⟩ := T5.out.x.cells
  obtain ⟨f0, f1, f2, f3, f4, f5, f6, f7, f8, f9, f10, f11, f12, f13⟩ := T5.out.x.frees
  simp only [List.length_nil] at k0 k1 k2 k3 k4 k5 k6 k7 k8 k9 k10 k11 k12 k13
  simp only [vlc]
  rw [HLN.out] at T6 H6
  go_upto_region 5 with fail
  generalize (((u5.setCell ⟨bx, 2, none⟩ (.int .i64 (m1 : Int))).setCell ⟨bx, 3, none⟩ (.int .i64 (m2 : Int))).setCell ⟨bx, 4, none⟩ (.int .i64 (m3 : Int))).setCell ⟨bx, 5, none⟩ (.slice a5 9 c5) = W6 at *
  clear T5 H5 k0 k1 k2 k3 k4 k5 k6 k7 k8 k9 k10 k11 k12 k13 f0 f1 f2 f3 f4 f5 f6 f7 f8 f9 f10 f11 f12 f13
  obtain ⟨d0, d1, d2, d3⟩ := H6.out.cells
  go_wp2_with fail
  refine (x3.out W6 T6.out.rd).mono ?_
  rintro e u7 ⟨rfl, hr, hb⟩
  have T7 := hide (T6.out.but hb.ba hr)
  have H7 : Hid (HBx hx true false false true u7) := (hb.block hx hhp).trans H6.out
  clear hr hb T6 H6 d0 d1 d2 d3
  go_wp2_with fail
  refine (x4.out u7 T7.out.rd).mono ?_
  rintro e u8 ⟨rfl, hr, hb⟩
  have T8 := hide (T7.out.but hb.ba hr)
  have H8 : Hid (HBx hx true false false true u8) := (hb.block hx hhp).trans H7.out
  clear hr hb T7 H7
  have t1 := T8.out.set _ (T8.out.x.s12 (nf : Int)) rfl
  have T9 := hide (t1.set _ (t1.x.s13 (nt : Int)) rfl)
  clear t1
  have k12 := T8.out.x.c12
  have k13 := T8.out.x.c13
  have f12 := T8.out.x.free 12
  have f13 := T8.out.x.free 13
  simp only at k12 k13
  go_upto_region 11 with fail
  generalize (u8.setCell ⟨bx, 12, none⟩ (.int .i64 (nf : Int))).setCell ⟨bx, 13, none⟩ (.int .i64 (nt : Int)) = W9 at *
  clear T8 H8 k12 k13 f12 f13
  have TF : Hid (Tk w bp w.heap.size bx ⟨(n1 : Int), 3, (m1 : Int), (m2 : Int), (m3 : Int), ll, ByteArray.empty, 0, 0, 0, ByteArray.empty, ByteArray.empty, (nf : Int), (nt : Int)⟩ a5 c5 _ W9) := T9.out
  have TD := hide TF.out.done
  go_wp2_with (first | (refine wpList_load_row rfl 55 (.tmp 3) rfl bx rfl 55 (rcs ⟨(n1 : Int), 3, (m1 : Int), (m2 : Int), (m3 : Int), ll, ByteArray.empty, 0, 0, 0, ByteArray.empty, ByteArray.empty, (nf : Int), (nt : Int)⟩ a5 c5) (0, 0) _ TF.out.x Try.underlying55 rfl rec_info ?_) | (refine wpList_store_row rfl 55 (.tmp 2) (.tmp 46) rfl w.heap.size (rcs ⟨(n1 : Int), 3, (m1 : Int), (m2 : Int), (m3 : Int), ll, ByteArray.empty, 0, 0, 0, ByteArray.empty, ByteArray.empty, (nf : Int), (nt : Int)⟩ a5 c5) rfl rfl 55 (rcs Rc.zero none 0) TF.out.z rec_info rfl (rcs_one _ _ _) ?_))
  refine bodyPost_ret (res_rec rfl _ _ w.heap.size ⟨(n1 : Int), 3, (m1 : Int), (m2 : Int), (m3 : Int), ll, ByteArray.empty, 0, 0, 0, ByteArray.empty, ByteArray.empty, (nf : Int), (nt : Int)⟩ a5 c5 rfl TD.out.1) rfl ?_
  exact ⟨a5, ⟨c5, rfl⟩, TD.out.2.1, TD.out.2.2.1, TD.out.2.2.2⟩
set_option maxRecDepth 100000 in
set_option maxHeartbeats 16000000 in
theorem takenX (bp : Nat) (s : ByteArray) (w : World) (hR : RdC False w bp 131 s) (hs : s.size ≤ 1000000000000000) (hk : 3 < rN (rR s)) : Calls Try.prog 64 #[.pointer (some ⟨bp, 0, none⟩)] w fun e w' => ∃ a c, e = .returned (.agg (rcs (tkX s) a c)) ∧ LocsAt w' a (tkX s).ls ∧ (∀ b o, a = some ⟨b, o, none⟩ → w.heap.size ≤ b ∧ LocB w' b) ∧ Ba bp w w' := by
  have hbp := hR.lt
  have l1 := rR_size s
  have l2 := rR_size (rR s)
  have x1 : Hid (∀ W, RdC False W bp 131 s → Calls Try.prog 81 #[.pointer (some ⟨bp, 0, none⟩)] W fun r w' => r = .returned (.int .i64 (rN s : Nat)) ∧ RdC False w' bp 131 (rR s) ∧ But bp W w') := fun W h => rnum_c False bp _ W h (by omega) fun c => c.elim
  have x2 : Hid (∀ W, RdC False W bp 131 (rR s) → Calls Try.prog 81 #[.pointer (some ⟨bp, 0, none⟩)] W fun r w' => r = .returned (.int .i64 (rN (rR s) : Nat)) ∧ RdC False w' bp 131 (rR (rR s)) ∧ But bp W w') := fun W h => rnum_c False bp _ W h (by omega) fun c => c.elim
  unfold tkX
  dsimp only
  clear l1 l2
  have hk3 := hk
  generalize rR (rR s) = s2 at *
  generalize rN (rR s) = n2 at *
  generalize rR s = s1 at *
  generalize rN s = n1 at *
  have HP : Hid (∀ w, Calls Try.prog 49 #[.int .i64 (n2 : Int)] w fun r w' => r = .returned (.agg #[.bool false, .bool false, .bool false, .bool false]) ∧ Below w.heap.size w w') := fun w => by
    have q := partsOf_any (n2 : Int) w
    have e : prt (n2 : Int) = #[.bool false, .bool false, .bool false, .bool false] := by unfold prt; simp; omega
    rw [e] at q
    exact q
  have HZ1 : Hid (RBx w.heap.size 55 Rc.zero none 0 (w.alloc (.cells #[.int .i64 0, .int .i64 0, .int .i64 0, .int .i64 0, .int .i64 0, .slice none 0 0, .string { data := #[] }, .int .i64 0, .int .i64 0, .int .i64 0, .string { data := #[] }, .string { data := #[] }, .int .i64 0, .int .i64 0] 55))) := rbx_new 55 Rc.zero none 0 w
  have HR1 := hide (hR.below ((Below.refl _ _).alloc (Nat.le_refl _) (.cells #[.int .i64 0, .int .i64 0, .int .i64 0, .int .i64 0, .int .i64 0, .slice none 0 0, .string { data := #[] }, .int .i64 0, .int .i64 0, .int .i64 0, .string { data := #[] }, .string { data := #[] }, .int .i64 0, .int .i64 0] 55)))
  have HA1 := hide ((Ba.refl bp w).alloc (.cells #[.int .i64 0, .int .i64 0, .int .i64 0, .int .i64 0, .int .i64 0, .slice none 0 0, .string { data := #[] }, .int .i64 0, .int .i64 0, .int .i64 0, .string { data := #[] }, .string { data := #[] }, .int .i64 0, .int .i64 0] 55))
  have HS1 : Hid ((w.alloc (.cells #[.int .i64 0, .int .i64 0, .int .i64 0, .int .i64 0, .int .i64 0, .slice none 0 0, .string { data := #[] }, .int .i64 0, .int .i64 0, .int .i64 0, .string { data := #[] }, .string { data := #[] }, .int .i64 0, .int .i64 0] 55)).heap.size = w.heap.size + 1) := World.size_alloc _ _
  have hzp : w.heap.size ≠ bp := by omega
  clear hR hs hk
  go_enter Try.func64, Try.ntmps64
  go_upto_region 1 with fail
  generalize w.alloc (.cells #[.int .i64 0, .int .i64 0, .int .i64 0, .int .i64 0, .int .i64 0, .slice none 0 0, .string { data := #[] }, .int .i64 0, .int .i64 0, .int .i64 0, .string { data := #[] }, .string { data := #[] }, .int .i64 0, .int .i64 0] 55) = W1 at *
  go_wp2_with fail
  refine (x1.out W1 HR1.out).mono ?_
  rintro e u1 ⟨rfl, hr1, hb1⟩
  have R1 := hide hr1
  have B1 := hide hb1
  clear hr1 hb1
  go_wp2_with fail
  refine (x2.out u1 R1.out).mono ?_
  rintro e u2 ⟨rfl, hr1, hb1⟩
  have R2 := hide hr1
  have B2 := hide (B1.out.trans hb1)
  clear hr1 hb1 R1 B1
  have hsz : u2.heap.size = w.heap.size + 1 := by rw [B2.out.size, HS1.out]
  have Z2 := hide (HZ1.out.but B2.out hzp)
  have A2 := hide (HA1.out.trans B2.out.ba)
  have hal : Below u2.heap.size u2 (u2.alloc (.cells #[.int .i64 0, .int .i64 0, .int .i64 0, .int .i64 0, .int .i64 0, .slice none 0 0, .string { data := #[] }, .int .i64 0, .int .i64 0, .int .i64 0, .string { data := #[] }, .string { data := #[] }, .int .i64 0, .int .i64 0] 55)) := (Below.refl _ _).alloc (Nat.le_refl _) _
  have N3 : Hid (RBx u2.heap.size 55 Rc.zero none 0 (u2.alloc (.cells #[.int .i64 0, .int .i64 0, .int .i64 0, .int .i64 0, .int .i64 0, .slice none 0 0, .string { data := #[] }, .int .i64 0, .int .i64 0, .int .i64 0, .string { data := #[] }, .string { data := #[] }, .int .i64 0, .int .i64 0] 55))) := rbx_new 55 Rc.zero none 0 u2
  have hrow := below_setRow hal (Nat.le_refl _) (rcs ⟨(n1 : Int), (n2 : Int), 0, 0, 0, [], ByteArray.empty, 0, 0, 0, ByteArray.empty, ByteArray.empty, 0, 0⟩ none 0)
  have T3 : Hid (Tk w bp w.heap.size u2.heap.size ⟨(n1 : Int), (n2 : Int), 0, 0, 0, [], ByteArray.empty, 0, 0, 0, ByteArray.empty, ByteArray.empty, 0, 0⟩ none 0 s2 ((u2.alloc (.cells #[.int .i64 0, .int .i64 0, .int .i64 0, .int .i64 0, .int .i64 0, .slice none 0 0, .string { data := #[] }, .int .i64 0, .int .i64 0, .int .i64 0, .string { data := #[] }, .string { data := #[] }, .int .i64 0, .int .i64 0] 55)).setRow u2.heap.size (rcs ⟨(n1 : Int), (n2 : Int), 0, 0, 0, [], ByteArray.empty, 0, 0, 0, ByteArray.empty, ByteArray.empty, 0, 0⟩ none 0))) :=
    ⟨(hrow.block _ Z2.out.lt).trans Z2.out, N3.out.row _ _ _, R2.out.below hrow, A2.out.trans (ba_below hrow), Nat.le_refl _, by omega, by omega, hbp, .inl rfl, fun b o q => by cases q⟩
  clear HZ1 HR1 HA1 HS1 R2 B2 Z2 A2 hal hrow x1 x2 hsz
  go_wp2_with (first | (refine wpList_store_row rfl 55 (.tmp 3) (.tmp 9) rfl u2.heap.size (rcs ⟨(n1 : Int), (n2 : Int), 0, 0, 0, [], ByteArray.empty, 0, 0, 0, ByteArray.empty, ByteArray.empty, 0, 0⟩ none 0) rfl rfl 55 (rcs Rc.zero none 0) N3.out rec_info rfl (rcs_one _ _ _) ?_; generalize (u2.alloc (.cells #[.int .i64 0, .int .i64 0, .int .i64 0, .int .i64 0, .int .i64 0, .slice none 0 0, .string { data := #[] }, .int .i64 0, .int .i64 0, .int .i64 0, .string { data := #[] }, .string { data := #[] }, .int .i64 0, .int .i64 0] 55)).setRow u2.heap.size (rcs ⟨(n1 : Int), (n2 : Int), 0, 0, 0, [], ByteArray.empty, 0, 0, 0, ByteArray.empty, ByteArray.empty, 0, 0⟩ none 0) = W3 at *; generalize u2.heap.size = bx at *; have c1 := T3.out.x.c1; simp only at c1))
  refine (HP.out W3).mono ?_
  rintro e u4 ⟨rfl, hb4⟩
  have T4 := hide ((T3.out.other hb4).other ((Below.refl _ _).alloc (Nat.le_refl _) (.cells #[.bool false, .bool false, .bool false, .bool false] 94)))
  have H4 : Hid (HBx u4.heap.size false false false false (u4.alloc (.cells #[.bool false, .bool false, .bool false, .bool false] 94))) := heap_alloc_new _ _
  have hx0 : w.heap.size < u4.heap.size ∧ bx < u4.heap.size := ⟨Nat.lt_of_lt_of_le T3.out.z.lt hb4.size, Nat.lt_of_lt_of_le T3.out.x.lt hb4.size⟩
  clear hb4 T3 HP N3 c1
  go_upto_region 3 with fail
  generalize u4.alloc (.cells #[.bool false, .bool false, .bool false, .bool false] 94) = W4 at *
  generalize u4.heap.size = hx at *
  have hhp : hx ≠ bp := by have := T4.out.lt; omega
  obtain ⟨d0, d1, d2, d3⟩ := H4.out.cells
  have TF : Hid (Tk w bp w.heap.size bx ⟨(n1 : Int), (n2 : Int), 0, 0, 0, [], ByteArray.empty, 0, 0, 0, ByteArray.empty, ByteArray.empty, 0, 0⟩ none 0 _ W4) := T4.out
  have TD := hide TF.out.done
  go_wp2_with (first | (refine wpList_load_row rfl 55 (.tmp 3) rfl bx rfl 55 (rcs ⟨(n1 : Int), (n2 : Int), 0, 0, 0, [], ByteArray.empty, 0, 0, 0, ByteArray.empty, ByteArray.empty, 0, 0⟩ none 0) (0, 0) _ TF.out.x Try.underlying55 rfl rec_info ?_) | (refine wpList_store_row rfl 55 (.tmp 2) (.tmp 46) rfl w.heap.size (rcs ⟨(n1 : Int), (n2 : Int), 0, 0, 0, [], ByteArray.empty, 0, 0, 0, ByteArray.empty, ByteArray.empty, 0, 0⟩ none 0) rfl rfl 55 (rcs Rc.zero none 0) TF.out.z rec_info rfl (rcs_one _ _ _) ?_))
  refine bodyPost_ret (res_rec rfl _ _ w.heap.size ⟨(n1 : Int), (n2 : Int), 0, 0, 0, [], ByteArray.empty, 0, 0, 0, ByteArray.empty, ByteArray.empty, 0, 0⟩ none 0 rfl TD.out.1) rfl ?_
  exact ⟨none, ⟨0, rfl⟩, TD.out.2.1, TD.out.2.2.1, TD.out.2.2.2⟩
theorem taken_any (bp : Nat) (s : ByteArray) (w : World) (hR : RdC False w bp 131 s) (hs : s.size ≤ 1000000000000000) : Calls Try.prog 64 #[.pointer (some ⟨bp, 0, none⟩)] w fun e w' => ∃ a c, e = .returned (.agg (rcs (tkR s) a c)) ∧ LocsAt w' a (tkR s).ls ∧ (∀ b o, a = some ⟨b, o, none⟩ → w.heap.size ≤ b ∧ LocB w' b) ∧ Ba bp w w' := by
  unfold tkR
  by_cases h0 : rN (rR s) = 0
  · rw [if_pos h0]; exact taken0 bp s w hR hs h0
  rw [if_neg h0]
  by_cases h1 : rN (rR s) = 1
  · rw [if_pos h1]; exact taken1 bp s w hR hs h1
  rw [if_neg h1]
  by_cases h2 : rN (rR s) = 2
  · rw [if_pos h2]; exact taken2 bp s w hR hs h2
  rw [if_neg h2]
  by_cases h3 : rN (rR s) = 3
  · rw [if_pos h3]; exact taken3 bp s w hR hs h3
  rw [if_neg h3]
  exact takenX bp s w hR hs (by omega)
end Go.Proofs.Ytaiafbihcfbglaa
