/- What the document's volume (read off a reader) answers. -/
import Derived.Test.YtaiafbihcfbglaaRcTkVol
namespace Go.Proofs.Ytaiafbihcfbglaa
open Go.RowKit
set_option linter.unusedVariables false
theorem row_set {w : World} {B bv o n : Nat} {v u x0 x1 x2 x3 : Value} {xs : List Value} (h : w.ownsRow B 92 2 v n xs) (hb : w.heap[bv]? = some (.cells #[x0, x1, x2, x3] 29 (0, 0))) : (w.setCell ⟨bv, o, none⟩ u).ownsRow B 92 2 v n xs := by
  obtain ⟨hl, ⟨rfl, e⟩ | ⟨g', cap, cur, rfl, hB, hg, q⟩⟩ := h
  · exact ⟨hl, .inl ⟨rfl, e⟩⟩
  · refine ⟨hl, .inr ⟨g', cap, cur, rfl, hB, (Below.heap_setCell _ _ _ _ ?_).trans hg, q⟩⟩
    show g' ≠ bv
    intro e
    rw [e, hb] at hg
    simp at hg
theorem Vb.s0 {w0 w : World} {bp bv : Nat} {i g n : Int} {v : Value} {ls : List (Int × Int)} (h : Vb w0 bp bv i g n v ls w) (x : Int) : Vb w0 bp bv x g n v ls (w.setCell ⟨bv, 0, none⟩ (.int .i64 x)) := ⟨block_setCell _ h.box, row_set h.row h.box, h.ba.set h.own _, h.own, h.rd⟩
theorem Vb.s1 {w0 w : World} {bp bv : Nat} {i g n : Int} {v : Value} {ls : List (Int × Int)} (h : Vb w0 bp bv i g n v ls w) (x : Int) : Vb w0 bp bv i x n v ls (w.setCell ⟨bv, 1, none⟩ (.int .i64 x)) := ⟨block_setCell _ h.box, row_set h.row h.box, h.ba.set h.own _, h.own, h.rd⟩
theorem Vb.s2 {w0 w : World} {bp bv : Nat} {i g n : Int} {v : Value} {ls : List (Int × Int)} (h : Vb w0 bp bv i g n v ls w) (x : Int) : Vb w0 bp bv i g x v ls (w.setCell ⟨bv, 2, none⟩ (.int .i64 x)) := ⟨block_setCell _ h.box, row_set h.row h.box, h.ba.set h.own _, h.own, h.rd⟩
theorem Vb.cells {w0 w : World} {bp bv : Nat} {i g n : Int} {v : Value} {ls : List (Int × Int)} (h : Vb w0 bp bv i g n v ls w) : (w.cell? ⟨bv, 0, none⟩ = some (.int .i64 i) ∧ w.cell? ⟨bv, 1, none⟩ = some (.int .i64 g) ∧ w.cell? ⟨bv, 2, none⟩ = some (.int .i64 n) ∧ w.cell? ⟨bv, 3, none⟩ = some v) ∧ ∀ o, w.frozen? ⟨bv, o, none⟩ = false :=
  ⟨⟨cell_of_block h.box, cell_of_block h.box, cell_of_block h.box, cell_of_block h.box⟩, fun o => free_of_block h.box⟩
/-- a store into a block of places' own -/
theorem Vb.loc {w0 w : World} {bp bv bl o : Nat} {i g n : Int} {v : Value} {ls : List (Int × Int)} (h : Vb w0 bp bv i g n v ls w) (h0 : w0.heap.size ≤ bl) (hv : bl ≠ bv) (hr : v.ownBlock ≠ some bl) (u : Value) : Vb w0 bp bv i g n v ls (w.setCell ⟨bl, o, none⟩ u) := by
  refine ⟨(Below.heap_setCell _ _ _ _ (by show bv ≠ bl; omega)).trans h.box, ?_, h.ba.set h0 _, h.own, h.rd⟩
  obtain ⟨hl, ⟨rfl, e⟩ | ⟨g', cap, cur, rfl, hB, hg, q⟩⟩ := h.row
  · exact ⟨hl, .inl ⟨rfl, e⟩⟩
  · refine ⟨hl, .inr ⟨g', cap, cur, rfl, hB, (Below.heap_setCell _ _ _ _ ?_).trans hg, q⟩⟩
    show g' ≠ bl
    intro e
    exact hr (by rw [e]; rfl)
theorem Vb.row_lt {w0 w : World} {bp bv bl : Nat} {i g n : Int} {v : Value} {ls : List (Int × Int)} (h : Vb w0 bp bv i g n v ls w) (hb : w.heap.size ≤ bl) : v.ownBlock ≠ some bl := fun e => by
  obtain ⟨_, _, cur, hc⟩ := h.ne e
  have := lt_of_block hc
  omega
set_option maxRecDepth 100000 in
set_option maxHeartbeats 16000000 in
theorem rvolume_any (C : Prop) (bp : Nat) (s : ByteArray) (w : World) (hR : RdC C w bp 84 s) (hs : s.size ≤ 1000000) (hC : C → clnV s) : Calls Try.prog 40 #[.pointer (some ⟨bp, 0, none⟩)] w fun e w' => ∃ a c, e = .returned (.agg (vlc (rN s : Nat) (rN (rR s) : Nat) (rN (rR (rR s)) : Nat) a 9 c)) ∧ LocsAt w' a (lcsT 9 (rR (rR (rR s)))) ∧ (∀ b o, a = some ⟨b, o, none⟩ → w.heap.size ≤ b ∧ LocB w' b) ∧ RdC C w' bp 84 (lcsR 9 (rR (rR (rR s)))) ∧ Ba bp w w' := by
  have hbp := hR.lt
  have l1 := rR_size s
  have l2 := rR_size (rR s)
  have l3 := rR_size (rR (rR s))
  have x1 : Hid (∀ W, RdC C W bp 84 s → Calls Try.prog 38 #[.pointer (some ⟨bp, 0, none⟩)] W fun r w' => r = .returned (.int .i64 (rN s : Nat)) ∧ RdC C w' bp 84 (rR s) ∧ But bp W w') := fun W h => qnum_c C bp _ W h (by omega) fun c => (hC c).1
  have x2 : Hid (∀ W, RdC C W bp 84 (rR s) → Calls Try.prog 38 #[.pointer (some ⟨bp, 0, none⟩)] W fun r w' => r = .returned (.int .i64 (rN (rR s) : Nat)) ∧ RdC C w' bp 84 (rR (rR s)) ∧ But bp W w') := fun W h => qnum_c C bp _ W h (by omega) fun c => (hC c).2.1
  have x3 : Hid (∀ W, RdC C W bp 84 (rR (rR s)) → Calls Try.prog 38 #[.pointer (some ⟨bp, 0, none⟩)] W fun r w' => r = .returned (.int .i64 (rN (rR (rR s)) : Nat)) ∧ RdC C w' bp 84 (rR (rR (rR s))) ∧ But bp W w') := fun W h => qnum_c C bp _ W h (by omega) fun c => (hC c).2.2.1
  have hcl : Hid (C → ∀ i, i < 9 → rE (lcsR i (rR (rR (rR s)))) = 0 ∧ rE (rR (lcsR i (rR (rR (rR s))))) = 0) := fun c => (hC c).2.2.2
  have hs3 : (rR (rR (rR s))).size ≤ 1000000 := by omega
  clear hC l1 l2 l3
  generalize rR (rR (rR s)) = s3 at *
  generalize rN (rR (rR s)) = n3 at *
  generalize rR (rR s) = s2 at *
  generalize rN (rR s) = n2 at *
  generalize rR s = s1 at *
  generalize rN s = n1 at *
  have hal : Below w.heap.size w ((w.alloc (.cells #[.int .i64 0, .int .i64 0, .int .i64 0, .slice none 0 0] 29)).alloc (.cells #[.int .i64 0, .int .i64 0, .int .i64 0, .slice none 0 0] 29)) := ((Below.refl _ _).alloc (Nat.le_refl _) _).alloc (by rw [World.size_alloc]; omega) _
  have Z1 : Hid (((w.alloc (.cells #[.int .i64 0, .int .i64 0, .int .i64 0, .slice none 0 0] 29)).alloc (.cells #[.int .i64 0, .int .i64 0, .int .i64 0, .slice none 0 0] 29)).heap[w.heap.size]? = some (.cells #[.int .i64 0, .int .i64 0, .int .i64 0, .slice none 0 0] 29 (0, 0))) := (Below.heap_alloc _ _ _ (by rw [World.size_alloc]; omega)).trans (heap_alloc_new _ _)
  have R1 := hide (hR.below hal)
  have V1 : Hid (Vb w bp (w.heap.size + 1) 0 0 0 (.slice none 0 0) [] ((w.alloc (.cells #[.int .i64 0, .int .i64 0, .int .i64 0, .slice none 0 0] 29)).alloc (.cells #[.int .i64 0, .int .i64 0, .int .i64 0, .slice none 0 0] 29))) := by
    refine ⟨?_, World.ownsRow_nil _ _ _ _, ba_below hal, by omega, hbp⟩
    have q := heap_alloc_new (w.alloc (.cells #[.int .i64 0, .int .i64 0, .int .i64 0, .slice none 0 0] 29)) (.cells #[.int .i64 0, .int .i64 0, .int .i64 0, .slice none 0 0] 29)
    rw [World.size_alloc] at q
    exact q
  have hzp : w.heap.size ≠ bp := by omega
  have hvp : bp ≠ w.heap.size + 1 := by omega
  have hzv : w.heap.size ≠ w.heap.size + 1 := by omega
  obtain ⟨iL, hiL, hL0, hL1, hL2⟩ := info_parts loc_info
  have HIL := hide hiL
  have HL0 := hide hL0
  have HL1 := hide hL1
  have HL2 := hide hL2
  clear hR hs hiL hL0 hL1 hL2 hal
  go_enter Try.func40, Try.ntmps40
  go_upto_region 2 with fail
  generalize (w.alloc (.cells #[.int .i64 0, .int .i64 0, .int .i64 0, .slice none 0 0] 29)).alloc (.cells #[.int .i64 0, .int .i64 0, .int .i64 0, .slice none 0 0] 29) = W1 at *
  go_wp2_with fail
  refine (x1.out W1 R1.out).mono ?_
  rintro e t1 ⟨rfl, hr, hb⟩
  have Va := hide (V1.out.keep hb.ba)
  have Ra := hide hr
  have Za := hide ((hb.block w.heap.size hzp).trans Z1.out)
  clear hr hb
  obtain ⟨⟨g0, g1, g2, g3⟩, gf⟩ := Va.out.cells
  have f1 := gf 0
  clear gf
  have V2 := hide (Va.out.s0 (n1 : Int))
  have R2 := hide (Ra.out.away (o := 0) hvp (.int .i64 (n1 : Int)))
  have Z2 : Hid ((t1.setCell ⟨w.heap.size + 1, 0, none⟩ (.int .i64 (n1 : Int))).heap[w.heap.size]? = some (.cells #[.int .i64 0, .int .i64 0, .int .i64 0, .slice none 0 0] 29 (0, 0))) := (Below.heap_setCell _ _ _ _ hzv).trans Za.out
  clear Va Ra Za
  go_upto_region 3 with fail
  generalize t1.setCell ⟨w.heap.size + 1, 0, none⟩ (.int .i64 (n1 : Int)) = T1 at *
  clear g0 g1 g2 g3 f1
  go_wp2_with fail
  refine (x2.out T1 R2.out).mono ?_
  rintro e t2 ⟨rfl, hr, hb⟩
  have Va := hide (V2.out.keep hb.ba)
  have Ra := hide hr
  have Za := hide ((hb.block w.heap.size hzp).trans Z2.out)
  clear hr hb
  obtain ⟨⟨g0, g1, g2, g3⟩, gf⟩ := Va.out.cells
  have f2 := gf 1
  clear gf
  have V3 := hide (Va.out.s1 (n2 : Int))
  have R3 := hide (Ra.out.away (o := 1) hvp (.int .i64 (n2 : Int)))
  have Z3 : Hid ((t2.setCell ⟨w.heap.size + 1, 1, none⟩ (.int .i64 (n2 : Int))).heap[w.heap.size]? = some (.cells #[.int .i64 0, .int .i64 0, .int .i64 0, .slice none 0 0] 29 (0, 0))) := (Below.heap_setCell _ _ _ _ hzv).trans Za.out
  clear Va Ra Za
  go_upto_region 4 with fail
  generalize t2.setCell ⟨w.heap.size + 1, 1, none⟩ (.int .i64 (n2 : Int)) = T2 at *
  clear g0 g1 g2 g3 f2
  go_wp2_with fail
  refine (x3.out T2 R3.out).mono ?_
  rintro e t3 ⟨rfl, hr, hb⟩
  have Va := hide (V3.out.keep hb.ba)
  have Ra := hide hr
  have Za := hide ((hb.block w.heap.size hzp).trans Z3.out)
  clear hr hb
  obtain ⟨⟨g0, g1, g2, g3⟩, gf⟩ := Va.out.cells
  have f3 := gf 2
  clear gf
  have V4 := hide (Va.out.s2 (n3 : Int))
  have R4 := hide (Ra.out.away (o := 2) hvp (.int .i64 (n3 : Int)))
  have Z4 : Hid ((t3.setCell ⟨w.heap.size + 1, 2, none⟩ (.int .i64 (n3 : Int))).heap[w.heap.size]? = some (.cells #[.int .i64 0, .int .i64 0, .int .i64 0, .slice none 0 0] 29 (0, 0))) := (Below.heap_setCell _ _ _ _ hzv).trans Za.out
  clear Va Ra Za
  go_upto_region 5 with fail
  generalize t3.setCell ⟨w.heap.size + 1, 2, none⟩ (.int .i64 (n3 : Int)) = T3 at *
  clear g0 g1 g2 g3 f3
  go_wp2_with fail
  go_loopw [4] (fun y wr => ∃ (k : Nat) (v : Value), k ≤ 9 ∧ y = .int .i64 k ∧ Vb w bp (w.heap.size + 1) (n1 : Int) (n2 : Int) (n3 : Int) v (lcsT k s3) wr ∧ RdC C wr bp 84 (lcsR k s3) ∧ wr.heap[w.heap.size]? = some (.cells #[.int .i64 0, .int .i64 0, .int .i64 0, .slice none 0 0] 29 (0, 0))) (fun y _ => 9 - (intOf y).toNat)
  case atStart => exact ⟨0, _, by omega, rfl, V4.out, R4.out, Z4.out⟩
  case round =>
    obtain ⟨k, v, hk, rfl, hv, hr, hz⟩ := hrel
    clear V4 R4 Z4 x1 x2 x3
    have HLS : Hid ((lcsT k s3).length = k) := lcsT_len k s3
    obtain ⟨av, cap, rfl, hcap⟩ := own_form hv.row
    rw [HLS.out] at hv
    have V0 := hide hv
    have R0 := hide hr
    have Z0 := hide hz
    clear hv hr hz hcap
    by_cases hlt : k < 9
    · have hd : decide ((k : Int) < 9) = true := by simp; omega
      have hdi : (k : Int) < 9 := by omega
      have hz1 := lcsR_size k s3
      have hz2 := rR_size (lcsR k s3)
      have HA : Hid (∀ W, RdC C W bp 84 (lcsR k s3) → Calls Try.prog 38 #[.pointer (some ⟨bp, 0, none⟩)] W fun r w' => r = .returned (.int .i64 (rN (lcsR k s3) : Nat)) ∧ RdC C w' bp 84 (rR (lcsR k s3)) ∧ But bp W w') := fun W h => qnum_c C bp _ W h (by omega) fun c => (hcl.out c k hlt).1
      have HC : Hid (∀ W, RdC C W bp 84 (rR (lcsR k s3)) → Calls Try.prog 38 #[.pointer (some ⟨bp, 0, none⟩)] W fun r w' => r = .returned (.int .i64 (rN (rR (lcsR k s3)) : Nat)) ∧ RdC C w' bp 84 (rR (rR (lcsR k s3))) ∧ But bp W w') := fun W h => qnum_c C bp _ W h (by omega) fun c => (hcl.out c k hlt).2
      have HT : Hid (lcsT (k + 1) s3 = lcsT k s3 ++ [(((rN (lcsR k s3) : Nat) : Int), ((rN (rR (lcsR k s3)) : Nat) : Int))]) := rfl
      have HS3 : Hid (lcsR (k + 1) s3 = rR (rR (lcsR k s3))) := rfl
      clear hz1 hz2
      generalize rR (rR (lcsR k s3)) = S2 at *
      generalize rN (rR (lcsR k s3)) = nb at *
      generalize rR (lcsR k s3) = S1 at *
      generalize rN (lcsR k s3) = na at *
      generalize lcsT k s3 = ls at *
      generalize lcsR k s3 = S0 at *
      have hal : Below wr.heap.size wr (wr.alloc (.cells #[.int .i64 0, .int .i64 0] 92)) := (Below.refl _ _).alloc (Nat.le_refl _) _
      have hbz := V0.out.ba.size
      have hgt : w.heap.size + 1 < wr.heap.size := lt_of_block V0.out.box
      have V1 := hide (V0.out.keep (ba_below hal))
      have R1 := hide (R0.out.below hal)
      have Z1 := hide ((hal.block w.heap.size (lt_of_block Z0.out)).trans Z0.out)
      have HRW : Hid ((Value.slice av k cap).ownBlock ≠ some wr.heap.size) := V0.out.row_lt (Nat.le_refl _)
      have L1 : Hid ((wr.alloc (.cells #[.int .i64 0, .int .i64 0] 92)).heap[wr.heap.size]? = some (.cells #[.int .i64 0, .int .i64 0] 92 (0, 0))) := heap_alloc_new _ _
      clear hal V0 R0 Z0
      go_upto_region 9 with fail
      generalize wr.alloc (.cells #[.int .i64 0, .int .i64 0] 92) = W1 at *
      generalize wr.heap.size = bl at *
      have hlp : bl ≠ bp := by have := V1.out.rd; omega
      go_wp2_with fail
      refine (HA.out W1 R1.out).mono ?_
      rintro e ta ⟨rfl, hr, hb⟩
      have Va := hide (V1.out.keep hb.ba)
      have Ra := hide hr
      have Za := hide ((hb.block w.heap.size hzp).trans Z1.out)
      have La := hide ((hb.block bl hlp).trans L1.out)
      clear hr hb V1 R1 Z1 L1
      have g0 : ta.cell? ⟨bl, 0, none⟩ = some (.int .i64 0) := cell_of_block La.out
      have gf : ta.frozen? ⟨bl, 0, none⟩ = false := free_of_block La.out
      have V2 := hide (Va.out.loc (o := 0) (bl := bl) (by omega) (by omega) HRW.out (.int .i64 (na : Int)))
      have R2 := hide (Ra.out.away (o := 0) (c := bl) (by omega) (.int .i64 (na : Int)))
      have Z2 : Hid ((ta.setCell ⟨bl, 0, none⟩ (.int .i64 (na : Int))).heap[w.heap.size]? = some (.cells #[.int .i64 0, .int .i64 0, .int .i64 0, .slice none 0 0] 29 (0, 0))) := (Below.heap_setCell _ _ _ _ (by show w.heap.size ≠ bl; omega)).trans Za.out
      have L2 : Hid ((ta.setCell ⟨bl, 0, none⟩ (.int .i64 (na : Int))).heap[bl]? = some (.cells #[.int .i64 (na : Int), .int .i64 0] 92 (0, 0))) := block_setCell _ La.out
      clear Va Ra Za La
      go_upto_region 10 with fail
      generalize ta.setCell ⟨bl, 0, none⟩ (.int .i64 (na : Int)) = W2 at *
      clear g0 gf
      go_wp2_with fail
      refine (HC.out W2 R2.out).mono ?_
      rintro e tb ⟨rfl, hr, hb⟩
      have Va := hide (V2.out.keep hb.ba)
      have Ra := hide hr
      have Za := hide ((hb.block w.heap.size hzp).trans Z2.out)
      have La := hide ((hb.block bl hlp).trans L2.out)
      clear hr hb V2 R2 Z2 L2
      have g0 : tb.cell? ⟨bl, 1, none⟩ = some (.int .i64 0) := cell_of_block La.out
      have gf : tb.frozen? ⟨bl, 1, none⟩ = false := free_of_block La.out
      have V3 := hide (Va.out.loc (o := 1) (bl := bl) (by omega) (by omega) HRW.out (.int .i64 (nb : Int)))
      have R3 := hide (Ra.out.away (o := 1) (c := bl) (by omega) (.int .i64 (nb : Int)))
      have Z3 : Hid ((tb.setCell ⟨bl, 1, none⟩ (.int .i64 (nb : Int))).heap[w.heap.size]? = some (.cells #[.int .i64 0, .int .i64 0, .int .i64 0, .slice none 0 0] 29 (0, 0))) := (Below.heap_setCell _ _ _ _ (by show w.heap.size ≠ bl; omega)).trans Za.out
      have L3 : Hid ((tb.setCell ⟨bl, 1, none⟩ (.int .i64 (nb : Int))).heap[bl]? = some (.cells #[.int .i64 (na : Int), .int .i64 (nb : Int)] 92 (0, 0))) := block_setCell _ La.out
      clear Va Ra Za La
      go_upto_region 11 with fail
      generalize tb.setCell ⟨bl, 1, none⟩ (.int .i64 (nb : Int)) = W3 at *
      clear g0 gf
      have cv : W3.cell? ⟨w.heap.size + 1, 3, none⟩ = some (.slice av k cap) := V3.out.cells.1.2.2.2
      have cl0 : W3.cell? ⟨bl, 0, none⟩ = some (.int .i64 (na : Int)) := cell_of_block L3.out
      have cl1 : W3.cell? ⟨bl, 1, none⟩ = some (.int .i64 (nb : Int)) := cell_of_block L3.out
      have hw3 := V3.out.ba.size
      go_wp2_with (first | (at_builtin; refine wpList_append_own _ rfl (.tmp 28) (.tmp 30) 27 rfl w.heap.size 92 iL (.agg #[.int .i64 0, .int .i64 0]) 2 16 Try.underlying27 HIL.out HL0.out HL1.out HL2.out rfl (by decide) (.slice av k cap) k (lcV ls) rfl (by have q := V3.out.row; rw [HLS.out] at q; exact own_alloc q _) ⟨W3.heap.size, 0, none⟩ 1 1 [.int .i64 (na : Int), .int .i64 (nb : Int)] rfl rfl (cell_two_new _ _ _ _) (by simp [Value.oneCell']) (by unfold maxLen; omega) (by omega) (by rw [World.size_alloc]; omega) ?_; intro v' w3 hown hgr hnil; obtain ⟨a', c', rfl, _⟩ := own_form hown; obtain ⟨hbx, hba, hkp, hrd⟩ := V3.out.mid hgr; have cst : w3.cell? ⟨w.heap.size + 1, 3, none⟩ = some (.slice av k cap) := cell_of_block hbx; have fst : w3.frozen? ⟨w.heap.size + 1, 3, none⟩ = false := free_of_block hbx; have V9 := hide (V3.out.step (x := (na : Int)) (y := (nb : Int)) (by rw [HLS.out]; exact hown) hgr); have R9 : Hid (RdC C (w3.setCell ⟨w.heap.size + 1, 3, none⟩ (.slice a' (k + 1) c')) bp 84 S2) := (R3.out.keep hrd).away hvp _; have Z9 : Hid ((w3.setCell ⟨w.heap.size + 1, 3, none⟩ (.slice a' (k + 1) c')).heap[w.heap.size]? = some (.cells #[.int .i64 0, .int .i64 0, .int .i64 0, .slice none 0 0] 29 (0, 0))) := (Below.heap_setCell _ _ _ _ hzv).trans ((hkp w.heap.size (lt_of_block Z3.out) (fun cur q => by rw [Z3.out] at q; simp at q)).trans Z3.out); clear hown hgr hbx hba hkp hrd hnil))
      exact ⟨⟨k + 1, _, by omega, by go_num, by rw [HT.out]; exact V9.out, by rw [HS3.out]; exact R9.out, Z9.out⟩, by simp [intOf]; omega⟩
    · have hd : decide ((k : Int) < 9) = false := by simp; omega
      have hdi : ¬ (k : Int) < 9 := by omega
      obtain rfl : k = 9 := by omega
      obtain ⟨a9, c9, e9, hl9, hge⟩ := V0.out.locs
      rw [HLS.out] at e9
      simp at e9
      obtain ⟨rfl, rfl⟩ := e9
      have HL9 := hide hl9
      have HG9 := hide hge
      clear hl9 hge
      have hb9 := V0.out.box
      have v0 : wr.cell? ⟨w.heap.size + 1, 0, none⟩ = some (.int .i64 (n1 : Int)) := cell_of_block hb9
      have v1 : wr.cell? ⟨w.heap.size + 1, 1, none⟩ = some (.int .i64 (n2 : Int)) := cell_of_block hb9
      have v2 : wr.cell? ⟨w.heap.size + 1, 2, none⟩ = some (.int .i64 (n3 : Int)) := cell_of_block hb9
      have v3 : wr.cell? ⟨w.heap.size + 1, 3, none⟩ = some (.slice av 9 cap) := cell_of_block hb9
      have RES : Hid ((wr.setRow w.heap.size (vlc (n1 : Int) (n2 : Int) (n3 : Int) av 9 cap)).heap[w.heap.size]? = some (.cells (vlc (n1 : Int) (n2 : Int) (n3 : Int) av 9 cap) 29 (0, 0))) := setRow_heap wr _ _ _ _ _ Z0.out
      have hbw := below_setRow (Below.refl w.heap.size wr) (Nat.le_refl _) (vlc (n1 : Int) (n2 : Int) (n3 : Int) av 9 cap)
      have R9 : Hid (RdC C (wr.setRow w.heap.size (vlc (n1 : Int) (n2 : Int) (n3 : Int) av 9 cap)) bp 84 (lcsR 9 s3)) := R0.out.keep (hbw.block bp hbp)
      have A9 : Hid (Ba bp w (wr.setRow w.heap.size (vlc (n1 : Int) (n2 : Int) (n3 : Int) av 9 cap))) := V0.out.ba.row (Nat.le_refl _) _
      have HL10 : Hid (LocsAt (wr.setRow w.heap.size (vlc (n1 : Int) (n2 : Int) (n3 : Int) av 9 cap)) av (lcsT 9 s3)) := by
        rcases HL9.out with h | ⟨b1, o1, ha, hlt1, hc⟩
        · exact .inl h
        · have hne : b1 ≠ w.heap.size := fun e => by
            have q := (V0.out.ne (k := b1) (by rw [ha]; rfl))
            obtain ⟨_, _, cur, hcur⟩ := q
            rw [e, Z0.out] at hcur
            simp at hcur
          have hbl : (wr.setRow w.heap.size (vlc (n1 : Int) (n2 : Int) (n3 : Int) av 9 cap)).heap[b1]? = wr.heap[b1]? := setRow_other _ _ _ _ hne
          exact .inr ⟨b1, o1, ha, Nat.lt_of_lt_of_le hlt1 hbw.size, fun i x hx => ⟨(World.cell?_of_block (a := ⟨b1, o1 + i * 2, none⟩) hbl).trans (hc i x hx).1, (World.cell?_of_block (a := ⟨b1, o1 + i * 2 + 1, none⟩) hbl).trans (hc i x hx).2⟩⟩
      have HG10 : Hid (∀ b o, av = some ⟨b, o, none⟩ → w.heap.size ≤ b ∧ LocB (wr.setRow w.heap.size (vlc (n1 : Int) (n2 : Int) (n3 : Int) av 9 cap)) b) := fun b o q => by
        obtain ⟨_, h2, cur, hcur⟩ := V0.out.ne (k := b) (by rw [q]; rfl)
        refine ⟨h2, cur, (setRow_other _ _ _ _ fun e => ?_).trans hcur⟩
        rw [e, Z0.out] at hcur
        simp at hcur
      clear hb9 hbw
      go_wp2_with (first | (refine wpList_store_row rfl 29 (.tmp 2) (.tmp 33) rfl w.heap.size (vlc (n1 : Int) (n2 : Int) (n3 : Int) av 9 cap) rfl rfl 29 #[.int .i64 0, .int .i64 0, .int .i64 0, .slice none 0 0] Z0.out vol_info rfl (by simp [vlc, Value.oneCell']) ?_))
      refine bodyPost_ret (results_cell_row rfl _ _ w.heap.size 29 (vlc (n1 : Int) (n2 : Int) (n3 : Int) av 9 cap) (0, 0) _ rfl RES.out Try.underlying29 rfl vol_info) rfl ⟨av, ⟨cap, rfl⟩, HL10.out, HG10.out, R9.out, A9.out⟩
end Go.Proofs.Ytaiafbihcfbglaa
