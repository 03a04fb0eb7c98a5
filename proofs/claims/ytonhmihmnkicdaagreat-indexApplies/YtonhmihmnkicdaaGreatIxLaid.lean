/- What law 13's own and owns answer: the same records, for the program. (Written by genxo.py.) What law 13's laid and put answer. -/
import Derived.Test.YtonhmihmnkicdaaGreatRpMem
import Derived.Test.YtonhmihmnkicdaaGreatRcLive
import Derived.Test.YtonhmihmnkicdaaGreatIxGet
namespace Go.Proofs.YtonhmihmnkicdaaGreat
open Go.RowKit
set_option linter.unusedVariables false
theorem rec13_full : (Tryz.prog.info? 43).map (fun i => (i.zero, i.size, i.bytes)) = some (some (.agg (rcs Rc.zero none 0)), 14, 152) := by kernel_rfl
theorem cell_rec13 (w : World) (x : RT) (t : TypeId) : ∀ j u, (rtC x).toList[j]? = some u → (w.alloc (.cells (rtC x) t)).cell? ((⟨w.heap.size, 0, none⟩ : Addr).add j) = some u := by
  intro j u hj
  rw [add_plain, cell_of_block (heap_alloc_new w (.cells (rtC x) t)), Nat.zero_add, ← Array.getElem?_toList]
  exact hj
theorem rtC13_one (x : RT) : ∀ u ∈ (rtC x).toList, u.oneCell' = true := by
  intro u hu
  simp [rtC, rcs] at hu
  rcases hu with rfl | rfl | rfl | rfl | rfl | rfl | rfl | rfl | rfl | rfl | rfl | rfl | rfl | rfl <;> rfl
theorem rt13_step {l : List RT} {k : Nat} {x : RT} (h : l[k]? = some x) : rtV (l.take (k + 1)) = rtV (l.take k) ++ (rtC x).toList := by rw [List.take_add_one, h]; exact rtV_snoc _ _
theorem fold13_14 (r : Rc) (a : Option Addr) (c : Nat) : Array.foldl (fun cs x => cs.setIfInBounds x.snd x.fst) #[.int .i64 0, .int .i64 0, .int .i64 0, .int .i64 0, .int .i64 0, .slice none 0 0, .string { data := #[] }, .int .i64 0, .int .i64 0, .int .i64 0, .string { data := #[] }, .string { data := #[] }, .int .i64 0, .int .i64 0] (rcs r a c).zipIdx 0 14 = rcs r a c := by simp [rcs]
theorem fold13 (r : Rc) (a : Option Addr) (c : Nat) : Array.foldl (fun cs x => cs.setIfInBounds x.snd x.fst) #[.int .i64 0, .int .i64 0, .int .i64 0, .int .i64 0, .int .i64 0, .slice none 0 0, .string { data := #[] }, .int .i64 0, .int .i64 0, .int .i64 0, .string { data := #[] }, .string { data := #[] }, .int .i64 0, .int .i64 0] (rcs r a c).zipIdx 0 (rcs r a c).size = rcs r a c := fold13_14 r a c
set_option maxRecDepth 100000 in
set_option maxHeartbeats 4000000 in
theorem own13_any (r : Rc) (a : Option Addr) (c : Nat) (w : World) : Calls Tryz.prog 9 #[.agg (rcs r a c)] w fun e w' => e = .returned (.agg (rcs r a c)) ∧ Below w.heap.size w w' := by
  have hal : Below w.heap.size w ((w.alloc (.cells (rcs r a c) 40)).alloc (.cells #[.int .i64 0, .int .i64 0, .int .i64 0, .int .i64 0, .int .i64 0, .slice none 0 0, .string { data := #[] }, .int .i64 0, .int .i64 0, .int .i64 0, .string { data := #[] }, .string { data := #[] }, .int .i64 0, .int .i64 0] 43)) := (((Below.refl _ _).alloc (Nat.le_refl _) _).alloc (by rw [World.size_alloc]; omega) _)
  have HB := hide hal
  have HR : Hid (RBx w.heap.size 40 r a c ((w.alloc (.cells (rcs r a c) 40)).alloc (.cells #[.int .i64 0, .int .i64 0, .int .i64 0, .int .i64 0, .int .i64 0, .slice none 0 0, .string { data := #[] }, .int .i64 0, .int .i64 0, .int .i64 0, .string { data := #[] }, .string { data := #[] }, .int .i64 0, .int .i64 0] 43))) := (rbx_new _ r a c w).below ((Below.refl _ _).alloc (Nat.le_refl _) _) (by rw [World.size_alloc]; omega)
  have HZ : Hid (RBx (w.heap.size + 1) 43 Rc.zero none 0 ((w.alloc (.cells (rcs r a c) 40)).alloc (.cells #[.int .i64 0, .int .i64 0, .int .i64 0, .int .i64 0, .int .i64 0, .slice none 0 0, .string { data := #[] }, .int .i64 0, .int .i64 0, .int .i64 0, .string { data := #[] }, .string { data := #[] }, .int .i64 0, .int .i64 0] 43))) := by
    have q := rbx_new 43 Rc.zero none 0 (w.alloc (.cells (rcs r a c) 40))
    rw [World.size_alloc] at q
    exact q
  clear hal
  go_enter Tryz.func9, Tryz.ntmps9
  go_upto_region 1 with fail
  generalize (w.alloc (.cells (rcs r a c) 40)).alloc (.cells #[.int .i64 0, .int .i64 0, .int .i64 0, .int .i64 0, .int .i64 0, .slice none 0 0, .string { data := #[] }, .int .i64 0, .int .i64 0, .int .i64 0, .string { data := #[] }, .string { data := #[] }, .int .i64 0, .int .i64 0] 43) = W at *
  obtain ⟨c0, c1, c2, c3, c4, c5, c6, c7, c8, c9, c10, c11, c12, c13⟩ := HR.out.cells
  go_wp2_with (first | (refine wpList_store_row rfl 43 (.tmp 2) (.tmp 17) rfl (w.heap.size + 1) (rcs r a c) rfl rfl 43 (rcs Rc.zero none 0) HZ.out rec_info rfl (rcs_one _ _ _) ?_))
  refine bodyPost_ret (res_rec rfl _ _ (w.heap.size + 1) r a c rfl (HZ.out.row _ _ _)) rfl ⟨rfl, below_setRow HB.out (by omega) _⟩
set_option maxRecDepth 100000 in
set_option maxHeartbeats 8000000 in
theorem owns13_any (a : Option Addr) (c n : Nat) (l : List RT) (w : World) (hl : l.length = n) (hn : n ≤ 100000) (h : RecsAt w a l) : Calls Tryz.prog 16 #[.slice a n c] w fun e w' => ∃ a' c', e = .returned (.slice a' n c') ∧ n ≤ c' ∧ RecsAt w' a' l ∧ Below w.heap.size w w' := by
  have HL := hide hl
  have HR := hide h
  obtain ⟨i0, hi, hz0, hz1, hz2⟩ := info_parts rec13_full
  have HI := hide hi
  have HI0 := hide hz0
  have HI1 := hide hz1
  have HI2 := hide hz2
  clear hl h hi hz0 hz1 hz2
  go_enter Tryz.func16, Tryz.ntmps16
  go_wp2_with fail
  go_loopw [3, 4] (fun x y wr => ∃ k : Nat, k ≤ n ∧ y = .int .i64 k ∧ GR w wr 43 14 x k (rtV (l.take k))) (fun _ y _ => n - (intOf y).toNat)
  case atStart => exact ⟨0, by omega, rfl, by simpa [rtV] using GR.nil w w 43 14 (Below.refl _ _)⟩
  case round =>
    obtain ⟨k, hk, rfl, hg⟩ := hrel
    have HG := hide hg
    clear hg
    by_cases hlt : k < n
    · have hd : decide ((k : Int) < (n : Int)) = true := by simp; omega
      have hdi : (k : Int) < (n : Int) := by omega
      have hd0 : (0 : Int) ≤ (k : Int) := by omega
      obtain ⟨⟨x, xa, xc⟩, hx⟩ : ∃ x, l[k]? = some x := ⟨_, List.getElem?_eq_getElem (by have := HL.out; omega)⟩
      obtain ⟨b1, o1, rfl, hb1, p1, q1⟩ := (HR.out.below HG.out.2).nth hx
      have HX := hide (rt13_step hx)
      have P1 := hide p1
      have hz14 : (rcs x xa xc).size = 14 := rfl
      clear hx p1 q1
      go_wp2_with (first | (refine wpList_load_mid rfl 40 (.tmp 14) rfl b1 (o1 + k * 14) rfl (rtC (x, xa, xc)).toList _ P1.out Tryz.underlying40 rfl ref_info ?_; rw [show (rtC (x, xa, xc)).toList.toArray = rcs x xa xc from rfl]))
      refine (own13_any x xa xc wr).mono ?_
      rintro e W1 ⟨rfl, hb⟩
      have G1 := hide (HG.out.below hb)
      clear hb HG
      go_wp2_with (first | (at_builtin; first | rw [fold13] | rw [fold13_14]; refine wpList_append_own _ rfl (.tmp 11) (.tmp 17) 54 rfl w.heap.size 43 i0 (.agg (rcs Rc.zero none 0)) 14 152 Tryz.underlying54 HI.out HI0.out HI1.out HI2.out rfl (by decide) u3 k (rtV (l.take k)) rfl (own_alloc G1.out.1 _) ⟨W1.heap.size, 0, none⟩ 1 1 (rtC (x, xa, xc)).toList rfl rfl (cell_rec13 W1 (x, xa, xc) 43) (rtC13_one _) (by unfold maxLen; omega) (by omega) (by rw [World.size_alloc]; have := G1.out.2.size; omega) ?_; intro v' w3 hown hgr hnil; clear hnil; have G3 := hide (G1.out.step hown hgr); clear hown hgr))
      rw [← HX.out] at G3
      exact ⟨⟨k + 1, by omega, by go_num, G3.out⟩, by simp [intOf]; omega⟩
    · have hd : decide ((k : Int) < (n : Int)) = false := by simp; omega
      have hdi : ¬ (k : Int) < (n : Int) := by omega
      have HT : Hid (l.take k = l) := List.take_of_length_le (by have := HL.out; omega)
      rw [HT.out] at HG
      obtain rfl : k = n := by omega
      have hgl := HG.out.1
      rw [← HL.out] at hgl
      obtain ⟨a', c', e1, hc', hrec⟩ := recs_own hgl (fun x hx => (HR.out.2 x hx).below HG.out.2)
      rw [HL.out] at e1 hc'
      have HF := hide hrec
      have HB := hide HG.out.2
      clear hgl hrec HG HT
      subst e1
      go_wp2_with fail
      try go_ret
      exact ⟨a', c', rfl, hc', HF.out, HB.out⟩
end Go.Proofs.YtonhmihmnkicdaaGreat
namespace Go.Proofs.YtonhmihmnkicdaaGreat
open Go.RowKit
set_option linter.unusedVariables false
def lsL : List (Int × Int) := [(0, 0), (1, 0), (2, 0), (3, 0), (4, 0), (5, 0), (6, 0), (7, 0), (8, 0)]
theorem lsL_step {k : Nat} (h : k < 9) : lsL.take (k + 1) = lsL.take k ++ [((k : Int), 0)] := by
  match k, h with
  | 0, _ => rfl
  | 1, _ => rfl
  | 2, _ => rfl
  | 3, _ => rfl
  | 4, _ => rfl
  | 5, _ => rfl
  | 6, _ => rfl
  | 7, _ => rfl
  | 8, _ => rfl
def lIx : Value → Int | .int _ q => q | _ => 0
set_option maxRecDepth 100000 in
set_option maxHeartbeats 8000000 in
theorem laid_any (id gen n : Int) (w : World) : Calls Tryz.prog 19 #[.int .i64 id, .int .i64 gen, .int .i64 n] w fun e w' => ∃ a c, e = .returned (.agg #[.int .i64 id, .int .i64 gen, .int .i64 n, .slice a 9 c]) ∧ (∀ B, LocsK B w' a lsL) ∧ Below w.heap.size w w' := by
  obtain ⟨i0, hi, hz0, hz1, hz2⟩ := info_parts loc_info
  have HI := hide hi
  have HI0 := hide hz0
  have HI1 := hide hz1
  have HI2 := hide hz2
  have hz := vol_zero
  clear hi hz0 hz1 hz2
  have hb2 : Below w.heap.size w ((w.alloc (.cells #[.int .i64 0, .int .i64 0, .int .i64 0, .slice none 0 0] 36)).alloc (.cells #[.int .i64 id, .int .i64 gen, .int .i64 n, .slice none 0 0] 36)) := ((Below.refl _ _).alloc (Nat.le_refl _) _).alloc (by rw [World.size_alloc]; omega) _
  have hk0 : ((w.alloc (.cells #[.int .i64 0, .int .i64 0, .int .i64 0, .slice none 0 0] 36)).alloc (.cells #[.int .i64 id, .int .i64 gen, .int .i64 n, .slice none 0 0] 36)).heap[w.heap.size]? = some (.cells #[.int .i64 0, .int .i64 0, .int .i64 0, .slice none 0 0] 36 (0, 0)) := (Below.heap_alloc _ _ _ (by rw [World.size_alloc]; omega)).trans (heap_alloc_new _ _)
  have hk1 : ((w.alloc (.cells #[.int .i64 0, .int .i64 0, .int .i64 0, .slice none 0 0] 36)).alloc (.cells #[.int .i64 id, .int .i64 gen, .int .i64 n, .slice none 0 0] 36)).heap[w.heap.size + 1]? = some (.cells #[.int .i64 id, .int .i64 gen, .int .i64 n, .slice none 0 0] 36 (0, 0)) := by
    have := heap_alloc_new (w.alloc (.cells #[.int .i64 0, .int .i64 0, .int .i64 0, .slice none 0 0] 36)) (.cells #[.int .i64 id, .int .i64 gen, .int .i64 n, .slice none 0 0] 36)
    rwa [World.size_alloc] at this
  have HS : Hid (w.heap.size + 2 ≤ ((w.alloc (.cells #[.int .i64 0, .int .i64 0, .int .i64 0, .slice none 0 0] 36)).alloc (.cells #[.int .i64 id, .int .i64 gen, .int .i64 n, .slice none 0 0] 36)).heap.size) := by unfold Hid; simp only [World.size_alloc]; omega
  have HB := hide hb2
  have HK0 := hide hk0
  have HK1 := hide hk1
  clear hb2 hk0 hk1
  go_enter Tryz.func19, Tryz.ntmps19
  go_upto_region 2 with fail
  generalize (w.alloc (.cells #[.int .i64 0, .int .i64 0, .int .i64 0, .slice none 0 0] 36)).alloc (.cells #[.int .i64 id, .int .i64 gen, .int .i64 n, .slice none 0 0] 36) = W2 at *
  go_wp2_with fail
  go_loopw [8] (fun y wr => ∃ (k : Nat) (v : Value), k ≤ 9 ∧ y = .int .i64 k ∧ wr.heap[w.heap.size]? = some (.cells #[.int .i64 0, .int .i64 0, .int .i64 0, .slice none 0 0] 36 (0, 0)) ∧ wr.heap[w.heap.size + 1]? = some (.cells #[.int .i64 id, .int .i64 gen, .int .i64 n, v] 36 (0, 0)) ∧ wr.ownsRow (w.heap.size + 2) 84 2 v k (lcV (lsL.take k)) ∧ Below w.heap.size w wr ∧ w.heap.size + 2 ≤ wr.heap.size) (fun y _ => 9 - (lIx y).toNat)
  case atStart => exact ⟨0, .slice none 0 0, by omega, rfl, HK0.out, HK1.out, World.ownsRow_nil _ _ _ _, HB.out, HS.out⟩
  case round =>
    obtain ⟨k, v, hk, rfl, h0, h1, hrow, hb, hsz⟩ := hrel
    have H0 := hide h0
    have H1 := hide h1
    have HR := hide hrow
    have HBr := hide hb
    by_cases hlt : k < 9
    · have hd : decide ((k : Int) < 9) = true := by simp; omega
      have c3 : wr.cell? ⟨w.heap.size + 1, 3, none⟩ = some v := cell_of_block h1
      have HT := hide (lsL_step hlt)
      have HSZ := hide hsz
      clear h0 h1 hrow hb hsz
      go_wp2_with (first | (at_builtin; refine wpList_append_own _ rfl (.tmp 18) (.tmp 21) 34 rfl (w.heap.size + 2) 84 i0 (.agg #[.int .i64 0, .int .i64 0]) 2 16 Tryz.underlying34 HI.out HI0.out HI1.out HI2.out rfl (by decide) v k (lcV (lsL.take k)) rfl (own_alloc HR.out _) ⟨wr.heap.size, 0, none⟩ 1 1 [.int .i64 (k : Int), .int .i64 0] rfl rfl (cell_two_new _ _ _ _) (by simp [Value.oneCell']) (by unfold maxLen; omega) (by omega) (by rw [World.size_alloc]; have := HSZ.out; omega) ?_; intro v' w3 hown hgr hnil; clear hnil; obtain ⟨ga, gc, rfl, hx1, hx2⟩ := own_slice hown; clear hx1 hx2; have hne : ∀ q, q < w.heap.size + 2 → w3.heap[q]? = wr.heap[q]? := (fun q hq => (hgr.block q (by rw [World.size_alloc]; have := HSZ.out; omega) (fun e => by have := (own_at HR.out e.symm).1; omega)).trans (Below.heap_alloc _ _ _ (by have := HSZ.out; omega))); have G0 := hide ((hne w.heap.size (by omega)).trans H0.out); have G1 := hide ((hne (w.heap.size + 1) (by omega)).trans H1.out); have f3 : w3.frozen? ⟨w.heap.size + 1, 3, none⟩ = false := free_of_block G1.out; have d3 : w3.cell? ⟨w.heap.size + 1, 3, none⟩ = some v := cell_of_block G1.out; have GO := hide hown; have GB : Hid (Below w.heap.size w w3) := ⟨hgr.os.trans HBr.out.os, hgr.tape.trans HBr.out.tape, hgr.output.trans HBr.out.output, by have := hgr.size; rw [World.size_alloc] at this; have := HBr.out.size; omega, fun q hq => (hne q (by omega)).trans (HBr.out.block q hq)⟩; have GZ : Hid (w.heap.size + 2 ≤ w3.heap.size) := (by have := hgr.size; rw [World.size_alloc] at this; have := HSZ.out; unfold Hid; omega); clear hown hgr hne c3))
      refine ⟨⟨k + 1, .slice ga (k + 1) gc, by omega, by go_num, ?_, ?_, ?_, ?_, ?_⟩, by simp [lIx]; omega⟩
      · exact (Below.heap_setCell _ _ _ _ (by show w.heap.size ≠ w.heap.size + 1; omega)).trans G0.out
      · exact block_setCell (c := #[.int .i64 id, .int .i64 gen, .int .i64 n, v]) (.slice ga (k + 1) gc) G1.out
      · rw [HT.out, lcV_snoc]
        exact row_keep GO.out fun q hq => Below.heap_setCell _ _ _ _ (by have := (own_at GO.out hq).1; show q ≠ w.heap.size + 1; omega)
      · exact GB.out.setCell (p := ⟨w.heap.size + 1, 3, none⟩) (by show w.heap.size ≤ w.heap.size + 1; omega) _
      · have := GZ.out; simp only [World.size_setCell]; omega
    · have hd : decide ((k : Int) < 9) = false := by simp; omega
      obtain rfl : k = 9 := by omega
      obtain ⟨a, c, rfl, _, _⟩ := own_slice hrow
      clear h0 h1 hrow hb hsz
      go_wp2_with (first | (refine wpList_load_row rfl 36 (.tmp 7) rfl (w.heap.size + 1) rfl 36 #[.int .i64 id, .int .i64 gen, .int .i64 n, .slice a 9 c] (0, 0) _ H1.out Tryz.underlying36 rfl vol_size4 ?_) | (refine wpList_store_row rfl 36 (.tmp 6) (.tmp 24) rfl w.heap.size #[.int .i64 id, .int .i64 gen, .int .i64 n, .slice a 9 c] rfl rfl 36 _ H0.out vol_size4 rfl (vol_one _ _ _ _ _ _) ?_))
      refine bodyPost_ret (res_vol rfl _ _ w.heap.size _ _ _ _ rfl (setRow_heap _ _ _ _ _ _ H0.out)) rfl ?_
      refine ⟨a, c, rfl, fun B => LocsK.own (B' := w.heap.size + 2) (c := c) (row_keep HR.out fun q hq => setRow_other _ _ _ _ (by have := (own_at HR.out hq).1; omega)), below_setRow HBr.out (Nat.le_refl _) _⟩
/-- the record that law 13's put answers -/
def digL : ByteArray := ⟨#[48, 49, 50, 51, 52, 53, 54, 55, 56, 57, 97, 98, 99, 100, 101, 102, 48, 49, 50, 51, 52, 53, 54, 55, 56, 57, 97, 98, 99, 100, 101, 102]⟩
def rPut (k : ByteArray) (id : Int) : Rc := ⟨0, 0, id, 0, 40, lsL, k, id, 0, 40, digL, ByteArray.empty, 0, 0⟩
set_option maxRecDepth 100000 in
set_option maxHeartbeats 8000000 in
theorem put_any (k : ByteArray) (id : Int) (w : World) : Calls Tryz.prog 18 #[.string k, .int .i64 id] w fun e w' => ∃ a c, e = .returned (.agg (rcs (rPut k id) a c)) ∧ (∀ B, LocsK B w' a lsL) ∧ Below w.heap.size w w' := by
  have hb1 : Below w.heap.size w (w.alloc (.cells #[.int .i64 0, .int .i64 0, .int .i64 0, .int .i64 0, .int .i64 0, .slice none 0 0, .string { data := #[] }, .int .i64 0, .int .i64 0, .int .i64 0, .string { data := #[] }, .string { data := #[] }, .int .i64 0, .int .i64 0] 43)) := (Below.refl _ _).alloc (Nat.le_refl _) _
  have HZ : Hid (RBx w.heap.size 43 Rc.zero none 0 (w.alloc (.cells #[.int .i64 0, .int .i64 0, .int .i64 0, .int .i64 0, .int .i64 0, .slice none 0 0, .string { data := #[] }, .int .i64 0, .int .i64 0, .int .i64 0, .string { data := #[] }, .string { data := #[] }, .int .i64 0, .int .i64 0] 43))) := rbx_new _ _ _ _ _
  have HB := hide hb1
  clear hb1
  go_enter Tryz.func18, Tryz.ntmps18
  go_upto_region 1 with fail
  generalize w.alloc (.cells #[.int .i64 0, .int .i64 0, .int .i64 0, .int .i64 0, .int .i64 0, .slice none 0 0, .string { data := #[] }, .int .i64 0, .int .i64 0, .int .i64 0, .string { data := #[] }, .string { data := #[] }, .int .i64 0, .int .i64 0] 43) = W1 at *
  go_wp2_with fail
  refine (laid_any id 0 40 W1).mono ?_
  rintro e w2 ⟨a, c, rfl, hl, hb⟩
  have HL := hide hl
  have HB2 := hide (HB.out.trans (hb.mono HB.out.size))
  have HZ2 := hide (HZ.out.below hb HZ.out.lt)
  clear hl hb
  go_wp2_with (first | (refine wpList_store_row rfl 43 (.tmp 4) (.tmp 10) rfl w.heap.size (rcs (rPut k id) a c) rfl rfl 43 (rcs Rc.zero none 0) HZ2.out rec_info rfl (rcs_one _ _ _) ?_))
  refine bodyPost_ret (res_rec rfl _ _ w.heap.size (rPut k id) a c rfl (HZ2.out.row _ _ _)) rfl ⟨a, c, rfl, fun B => ?_, below_setRow HB2.out (Nat.le_refl _) _⟩
  rcases HL.out B with q | ⟨b, o, h1, h2, h3, h4⟩
  · exact .inl q
  · have hne : b ≠ w.heap.size := fun e => by
      rcases HL.out 0 with q | ⟨b', o', h1', h2', h3', h4'⟩
      · simp [lsL] at q
      · rw [h1] at h1'; cases h1'
        rcases h3' with q | ⟨cur, fr, q⟩
        · omega
        · rw [e, show w2.heap[w.heap.size]? = _ from HZ2.out] at q; injection q with q; injection q with _ q; exact absurd q (by decide)
    have hbk : (w2.setRow w.heap.size (rcs (rPut k id) a c)).heap[b]? = w2.heap[b]? := setRow_other _ _ _ _ hne
    have hc : ∀ p, (w2.setRow w.heap.size (rcs (rPut k id) a c)).cell? ⟨b, p, none⟩ = w2.cell? ⟨b, p, none⟩ := fun p => by unfold World.cell?; rw [hbk]
    refine .inr ⟨b, o, h1, by rw [setRow_size]; exact h2, ?_, fun i x hx => ⟨(hc _).trans (h4 i x hx).1, (hc _).trans (h4 i x hx).2⟩⟩
    rcases h3 with q | ⟨cur, fr, q⟩
    · exact .inl q
    · exact .inr ⟨cur, fr, hbk.trans q⟩
end Go.Proofs.YtonhmihmnkicdaaGreat
