/- What put of the document's model leaves. (Written by genyp.py.) -/
import Derived.Test.YtlpibpkbgmcclaaGreatDoorYdMemX
import Derived.BigQuiet
import Derived.Deep.QuietTactic
namespace Go.Proofs.YtlpibpkbgmcclaaGreatDoor
open Go.RowKit
set_option linter.unusedVariables false
theorem ky_info : (Tryz.prog.info? keyT).map (fun i => (i.zero, i.size, i.bytes)) = some (some (.agg #[.string ⟨#[]⟩, .string ⟨#[]⟩, .bool false]), 3, 40) := by kernel_rfl
theorem kyC_one (e : KyE) : ∀ u ∈ kyC e, u.oneCell' = true := by intro u hu; simp [kyC] at hu; rcases hu with rfl | rfl | rfl <;> rfl
theorem cell_ky_new (w : World) (e : KyE) (t : TypeId) : ∀ j u, (kyC e)[j]? = some u → (w.alloc (.cells #[.string e.1, .string e.2.v, .bool e.2.g] t)).cell? ((⟨w.heap.size, 0, none⟩ : Addr).add j) = some u := by
  intro j u hj
  rw [add_plain, cell_of_block (heap_alloc_new w (.cells #[.string e.1, .string e.2.v, .bool e.2.g] t)), Nat.zero_add]
  match j, hj with
  | 0, hj => exact hj
  | 1, hj => exact hj
  | 2, hj => exact hj
theorem bl_is2 (a b : ByteArray) : Op.bytesLess a.toList b.toList = decide (a.data.toList < b.data.toList) := by rw [bytesLess_eq, Lib.toList_data, Lib.toList_data]
/-- where a model's keys lie -/
theorem KyAt.open {w : World} {y : Nat} {R : List KyE} (h : KyAt w y R) : ∃ a c, R.length ≤ c ∧ (∀ W, Below w.heap.size w W → W.heap[y]? = some (.cells #[.slice a R.length c] 29 (0, 0))) ∧ ∀ j e, R[j]? = some e → ∃ g, a = some ⟨g, 0, none⟩ ∧ ∀ W, Below w.heap.size w W → W.cell? ⟨g, j * 3, none⟩ = some (.string e.1) ∧ W.cell? ⟨g, j * 3 + 1, none⟩ = some (.string e.2.v) ∧ W.cell? ⟨g, j * 3 + 2, none⟩ = some (.bool e.2.g) := by
  obtain ⟨v, h1, h2⟩ := h.ex
  rcases yrow_form h2 with ⟨rfl, h0⟩ | ⟨g, c, rfl, hc, _, hg, _⟩
  · refine ⟨none, 0, by omega, fun W hb => by rw [h0]; exact (hb.block _ (lt_of_block h1)).trans h1, fun j e he => ?_⟩
    have := (List.getElem?_eq_some_iff.1 he).1
    omega
  · refine ⟨_, c, hc, fun W hb => (hb.block _ (lt_of_block h1)).trans h1, fun j e he => ⟨g, rfl, fun W hb => ?_⟩⟩
    have k0 := yrow_cell h2 (kyV_at he 0 _ rfl)
    have k1 := yrow_cell h2 (kyV_at he 1 _ rfl)
    have k2 := yrow_cell h2 (kyV_at he 2 _ rfl)
    exact ⟨(hb.cell (p := ⟨g, _, none⟩) hg).trans k0, (hb.cell (p := ⟨g, _, none⟩) hg).trans k1, (hb.cell (p := ⟨g, _, none⟩) hg).trans k2⟩
/-- how far put has come -/
def PutR (R : List KyE) (k : ByteArray) (y : Hd) (j : Nat) (b : Bool) (L : List KyE) : Prop := if b = true then ins k y R = L ++ R.drop j else L = R.take j ∧ ins k y R = R.take j ++ ins k y (R.drop j)
theorem ins_cons (k : ByteArray) (y : Hd) (e : KyE) (R : List KyE) : ins k y (e :: R) = if k.data.toList < e.1.data.toList then (k, y) :: e :: R else e :: ins k y R := rfl
theorem put_start (R : List KyE) (k : ByteArray) (y : Hd) : PutR R k y 0 false [] := by unfold PutR; simp
theorem put_laid {R : List KyE} {k : ByteArray} {y : Hd} {j : Nat} {L : List KyE} {e : KyE} (h : PutR R k y j true L) (he : R[j]? = some e) : PutR R k y (j + 1) true (L ++ [e]) := by
  unfold PutR at h ⊢
  simp only [if_true] at h ⊢
  obtain ⟨hj, h1⟩ := List.getElem?_eq_some_iff.1 he
  rw [h, List.drop_eq_getElem_cons hj, h1, List.append_assoc]; rfl
theorem put_skip {R : List KyE} {k : ByteArray} {y : Hd} {j : Nat} {L : List KyE} {e : KyE} (h : PutR R k y j false L) (he : R[j]? = some e) (hk : ¬ k.data.toList < e.1.data.toList) : PutR R k y (j + 1) false (L ++ [e]) := by
  unfold PutR at h ⊢
  simp only [Bool.false_eq_true, if_false] at h ⊢
  obtain ⟨rfl, h2⟩ := h
  obtain ⟨hj, h1⟩ := List.getElem?_eq_some_iff.1 he
  have ht : R.take (j + 1) = R.take j ++ [e] := by rw [List.take_add_one, he]; rfl
  refine ⟨ht.symm, ?_⟩
  rw [h2, List.drop_eq_getElem_cons hj, h1, ht, List.append_assoc]
  congr 1
  rw [ins_cons, if_neg hk]; rfl
theorem put_here {R : List KyE} {k : ByteArray} {y : Hd} {j : Nat} {L : List KyE} {e : KyE} (h : PutR R k y j false L) (he : R[j]? = some e) (hk : k.data.toList < e.1.data.toList) : PutR R k y (j + 1) true (L ++ [(k, y)] ++ [e]) := by
  unfold PutR at h ⊢
  simp only [Bool.false_eq_true, if_false, if_true] at h ⊢
  obtain ⟨rfl, h2⟩ := h
  obtain ⟨hj, h1⟩ := List.getElem?_eq_some_iff.1 he
  rw [h2, List.drop_eq_getElem_cons hj, h1, List.append_assoc, List.append_assoc]
  congr 1
  rw [ins_cons, if_pos hk]; rfl
theorem put_end {R : List KyE} {k : ByteArray} {y : Hd} {L : List KyE} {n : Nat} (hn : R.length = n) {b : Bool} (h : PutR R k y n b L) : ins k y R = if b = true then L else L ++ [(k, y)] := by
  unfold PutR at h
  have hd : R.drop n = [] := List.drop_of_length_le (by omega)
  have ht : R.take n = R := List.take_of_length_le (by omega)
  rw [hd, ht] at h
  cases b with
  | true => simpa using h
  | false =>
    simp only [Bool.false_eq_true, if_false] at h ⊢
    rw [h.2, h.1]; rfl
theorem GeK.below {w0 W W' : World} {v : Value} {L : List KyE} (h : GeK w0 W v L) (hb : Below W.heap.size W W') : GeK w0 W' v L := ⟨own_below h.row hb, h.bel.trans (hb.mono h.bel.size)⟩
theorem yrow_slice {W : World} {B z n : Nat} {e : TypeId} {v : Value} {xs : List Value} (h : W.ownsRow B e z v n xs) : ∃ a c, v = .slice a n c := by
  rcases yrow_form h with ⟨rfl, rfl⟩ | ⟨g, c, rfl, _⟩
  · exact ⟨none, 0, rfl⟩
  · exact ⟨_, c, rfl⟩
/-- the new row is laid into the model -/
theorem ky_lay {w w1 W : World} {q : Nat} {a0 : Value} {v : Value} {L : List KyE} (hq : q < w.heap.size) (h1 : Below w.heap.size w w1) (hg : GeK w1 W v L) (hb : W.heap[q]? = some (.cells #[a0] 29 (0, 0))) : KyAt (W.setCell ⟨q, 0, none⟩ v) q L ∧ Bm q w (W.setCell ⟨q, 0, none⟩ v) := by
  have hs1 := h1.size
  have hbw : Below w.heap.size w W := h1.trans (hg.bel.mono hs1)
  refine ⟨⟨v, block_setCell (i := 0) v hb, own_mono2 (own_same hg.row fun g cur t fr hB hc => Below.heap_setCell _ _ _ _ (by show g ≠ q; omega)) (Nat.zero_le _)⟩, hbw.os, hbw.tape, hbw.output, by simpa using hbw.size, fun i hi hn => (Below.heap_setCell _ _ _ _ (by show i ≠ q; omega)).trans (hbw.block i hi)⟩
set_option maxRecDepth 100000 in
set_option maxHeartbeats 16000000 in
theorem yd_put {w : World} {q : Nat} {R : List KyE} (h : KyAt w q R) (hn : R.length ≤ 1000) (k : ByteArray) (y : Hd) (hk : ∀ e ∈ R, e.1 ≠ k) : Calls Tryz.prog 19 #[.pointer (some ⟨q, 0, none⟩), .agg #[.string k, .string y.v, .bool y.g]] w fun e w' => e = .returned (.tuple #[]) ∧ KyAt w' q (ins k y R) ∧ Bm q w w' := by
  obtain ⟨a, c, hc, hbox, hrow⟩ := h.open
  have hb1 : Below w.heap.size w (w.alloc (.cells #[.string k, .string y.v, .bool y.g] keyT)) := (Below.refl _ _).alloc (Nat.le_refl _) _
  have HB1 := hide hb1
  have HBX : Hid ((w.alloc (.cells #[.string k, .string y.v, .bool y.g] keyT)).heap[w.heap.size]? = some (.cells #[.string k, .string y.v, .bool y.g] keyT (0, 0))) := heap_alloc_new _ _
  have HQ := hide h.lt
  have HRW := hide hrow
  have HBO := hide hbox
  have HK := hide hk
  obtain ⟨m, hm⟩ : ∃ m, R.length = m := ⟨_, rfl⟩
  rw [hm] at hc hn
  have HBO : Hid (∀ W, Below w.heap.size w W → W.heap[q]? = some (.cells #[.slice a m c] 29 (0, 0))) := fun W hb => by rw [← hm]; exact hbox W hb
  have HM := hide hm
  obtain ⟨i0, hi0, hz0, hz1, hz2⟩ := info_parts ky_info
  have HI := hide hi0
  have HI0 := hide hz0
  have HI1 := hide hz1
  have HI2 := hide hz2
  have hcI : (m : Int) ≤ (c : Int) := by omega
  clear h hb1 hrow hbox hk hm hi0 hz0 hz1 hz2
  go_enter Tryz.func19, Tryz.ntmps19
  go_upto_region 1 with fail
  generalize hw1 : w.alloc (.cells #[.string k, .string y.v, .bool y.g] keyT) = w1 at *
  have HW1S : Hid (w1.heap.size = w.heap.size + 1) := by show _ = _; rw [← hw1, World.size_alloc]
  clear hw1
  have HBB : Hid (∀ W, Below w1.heap.size w1 W → Below w.heap.size w W ∧ W.cell? ⟨q, 0, none⟩ = some (.slice a m c) ∧ W.cell? ⟨w.heap.size, 0, none⟩ = some (.string k) ∧ W.cell? ⟨w.heap.size, 1, none⟩ = some (.string y.v) ∧ W.cell? ⟨w.heap.size, 2, none⟩ = some (.bool y.g)) := fun W hb => by
    have h1 := HB1.out.trans (hb.mono HB1.out.size)
    have h2 := (hb.block _ (lt_of_block HBX.out)).trans HBX.out
    exact ⟨h1, cell_of_block (HBO.out W h1), cell_of_block h2, cell_of_block h2, cell_of_block h2⟩
  go_wp2_with fail
  go_loopw [4, 5, 6] (fun v b z wr => ∃ (j : Nat) (bb : Bool) (L : List KyE), j ≤ m ∧ L.length ≤ j + 1 ∧ z = .int .i64 j ∧ b = .bool bb ∧ Hid (GeK w1 wr v L) ∧ PutR R k y j bb L) (fun v b z _ => m - (kIx2 z).toNat)
  case atStart => exact ⟨0, false, [], by omega, by simp, rfl, rfl, GeK.nil w1, put_start R k y⟩
  case round =>
    obtain ⟨j, bb, L, hj, hLl, rfl, rfl, HG, hput⟩ := hrel
    have HPR := hide hput
    have HLL := hide hLl
    obtain ⟨_, c0, x0, x1, x2⟩ := HBB.out _ HG.out.bel
    clear hput hLl
    by_cases hlt : j < m
    · have hd : decide ((j : Int) < (m : Int)) = true := by simp; omega
      have hdi : (j : Int) < (m : Int) := by omega
      have hd0 : (0 : Int) ≤ (j : Int) := by omega
      obtain ⟨e, he⟩ : ∃ e, R[j]? = some e := ⟨_, List.getElem?_eq_getElem (by have := HM.out; omega)⟩
      obtain ⟨g, rfl, hcell⟩ := HRW.out j e he
      have HCE := hide hcell
      have HE := hide he
      have hne := HK.out e (List.mem_of_getElem? he)
      obtain ⟨t0, t1, t2⟩ := HCE.out _ (HBB.out _ HG.out.bel).1
      clear hcell he
      cases bb with
      | true =>
        go_wp2_with fail
        go_quiet (fail)
        have HG2 := hide (HG.out.below (drawn_below (Below.refl _ _) nq))
        clear c0 x0 x1 x2 t0 t1 t2
        generalize wr.drewN nq = W at *
        obtain ⟨hbw, c0, x0, x1, x2⟩ := HBB.out _ HG2.out.bel
        obtain ⟨t0, t1, t2⟩ := HCE.out _ hbw
        clear hbw
        go_upto_region 5 with (first | (at_builtin; refine wpList_append_own_at _ rfl (.tmp 35) (.tmp 43) 27 rfl w1.heap.size keyT i0 (.agg #[.string ⟨#[]⟩, .string ⟨#[]⟩, .bool false]) 3 40 Tryz.underlying27 HI.out HI0.out HI1.out HI2.out rfl (by decide) _ _ _ rfl (HG2.out.row.alloc _) ⟨W.heap.size, 0, none⟩ 1 1 (kyC e) rfl (by simp [kyC]) (cell_ky_new W e keyT) (kyC_one _) (by have := HLL.out; unfold maxLen; omega) (by have := HLL.out; omega) (by rw [World.size_alloc]; have := HG2.out.bel.size; omega) ?_; intro v2 w4 hown hgr hnil hat; clear hnil hat; have HN2 := hide (HG2.out.push e hown hgr); clear hown hgr))
        go_wp2_with fail
        all_goals exact ⟨⟨j + 1, true, L ++ [e], by omega, by have := HLL.out; simp only [List.length_append, List.length_cons, List.length_nil] at this ⊢; omega, by go_num, rfl, HN2, put_laid HPR.out HE.out⟩, by simp [kIx2]; omega⟩
      | false =>
        have g2 := str_ne hne
        by_cases hgt : k.data.toList < e.1.data.toList
        · have g1 : Op.bytesLess e.1.toList k.toList = false := by rw [bl_is2]; simpa using List.le_of_lt hgt
          have HPN := hide (put_here HPR.out HE.out hgt)
          have HLJ : Hid (L = R.take j) := by have t := HPR.out; unfold PutR at t; simp only [Bool.false_eq_true, if_false] at t; exact t.1
          go_wp2_with fail
          go_quiet (fail)
          have HG2 := hide (HG.out.below (drawn_below (Below.refl _ _) nq))
          clear c0 x0 x1 x2 t0 t1 t2
          generalize wr.drewN nq = W at *
          obtain ⟨hbw, c0, x0, x1, x2⟩ := HBB.out _ HG2.out.bel
          obtain ⟨t0, t1, t2⟩ := HCE.out _ hbw
          clear hbw
          go_upto_region 8 with (first | (at_builtin; refine wpList_append_own_at _ rfl (.tmp 31) (.tmp 33) 27 rfl w1.heap.size keyT i0 (.agg #[.string ⟨#[]⟩, .string ⟨#[]⟩, .bool false]) 3 40 Tryz.underlying27 HI.out HI0.out HI1.out HI2.out rfl (by decide) _ _ _ rfl (HG2.out.row.alloc _) ⟨W.heap.size, 0, none⟩ 1 1 (kyC (k, y)) rfl (by simp [kyC]) (cell_ky_new W (k, y) keyT) (kyC_one _) (by have := HLL.out; unfold maxLen; omega) (by have := HLL.out; omega) (by rw [World.size_alloc]; have := HG2.out.bel.size; omega) ?_; intro v1 w3 hown hgr hnil hat; clear hnil hat; have HN := hide (HG2.out.push (k, y) hown hgr); clear hown hgr))
          have HL3 : Hid ((L ++ [(k, y)]).length ≤ j + 1) := by show _ ≤ _; rw [List.length_append, HLJ.out, List.length_take]; simp only [List.length_cons, List.length_nil]; omega
          clear c0 x0 x1 x2 t0 t1 t2
          obtain ⟨hbw, c0, x0, x1, x2⟩ := HBB.out _ HN.out.bel
          obtain ⟨t0, t1, t2⟩ := HCE.out _ hbw
          clear hbw
          go_upto_region 5 with (first | (at_builtin; refine wpList_append_own_at _ rfl (.tmp 35) (.tmp 43) 27 rfl w1.heap.size keyT i0 (.agg #[.string ⟨#[]⟩, .string ⟨#[]⟩, .bool false]) 3 40 Tryz.underlying27 HI.out HI0.out HI1.out HI2.out rfl (by decide) _ _ _ rfl (HN.out.row.alloc _) ⟨w3.heap.size, 0, none⟩ 1 1 (kyC e) rfl (by simp [kyC]) (cell_ky_new w3 e keyT) (kyC_one _) (by have := HL3.out; unfold maxLen; omega) (by have := HL3.out; omega) (by rw [World.size_alloc]; have := HN.out.bel.size; omega) ?_; intro v2 w4 hown hgr hnil hat; clear hnil hat; have HN2 := hide (HN.out.push e hown hgr); clear hown hgr))
          go_wp2_with fail
          all_goals exact ⟨⟨j + 1, true, L ++ [(k, y)] ++ [e], by omega, by have := HL3.out; simp only [List.length_append, List.length_cons, List.length_nil] at this ⊢; omega, by go_num, rfl, HN2, HPN.out⟩, by simp [kIx2]; omega⟩
        · have g1 : Op.bytesLess e.1.toList k.toList = true := by
            rw [bl_is2]
            by_cases z : e.1.data.toList < k.data.toList
            · simpa using z
            · exact absurd (ba_ext2 (List.le_antisymm (List.not_lt.1 hgt) (List.not_lt.1 z))) hne
          have HPN := hide (put_skip HPR.out HE.out hgt)
          go_wp2_with fail
          go_quiet (fail)
          have HG2 := hide (HG.out.below (drawn_below (Below.refl _ _) nq))
          clear c0 x0 x1 x2 t0 t1 t2
          generalize wr.drewN nq = W at *
          obtain ⟨hbw, c0, x0, x1, x2⟩ := HBB.out _ HG2.out.bel
          obtain ⟨t0, t1, t2⟩ := HCE.out _ hbw
          clear hbw
          go_upto_region 5 with (first | (at_builtin; refine wpList_append_own_at _ rfl (.tmp 35) (.tmp 43) 27 rfl w1.heap.size keyT i0 (.agg #[.string ⟨#[]⟩, .string ⟨#[]⟩, .bool false]) 3 40 Tryz.underlying27 HI.out HI0.out HI1.out HI2.out rfl (by decide) _ _ _ rfl (HG2.out.row.alloc _) ⟨W.heap.size, 0, none⟩ 1 1 (kyC e) rfl (by simp [kyC]) (cell_ky_new W e keyT) (kyC_one _) (by have := HLL.out; unfold maxLen; omega) (by have := HLL.out; omega) (by rw [World.size_alloc]; have := HG2.out.bel.size; omega) ?_; intro v2 w4 hown hgr hnil hat; clear hnil hat; have HN2 := hide (HG2.out.push e hown hgr); clear hown hgr))
          go_wp2_with fail
          all_goals exact ⟨⟨j + 1, false, L ++ [e], by omega, by have := HLL.out; simp only [List.length_append, List.length_cons, List.length_nil] at this ⊢; omega, by go_num, rfl, HN2, HPN.out⟩, by simp [kIx2]; omega⟩
    · have hd : decide ((j : Int) < (m : Int)) = false := by simp; omega
      have hjm : j = m := by omega
      subst hjm
      have hend := put_end HM.out HPR.out
      have f0 := fun W (hb : Below w1.heap.size w1 W) => free_of_block (i := 0) (HBO.out W (HBB.out W hb).1)
      have HF0 := hide f0
      clear f0
      cases bb with
      | true =>
        simp only [if_true] at hend
        obtain ⟨va, vc, rfl⟩ := yrow_slice HG.out.row
        have HEN := hide hend
        have f0 := HF0.out _ HG.out.bel
        have HLA := hide (ky_lay HQ.out HB1.out HG.out (HBO.out _ (HBB.out _ HG.out.bel).1))
        clear hend
        go_wp2_with fail
        try go_end0
        exact ⟨rfl, by rw [HEN.out]; exact HLA.out.1, HLA.out.2⟩
      | false =>
        simp only [Bool.false_eq_true, if_false] at hend
        have HEN := hide hend
        clear hend
        go_upto_region 12 with (first | (at_builtin; refine wpList_append_own_at _ rfl (.tmp 47) (.tmp 49) 27 rfl w1.heap.size keyT i0 (.agg #[.string ⟨#[]⟩, .string ⟨#[]⟩, .bool false]) 3 40 Tryz.underlying27 HI.out HI0.out HI1.out HI2.out rfl (by decide) _ _ _ rfl (HG.out.row.alloc _) ⟨wr.heap.size, 0, none⟩ 1 1 (kyC (k, y)) rfl (by simp [kyC]) (cell_ky_new wr (k, y) keyT) (kyC_one _) (by have := HLL.out; unfold maxLen; omega) (by have := HLL.out; omega) (by rw [World.size_alloc]; have := HG.out.bel.size; omega) ?_; intro v1 w3 hown hgr hnil hat; clear hnil hat; have HN := hide (HG.out.push (k, y) hown hgr); clear hown hgr))
        have hrw := HN.out.row
        rw [List.length_append] at hrw
        obtain ⟨va, vc, rfl⟩ := yrow_slice hrw
        have f0 := HF0.out _ HN.out.bel
        have HLA := hide (ky_lay HQ.out HB1.out HN.out (HBO.out _ (HBB.out _ HN.out.bel).1))
        clear c0 x0 x1 x2 hrw
        obtain ⟨_, c0, x0, x1, x2⟩ := HBB.out _ HN.out.bel
        go_wp2_with fail
        try go_end0
        exact ⟨rfl, by rw [HEN.out]; exact HLA.out.1, HLA.out.2⟩
end Go.Proofs.YtlpibpkbgmcclaaGreatDoor
