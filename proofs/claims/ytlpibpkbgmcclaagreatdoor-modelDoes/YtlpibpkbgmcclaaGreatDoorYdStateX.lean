/- What list of the document's model answers. (Written by genyl.py.) What State of the document's model tells. -/
import Derived.Test.YtlpibpkbgmcclaaGreatDoorYdPut
import Derived.Test.YtlpibpkbgmcclaaGreatDoorShHexX
namespace Go.Proofs.YtlpibpkbgmcclaaGreatDoor
open Go.RowKit
set_option linter.unusedVariables false
def kyS (L : List ByteArray) : List Value := L.map Value.string
/-- a row of texts, new since w0 -/
structure GeS (w0 wr : World) (v : Value) (L : List ByteArray) : Prop where
  row : wr.ownsRow w0.heap.size 9 1 v L.length (kyS L)
  bel : Below w0.heap.size w0 wr
theorem GeS.nil (w0 : World) : GeS w0 w0 (.slice none 0 0) [] := ⟨World.ownsRow_nil _ _ _ _, Below.refl _ _⟩
theorem GeS.push {w0 W : World} {v : Value} {L : List ByteArray} (h : GeS w0 W v L) (k : ByteArray) {o : Obj} {w1 : World} {v' : Value} (hown : w1.ownsRow w0.heap.size 9 1 v' (L.length + 1) (kyS L ++ [.string k])) (hgr : (W.alloc o).grownBy w1 v.ownBlock) : GeS w0 w1 v' (L ++ [k]) := by
  refine ⟨by rw [show kyS (L ++ [k]) = kyS L ++ [.string k] by simp [kyS], List.length_append]; exact hown, hgr.os.trans h.bel.os, hgr.tape.trans h.bel.tape, hgr.output.trans h.bel.output, Nat.le_trans h.bel.size (by have := hgr.size; rw [World.size_alloc] at this; omega), fun k hk => ?_⟩
  refine (hgr.block k (by rw [World.size_alloc]; have := h.bel.size; omega) fun q => ?_).trans ((Below.heap_alloc _ _ _ (by have := h.bel.size; omega)).trans (h.bel.block k hk))
  rcases yrow_form h.row with ⟨rfl, _⟩ | ⟨g, c, rfl, _, hB, _⟩
  · cases q
  · have : some g = some k := q.symm
    cases this
    omega
theorem GeS.strs {w0 W : World} {L : List ByteArray} {v : Value} (h : GeS w0 W v L) : ∃ a c, v = .slice a L.length c ∧ L.length ≤ c ∧ StrsAt W a L ∧ (a = none → c = 0) ∧ ∀ p, a = some p → w0.heap.size ≤ p.block := by
  have hr := h.row
  rcases yrow_form hr with ⟨rfl, h0⟩ | ⟨g, c, rfl, hc, hB, hg, _⟩
  · exact ⟨none, 0, by rw [h0], by omega, .inl (List.eq_nil_of_length_eq_zero h0), fun _ => rfl, fun p hp => by cases hp⟩
  · refine ⟨_, c, rfl, hc, .inr ⟨g, 0, rfl, hg, fun i s hs => ?_⟩, (fun e => by cases e), fun p hp => by cases hp; exact hB⟩
    rw [Nat.zero_add]
    refine yrow_cell hr ?_
    unfold kyS
    rw [List.getElem?_map, hs]; rfl
theorem cell_s_new (w : World) (v : Value) (t : TypeId) : ∀ j u, [v][j]? = some u → (w.alloc (.cells #[v] t)).cell? ((⟨w.heap.size, 0, none⟩ : Addr).add j) = some u := by
  intro j u hj
  match j, hj with
  | 0, hj =>
    rw [add_plain, cell_of_block (heap_alloc_new w (.cells #[v] t)), Nat.zero_add]
    exact hj
theorem s_info : (Tryz.prog.info? 9).map (fun i => (i.zero, i.size, i.bytes)) = some (some (.string ⟨#[]⟩), 1, 16) := by kernel_rfl
theorem lsK_app (fr : ByteArray) (R S : List KyE) : lsK fr (R ++ S) = lsK fr R ++ lsK fr S := by unfold lsK; rw [List.filter_append, List.map_append]
theorem lsK_step (fr : ByteArray) {R : List KyE} {j : Nat} {e : KyE} (he : R[j]? = some e) : lsK fr (R.take (j + 1)) = lsK fr (R.take j) ++ if lsB fr e = true then [e.1] else [] := by
  rw [List.take_add_one, he]; exact lsK_snoc fr _ e
theorem lsK_len (fr : ByteArray) (R : List KyE) (j : Nat) : (lsK fr (R.take j)).length ≤ j := by
  unfold lsK
  rw [List.length_map]
  have := List.length_filter_le (lsB fr) (R.take j)
  rw [List.length_take] at this
  omega
theorem lsK_end (fr : ByteArray) (R : List KyE) (j : Nat) (h : R.length ≤ j ∨ 16 ≤ (lsK fr (R.take j)).length) (h16 : (lsK fr (R.take j)).length ≤ 16) : lsK fr (R.take j) = (lsK fr R).take 16 := by
  have hR : lsK fr R = lsK fr (R.take j) ++ lsK fr (R.drop j) := by rw [← lsK_app, List.take_append_drop]
  rcases h with h | h
  · rw [List.take_of_length_le h] at h16 ⊢
    rw [List.take_of_length_le h16]
  · rw [hR, List.take_append_of_le_length h, List.take_of_length_le h16]
structure LsP (R : List KyE) (fr : ByteArray) (w : World) (e : Ending) (w' : World) : Prop where
  ex : ∃ a c L, e = .returned (.slice a L.length c) ∧ L.length ≤ c ∧ L.length ≤ 16 ∧ StrsAt w' a L ∧ L = (lsK fr R).take 16 ∧ (a = none → c = 0) ∧ ∀ p, a = some p → w.heap.size ≤ p.block
  b : Below w.heap.size w w'
set_option maxRecDepth 100000 in
set_option maxHeartbeats 16000000 in
theorem yd_list {w : World} {q : Nat} {R : List KyE} (h : KyAt w q R) (hn : R.length ≤ 1000) (fr : ByteArray) : Calls Tryz.prog 17 #[.pointer (some ⟨q, 0, none⟩), .string fr] w (LsP R fr w) := by
  obtain ⟨a, c, hc, hbox, hrow⟩ := h.open
  have HRW := hide hrow
  obtain ⟨m, hm⟩ : ∃ m, R.length = m := ⟨_, rfl⟩
  rw [hm] at hc hn
  have HBO : Hid (∀ W, Below w.heap.size w W → W.cell? ⟨q, 0, none⟩ = some (.slice a m c)) := fun W hb => by rw [← hm]; exact cell_of_block (hbox W hb)
  have HM := hide hm
  obtain ⟨i0, hi0, hz0, hz1, hz2⟩ := info_parts s_info
  have HI := hide hi0
  have HI0 := hide hz0
  have HI1 := hide hz1
  have HI2 := hide hz2
  have hcI : (m : Int) ≤ (c : Int) := by omega
  clear h hbox hrow hm hi0 hz0 hz1 hz2
  go_enter Tryz.func17, Tryz.ntmps17
  go_wp2_with fail
  go_loopw [5, 6] (fun v z wr => ∃ (j : Nat), j ≤ m ∧ z = .int .i64 j ∧ Hid (GeS w wr v (lsK fr (R.take j))) ∧ (lsK fr (R.take j)).length ≤ 16) (fun v z _ => m - (kIx2 z).toNat)
  case atStart => exact ⟨0, by omega, rfl, GeS.nil w, by simp [lsK]⟩
  case round =>
    obtain ⟨j, hj, rfl, HG, h16⟩ := hrel
    have c0 := HBO.out _ HG.out.bel
    obtain ⟨va, vc, rfl, hvc, hst, hvn, hvf⟩ := HG.out.strs
    have HST := hide hst
    have HVN := hide hvn
    have HVF := hide hvf
    have HVC := hide hvc
    clear hst hvn hvf
    have HL16 := hide h16
    have HEN := hide (lsK_end fr R j)
    have HSTEP := hide (fun e => lsK_step fr (R := R) (j := j) (e := e))
    generalize hLK : lsK fr (R.take j) = LK at *
    have HLK := hide hLK
    have HLEN := hide (lsK_len fr R j)
    rw [hLK] at HLEN
    clear hLK
    by_cases hlt : j < m
    · have hd : decide ((j : Int) < (m : Int)) = true := by simp; omega
      have hdi : (j : Int) < (m : Int) := by omega
      have hd0 : (0 : Int) ≤ (j : Int) := by omega
      by_cases h15 : LK.length < 16
      · have hd2 : decide ((LK.length : Int) < 16) = true := by simp; omega
        have hd3 : (LK.length : Int) < 16 := by omega
        obtain ⟨⟨ek, ev, eg⟩, he⟩ : ∃ e, R[j]? = some e := ⟨_, List.getElem?_eq_getElem (by have := HM.out; omega)⟩
        obtain ⟨g, rfl, hcell⟩ := HRW.out j _ he
        have HCE := hide hcell
        have HS2 := hide (HSTEP.out _ he)
        obtain ⟨t0, t1, t2⟩ := HCE.out _ HG.out.bel
        simp only at t0 t1 t2
        clear hcell he
        cases eg with
        | true =>
          have HS3 : Hid (lsK fr (R.take (j + 1)) = LK) := by have t := HS2.out; rw [if_neg (by unfold lsB; simp), List.append_nil] at t; exact t
          go_wp2_with fail
          all_goals exact ⟨⟨j + 1, by omega, by go_num, by rw [HS3.out]; exact HG, by rw [HS3.out]; exact HL16.out⟩, by simp [kIx2]; omega⟩
        | false =>
          by_cases hlt2 : ek.data.toList < fr.data.toList
          · have g1 : Op.bytesLess ek.toList fr.toList = true := by rw [bl_is2]; simpa using hlt2
            have HS3 : Hid (lsK fr (R.take (j + 1)) = LK) := by have t := HS2.out; rw [if_neg (by unfold lsB; simpa using hlt2), List.append_nil] at t; exact t
            clear hlt2
            go_wp2_with fail
            all_goals exact ⟨⟨j + 1, by omega, by go_num, by rw [HS3.out]; exact HG, by rw [HS3.out]; exact HL16.out⟩, by simp [kIx2]; omega⟩
          · have g1 : Op.bytesLess ek.toList fr.toList = false := by rw [bl_is2]; simpa using hlt2
            have HS3 : Hid (lsK fr (R.take (j + 1)) = LK ++ [ek]) := by have t := HS2.out; rw [if_pos (by unfold lsB; simpa using hlt2)] at t; exact t
            clear hlt2
            go_wp2_with (first | (at_builtin; refine wpList_append_own_at _ rfl (.tmp 42) (.tmp 51) 35 rfl w.heap.size 9 i0 (.string ⟨#[]⟩) 1 16 Tryz.underlying35 HI.out HI0.out HI1.out HI2.out rfl (by decide) _ _ _ rfl (HG.out.row.alloc _) ⟨wr.heap.size, 0, none⟩ 1 1 [.string ek] rfl rfl (cell_s_new wr (.string ek) 9) (by simp [Value.oneCell']) (by unfold maxLen; omega) (by omega) (by rw [World.size_alloc]; have := HG.out.bel.size; omega) ?_; intro v' w3 hown hgr hnil hat; clear hnil hat; have HN := hide (HG.out.push ek hown hgr); clear hown hgr))
            all_goals exact ⟨⟨j + 1, by omega, by go_num, by rw [HS3.out]; exact HN, by rw [HS3.out, List.length_append]; simp only [List.length_cons, List.length_nil]; omega⟩, by simp [kIx2]; omega⟩
      · have hd2 : decide ((LK.length : Int) < 16) = false := by simp; omega
        have HE2 := hide (HEN.out (.inr (by omega)) HL16.out)
        go_wp2_with fail
        try go_ret
        exact ⟨⟨va, vc, LK, rfl, HVC.out, HL16.out, HST.out, HE2.out, HVN.out, HVF.out⟩, HG.out.bel⟩
    · have hd : decide ((j : Int) < (m : Int)) = false := by simp; omega
      have HE2 := hide (HEN.out (.inl (by have := HM.out; omega)) HL16.out)
      go_wp2_with fail
      try go_ret
      exact ⟨⟨va, vc, LK, rfl, HVC.out, HL16.out, HST.out, HE2.out, HVN.out, HVF.out⟩, HG.out.bel⟩
end Go.Proofs.YtlpibpkbgmcclaaGreatDoor
namespace Go.Proofs.YtlpibpkbgmcclaaGreatDoor
open Go.RowKit
set_option linter.unusedVariables false
theorem cat1 (a b : ByteArray) (h : a.size + b.size ≤ 1000000) : ∀ wx, (Op.stringOp .add a b).run Tryz.prog wx = .ok (.string (a ++ b)) wx := fun wx => run_string_add_sum wx _ _ (by omega)
set_option maxRecDepth 100000 in
set_option maxHeartbeats 16000000 in
theorem yd_state {w : World} {q : Nat} {R : List KyE} {T : MT} (h : KyAt w q R) (hr : Rl R T) (hT : T.Ok) (hn : R.length ≤ 1000) : Calls Tryz.prog 11 #[.pointer (some ⟨q, 0, none⟩)] w fun e w' => ∃ s, e = .returned (.string s) ∧ StIs T s ∧ Below w.heap.size w w' := by
  obtain ⟨a, c, hc, hbox, hrow⟩ := h.open
  have HRW := hide hrow
  have HRL := hide hr
  have HOK := hide hT
  obtain ⟨m, hm⟩ : ∃ m, R.length = m := ⟨_, rfl⟩
  rw [hm] at hc hn
  have HBO : Hid (∀ W, Below w.heap.size w W → W.cell? ⟨q, 0, none⟩ = some (.slice a m c)) := fun W hb => by rw [← hm]; exact cell_of_block (hbox W hb)
  have HM := hide hm
  have hcI : (m : Int) ≤ (c : Int) := by omega
  clear h hbox hrow hm hr hT
  go_enter Tryz.func11, Tryz.ntmps11
  go_wp2_with fail
  go_loopw [3, 4] (fun v z wr => ∃ (j : Nat) (s : ByteArray), j ≤ m ∧ z = .int .i64 j ∧ v = .string s ∧ s = sts T ((R.map (·.1)).take j) ∧ Below w.heap.size w wr) (fun v z _ => m - (kIx2 z).toNat)
  case atStart => exact ⟨0, ⟨#[]⟩, by omega, rfl, rfl, rfl, Below.refl _ _⟩
  case round =>
    obtain ⟨j, s, hj, rfl, rfl, hs, hb⟩ := hrel
    have HB := hide hb
    have HS := hide hs
    have hsz : s.size ≤ 834000 := by
      rw [hs]
      have := sts_size HOK.out ((R.map (·.1)).take j)
      rw [List.length_take, List.length_map, HM.out] at this
      omega
    have c0 := HBO.out _ hb
    clear hs hb
    by_cases hlt : j < m
    · have hd : decide ((j : Int) < (m : Int)) = true := by simp; omega
      have hdi : (j : Int) < (m : Int) := by omega
      have hd0 : (0 : Int) ≤ (j : Int) := by omega
      obtain ⟨⟨ek, ev, eg⟩, he⟩ : ∃ e, R[j]? = some e := ⟨_, List.getElem?_eq_getElem (by have := HM.out; omega)⟩
      obtain ⟨g, rfl, hcell⟩ := HRW.out j _ he
      have HCE := hide hcell
      have hTe := HRL.out.at he
      simp only at hTe
      have hok := HOK.out _ _ hTe
      have hek := hok.1.2.1
      have hev : ev.size ≤ 400 := hok.2
      have hst : sts T ((R.map (·.1)).take (j + 1)) = s ++ enS T ek := by
        rw [HS.out, ← sts_snoc, List.take_add_one, List.getElem?_map, he]; rfl
      have HST := hide hst
      have HTE := hide hTe
      obtain ⟨t0, t1, t2⟩ := HCE.out _ HB.out
      simp only at t0 t1 t2
      clear hcell he hTe hok hst
      obtain ⟨P1, hP1⟩ : ∃ P1, s ++ ek = P1 := ⟨_, rfl⟩
      have p1 := cat1 s ek (by omega)
      rw [hP1] at p1
      have hp1 : P1.size ≤ 834032 := by rw [← hP1, ByteArray.size_append]; omega
      cases eg with
      | true =>
        obtain ⟨P2, hP2⟩ : ∃ P2, P1 ++ (⟨#[33, 32]⟩ : ByteArray) = P2 := ⟨_, rfl⟩
        have p2 := cat1 P1 ⟨#[33, 32]⟩ (by have : (⟨#[33, 32]⟩ : ByteArray).size = 2 := rfl; omega)
        rw [hP2] at p2
        have HN : Hid (P2 = sts T ((R.map (·.1)).take (j + 1))) := by
          show _ = _
          rw [HST.out, ← hP2, ← hP1, ByteArray.append_assoc]
          unfold enS; rw [HTE.out]; rfl
        clear hP1 hP2 hp1 hsz hek hev
        go_wp2_with fail
        all_goals exact ⟨⟨j + 1, P2, by omega, by go_num, rfl, HN.out, HB.out⟩, by simp [kIx2]; omega⟩
      | false =>
        have hxz := hexS_size ev
        have r0 := fun n => Calls.quiet_of (refHex_any ev (wr.drewN n) (by omega))
        obtain ⟨X, hX2⟩ : ∃ X, mkS (2 * ev.size) (hx (bt ev)) = X := ⟨_, rfl⟩
        have hX : hexS ev = X := hX2
        rw [hX] at hxz
        rw [hX2] at r0
        obtain ⟨P2, hP2⟩ : ∃ P2, P1 ++ (⟨#[61]⟩ : ByteArray) = P2 := ⟨_, rfl⟩
        have p2 := cat1 P1 ⟨#[61]⟩ (by have : (⟨#[61]⟩ : ByteArray).size = 1 := rfl; omega)
        rw [hP2] at p2
        have hp2 : P2.size ≤ 834033 := by rw [← hP2, ByteArray.size_append]; have : (⟨#[61]⟩ : ByteArray).size = 1 := rfl; omega
        obtain ⟨P3, hP3⟩ : ∃ P3, P2 ++ X = P3 := ⟨_, rfl⟩
        have p3 := cat1 P2 X (by omega)
        rw [hP3] at p3
        have hp3 : P3.size ≤ 834833 := by rw [← hP3, ByteArray.size_append]; omega
        obtain ⟨P4, hP4⟩ : ∃ P4, P3 ++ (⟨#[32]⟩ : ByteArray) = P4 := ⟨_, rfl⟩
        have p4 := cat1 P3 ⟨#[32]⟩ (by have : (⟨#[32]⟩ : ByteArray).size = 1 := rfl; omega)
        rw [hP4] at p4
        have HN : Hid (P4 = sts T ((R.map (·.1)).take (j + 1))) := by
          show _ = _
          rw [HST.out, ← hP4, ← hP3, ← hP2, ← hP1]
          unfold enS; rw [HTE.out]
          show _ = s ++ (ek ++ (⟨#[61]⟩ ++ hexS ev ++ ⟨#[32]⟩))
          rw [hX]
          simp only [ByteArray.append_assoc]
        have HDQ := hide (fun n => drawn_below (Below.refl wr.heap.size wr) n)
        clear hP1 hP2 hP3 hP4 hp1 hp2 hp3 hsz hek hev hxz hX hX2
        go_wp2_with fail
        go_quiet (first | (with_reducible exact r0 _))
        have HBN := hide (HB.out.trans ((HDQ.out nq).mono HB.out.size))
        go_wp2_with fail
        all_goals exact ⟨⟨j + 1, P4, by omega, by go_num, rfl, HN.out, HBN.out⟩, by simp [kIx2]; omega⟩
    · have hd : decide ((j : Int) < (m : Int)) = false := by simp; omega
      have hkk : (R.map (·.1)).take j = R.map (·.1) := List.take_of_length_le (by rw [List.length_map]; have := HM.out; omega)
      have HF : Hid (StIs T s) := by rw [HS.out, hkk]; exact HRL.out.sts
      clear hkk
      go_wp2_with fail
      try go_ret
      exact ⟨s, rfl, HF.out, HB.out⟩
end Go.Proofs.YtlpibpkbgmcclaaGreatDoor
