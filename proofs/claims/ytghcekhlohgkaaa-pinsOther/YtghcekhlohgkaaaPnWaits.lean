/- What Waits of the pins answers. -/
import Derived.Test.YtghcekhlohgkaaaPnGrow
namespace Go.Proofs.Ytghcekhlohgkaaa
open Go.RowKit
set_option linter.unusedVariables false
set_option maxRecDepth 100000 in
set_option maxHeartbeats 8000000 in
theorem pn_waits {B : Nat} {P : Pn} {R : Int × Int → Nat} {L : List VD} {w : World} (h : PnAt B w P R L) (hls : ∀ x ∈ L, x.ls.length ≤ 8796093022208) (hL : L.length ≤ 1000000) : Calls Try.prog 19 #[.pointer (some ⟨P.pb, 0, none⟩)] w fun e w' => ∃ v, e = .returned v ∧ Gv B w w' v L ∧ Below w.heap.size w w' := by
  obtain ⟨av, cv, hv, hcv, hcm, hvos⟩ := h.row.form
  have c1 : w.cell? ⟨P.pb, 1, none⟩ = some (.slice av L.length cv) := by rw [← hv]; exact cell_of_block h.box
  have H := hide h
  have HVOS := hide hvos
  have HLS := hide hls
  have HBw : Hid (B ≤ w.heap.size) := by have := h.lpb; have := h.lt (.inl rfl); show _ ≤ _; omega
  have hzv := vol_zero
  obtain ⟨i0, hi0, hz0, hz1, hz2⟩ := info_parts vol_info
  have HI := hide hi0
  have HI0 := hide hz0
  have HI1 := hide hz1
  have HI2 := hide hz2
  clear h hv hvos hls hi0 hz0 hz1 hz2
  go_enter Try.func19, Try.ntmps19
  go_wp2_with fail
  go_loopw [3, 13] (fun v y wr => ∃ k : Nat, k ≤ L.length ∧ y = .int .i64 k ∧ Gv B w wr v (L.take k) ∧ Below w.heap.size w wr) (fun v y _ => L.length - (intOf y).toNat)
  case atStart => exact ⟨0, by omega, rfl, by simpa using Gv.nil B w w, Below.refl _ _⟩
  case round =>
    obtain ⟨k, hk, rfl, hg, hbl⟩ := hrel
    have HB := hide hbl
    have HG := hide hg
    clear hbl hg
    by_cases hlt : k < L.length
    · have hd : decide ((k : Int) < (L.length : Int)) = true := by simp; omega
      have hdi : (k : Int) < (L.length : Int) := by omega
      have hd0 : (0 : Int) ≤ (k : Int) := by omega
      obtain ⟨y, hy⟩ : ∃ y, L[k]? = some y := ⟨_, List.getElem?_eq_getElem hlt⟩
      obtain ⟨b1, o1, ya, yc, rfl, hbk, p1, q1⟩ := (HVOS.out.below HB.out).nth hy
      obtain ⟨d0, d1, d2, d3⟩ := p1
      simp only at d0 d1 d2 d3
      obtain ⟨yn, hyn⟩ : ∃ yn, y.ls.length = yn := ⟨_, rfl⟩
      rw [hyn] at d3
      have hba : Below wr.heap.size wr (wr.alloc (.cells #[.int .i64 y.id, .int .i64 y.gen, .int .i64 y.len, .slice ya yn yc] 33)) := (Below.refl _ _).alloc (Nat.le_refl _) _
      have HC := hide (copied_any y.id y.gen y.len ya yn yc y.ls _ hyn (by have := HLS.out y (List.mem_of_getElem? hy); omega) (q1.at.below hba))
      have HBA := hide (HB.out.trans (hba.mono HB.out.size))
      have HGA := hide (HG.out.below hba)
      have HTK : Hid (L.take (k + 1) = L.take k ++ [y]) := by unfold Hid; rw [List.take_add_one, hy]; rfl
      have HYN := hide hyn
      clear hy q1 hba hyn
      go_wp2_with fail
      refine HC.out.mono ?_
      rintro e W3 ⟨a', c', rfl, hlk, hb3⟩
      have hg3 := HGA.out.below hb3
      have hbw3 := HBA.out.trans (hb3.mono HBA.out.size)
      obtain ⟨vs, hv1, hv2, hv3⟩ := hg3.row
      have HV2 := hide hv2
      have HLV : Hid (vs.length = k) := by unfold Hid; rw [← List.length_map (f := Vo.d), hv1, List.length_take]; omega
      have HPUSH : Hid (∀ {o : Obj} {w1 : World} {v' : Value}, w1.ownsRow B 33 4 v' (vs.length + 1) (voV vs ++ voC ⟨y, a', c'⟩) → (W3.alloc o).grownBy w1 u3.ownBlock → (v'.ownBlock = u3.ownBlock ∨ v'.ownBlock = some (W3.alloc o).heap.size) → Gv B w w1 v' (L.take k ++ [y]) ∧ Below w.heap.size w w1) := fun h1 h2 h3 => by
        have := Gv.push HBw.out hbw3 hg3.new hv1 hv2 hv3 ⟨y, a', c'⟩ (hlk B) h1 h2 h3
        exact ⟨this.1, this.2.1⟩
      have hsz3 : B ≤ W3.heap.size := Nat.le_trans HBw.out hbw3.size
      clear hlk hb3 hg3 hbw3 hv1 hv2 hv3
      go_wp2_with (first | (at_builtin; refine wpList_append_own_at _ rfl (.tmp 17) (.tmp 20) 28 rfl B 33 i0 (.agg #[.int .i64 0, .int .i64 0, .int .i64 0, .slice none 0 0]) 4 48 Try.underlying28 HI.out HI0.out HI1.out HI2.out rfl (by decide) _ _ _ rfl (HV2.out.alloc _) ⟨W3.heap.size, 0, none⟩ 1 1 (voC ⟨y, a', c'⟩) rfl (by simp [voC]) (by have := cell_vol_new W3 ⟨y, a', c'⟩ 33; unfold voA at this; simp only [HYN.out] at this; exact this) (voC_one _) (by have := HLV.out; unfold maxLen; omega) (by have := HLV.out; omega) (by rw [World.size_alloc]; omega) ?_; intro v' w3 hown hgr hnil hat; clear hnil; have HN := hide (HPUSH.out hown hgr hat); clear hown hgr hat))
      all_goals exact ⟨⟨k + 1, by omega, by go_num, by rw [HTK.out]; exact HN.out.1, HN.out.2⟩, by simp [intOf]; omega⟩
    · have hd : decide ((k : Int) < (L.length : Int)) = false := by simp; omega
      have hkk : L.take k = L := List.take_of_length_le (by omega)
      rw [hkk] at HG
      go_wp2_with fail
      try go_ret
      exact ⟨_, rfl, HG.out, HB.out⟩
end Go.Proofs.Ytghcekhlohgkaaa
