/- The document's without and lay. (Written by genkl.py.) The document's remove. (Written by genkd.py.) The document's merge. (Written by genkm.py.) -/
import Derived.Test.YtonhmihmnkicdaaGreatKxList
import Derived.Test.YtonhmihmnkicdaaGreatKxMay
import Derived.Test.YtonhmihmnkicdaaGreatIxMerge
namespace Go.Proofs.YtonhmihmnkicdaaGreat
open Go.RowKit
set_option linter.unusedVariables false
theorem gv_push1 {B : Nat} {w0 W : World} (hB : B ≤ w0.heap.size) (hbel : Below w0.heap.size w0 W) {v : Value} {L : List VD} (hg : Gv B w0 W v L) : ∃ vs : List Vo, Hid (W.ownsRow B 36 4 v vs.length (voV vs)) ∧ vs.length = L.length ∧ ∀ (x : Vo), LocsK B W x.a x.d.ls → ∀ {o : Obj} {w1 : World} {v' : Value},
    w1.ownsRow B 36 4 v' (vs.length + 1) (voV vs ++ voC x) → (W.alloc o).grownBy w1 v.ownBlock → (v'.ownBlock = v.ownBlock ∨ v'.ownBlock = some (W.alloc o).heap.size) → Gv B w0 w1 v' (L ++ [x.d]) ∧ Below w0.heap.size w0 w1 := by
  obtain ⟨vs, hv1, hv2, hv3⟩ := hg.row
  refine ⟨vs, hv2, by rw [← hv1, List.length_map], fun x hx o w1 v' h1 h2 h3 => ?_⟩
  have := Gv.push hB hbel hg.new hv1 hv2 hv3 x hx h1 h2 h3
  exact ⟨this.1, this.2.1⟩
set_option maxRecDepth 100000 in
set_option maxHeartbeats 8000000 in
theorem kx_without {B : Nat} {w : World} {L : List VD} {la : Option Addr} {n cc : Nat} (hl : L.length = n) (hn : n ≤ 100000) (hvos : VosAt B w la L) (hBw : B ≤ w.heap.size) (hcc : n ≤ cc) (id : Int) : Calls Tryz.prog 73 #[.slice la n cc, .int .i64 id] w fun e w' => ∃ v, e = .returned v ∧ Gv B w w' v (witV L id) ∧ Below w.heap.size w w' := by
  obtain ⟨i0, hi0, hz0, hz1, hz2⟩ := info_parts vol_info
  have HI := hide hi0
  have HI0 := hide hz0
  have HI1 := hide hz1
  have HI2 := hide hz2
  have HVOS := hide hvos
  have HB := hide hBw
  have HLN := hide hl
  clear hvos hl hi0 hz0 hz1 hz2 hBw
  go_enter Tryz.func73, Tryz.ntmps73
  go_wp2_with fail
  go_loopw [5, 6] (fun v y wr => ∃ k : Nat, k ≤ n ∧ y = .int .i64 k ∧ Hid (Gv B w wr v (witV (L.take k) id)) ∧ Hid (Below w.heap.size w wr)) (fun v y _ => n - (kIx y).toNat)
  case atStart => exact ⟨0, by omega, rfl, hide (Gv.nil B w w), hide (Below.refl _ _)⟩
  case round =>
    obtain ⟨k, hk, rfl, HG, HBL⟩ := hrel
    by_cases hlt : k < n
    · have hd : decide ((k : Int) < (n : Int)) = true := by simp; omega
      have hdi : (k : Int) < (n : Int) := by omega
      have hd0 : (0 : Int) ≤ (k : Int) := by omega
      obtain ⟨y, hy⟩ : ∃ y, L[k]? = some y := ⟨_, List.getElem?_eq_getElem (by have := HLN.out; omega)⟩
      obtain ⟨b1, o1, ya, yc, rfl, hbk, p1, q1⟩ := (HVOS.out.below HBL.out).nth hy
      obtain ⟨d0, d1, d2, d3⟩ := p1
      simp only at d0 d1 d2 d3
      obtain ⟨yn, hyn⟩ : ∃ yn, y.ls.length = yn := ⟨_, rfl⟩
      rw [hyn] at d3
      have HTO := hide (witV_snoc id hy)
      have HYN := hide hyn
      obtain ⟨vs, HV2, hvl, hpush⟩ := gv_push1 HB.out HBL.out HG.out
      have HPUSH : Hid (∀ {o : Obj} {w1 : World} {v' : Value}, w1.ownsRow B 36 4 v' (vs.length + 1) (voV vs ++ voC ⟨y, ya, yc⟩) → (wr.alloc o).grownBy w1 u5.ownBlock → (v'.ownBlock = u5.ownBlock ∨ v'.ownBlock = some (wr.alloc o).heap.size) → Gv B w w1 v' (witV (L.take k) id ++ [y]) ∧ Below w.heap.size w w1) := fun h1 h2 h3 => hpush ⟨y, ya, yc⟩ q1 h1 h2 h3
      have HLV : Hid (vs.length ≤ k) := by have := witV_len (L.take k) id; rw [List.length_take] at this; unfold Hid; omega
      have hsz3 : B ≤ wr.heap.size := Nat.le_trans HB.out HBL.out.size
      clear hy q1 hyn hvl hpush
      by_cases hq : y.id = id
      · have g1 : (y.id != id) = false := by simpa using hq
        have HT2 : Hid (witV (L.take (k + 1)) id = witV (L.take k) id) := by have := HTO.out; rw [if_neg (by simpa using hq)] at this; exact this
        clear hq
        go_wp2_with fail
        all_goals exact ⟨⟨k + 1, by omega, by go_num, by rw [HT2.out]; exact HG, HBL⟩, by simp [kIx]; omega⟩
      · have g1 : (y.id != id) = true := by simpa using hq
        have HT2 : Hid (witV (L.take (k + 1)) id = witV (L.take k) id ++ [y]) := by have := HTO.out; rw [if_pos hq] at this; exact this
        clear hq
        go_wp2_with (first | (at_builtin; refine wpList_append_own_at _ rfl (.tmp 20) (.tmp 25) 29 rfl B 36 i0 (.agg #[.int .i64 0, .int .i64 0, .int .i64 0, .slice none 0 0]) 4 48 Tryz.underlying29 HI.out HI0.out HI1.out HI2.out rfl (by decide) _ _ _ rfl (HV2.out.alloc _) ⟨wr.heap.size, 0, none⟩ 1 1 (voC ⟨y, ya, yc⟩) rfl (by simp [voC]) (by have := cell_vol_new wr ⟨y, ya, yc⟩ 36; unfold voA at this; simp only [HYN.out] at this; exact this) (voC_one _) (by have := HLV.out; unfold maxLen; omega) (by have := HLV.out; omega) (by rw [World.size_alloc]; omega) ?_; intro v' w3 hown hgr hnil hat; clear hnil; have HN := hide (HPUSH.out hown hgr hat); clear hown hgr hat))
        all_goals exact ⟨⟨k + 1, by omega, by go_num, by rw [HT2.out]; exact hide HN.out.1, hide HN.out.2⟩, by simp [kIx]; omega⟩
    · have hd : decide ((k : Int) < (n : Int)) = false := by simp; omega
      have HF : Hid (Gv B w wr u5 (witV L id)) := by have := HG.out; rw [List.take_of_length_le (by have := HLN.out; omega)] at this; exact this
      go_wp2_with fail
      try go_ret
      exact ⟨u5, rfl, HF.out, HBL.out⟩
theorem opw_append {P : Program} {o : Oper} {a : Act} {w : World} {K : Act → World → Prop} {Q : Exit → Act → World → Prop} (B : Nat) (s x : Operand) (t : TypeId)
    (ho : o.op = .call { callee := .builtin .append, args := #[s, x], argTypes := #[t, t] })
    (e : TypeId) (i : TypeInfo) (z : Value) (size bytes : Nat) (ht : P.underlying t = some (.slice e)) (hi : P.info? e = some i) (hz : i.zero = some z)
    (hsize : i.size = size) (hby : i.bytes = bytes) (hzs : z.cells.size = size) (hsz : 0 < size)
    (v : Value) (n : Nat) (xs : List Value) (hs : a.eval s = v) (hown : w.ownsRow B e size v n xs)
    (ad : Addr) (m c : Nat) (news : List Value) (hx : a.eval x = .slice (some ad) m c) (hl : news.length = m * size) (hnews : ∀ j u, news[j]? = some u → w.cell? (ad.add j) = some u) (h1 : ∀ u ∈ news, u.oneCell' = true)
    (h63 : n + m ≤ maxLen) (hbytes : (n + m) * bytes ≤ 140737488355328) (hB : B ≤ w.heap.size)
    (h : ∀ v' w', w'.ownsRow B e size v' (n + m) (xs ++ news) → w.grownBy w' v.ownBlock → (v'.ownBlock = v.ownBlock ∨ v'.ownBlock = some w.heap.size) → K (a.put o.dst v') w') : o.wp P a w K Q := by
  obtain ⟨v', w', hr, q1, q2, -, q3⟩ := run_append_own_at (P := P) w B t o.type e i z size bytes ht hi hz hsize hby hzs hsz v n xs hown ad m c news hl hnews h1 h63 hbytes hB
  unfold Oper.wp execOp
  simp only [ho, resolve, invoke, builtin, Sem.run_bind, Sem.run_pure, Result.andThen_ok, List.map_toArray, List.map_cons, List.map_nil, hs, hx, hr]
  exact h v' w' q1 q2 q3
theorem app_mdsE {B z : Nat} {E : TypeId} (hE : E ≠ 84) {W w1 : World} {v v' : Value} {n : Nat} {xs : List Value} {o : Obj} (hB : B ≤ W.heap.size) (hrow : W.ownsRow B E z v n xs) (hgr : (W.alloc o).grownBy w1 v.ownBlock) (hat : v'.ownBlock = v.ownBlock ∨ v'.ownBlock = some (W.alloc o).heap.size) :
    Mds B (fun i => v.ownBlock = some i) W (fun i => v'.ownBlock = some i) w1 := by
  have hb : ∀ i, i < W.heap.size → v.ownBlock ≠ some i → w1.heap[i]? = W.heap[i]? := fun i hi hn => (hgr.block i (by rw [World.size_alloc]; omega) (fun e => hn e.symm)).trans (Below.heap_alloc _ _ _ hi)
  have hsz : W.heap.size ≤ w1.heap.size := by have := hgr.size; rw [World.size_alloc] at this; omega
  refine ⟨⟨hgr.os, hgr.tape, hgr.output, hsz, fun k hk => hb k (by omega) (fun e => by have := (own_at hrow e).1; omega)⟩, hsz, fun i hi hn => hb i hi hn, fun i cur fr hc => hb i (lt_of_block hc) (fun e => ?_), fun i hi => ?_⟩
  · obtain ⟨_, _, cur2, hc2⟩ := own_at hrow e
    rw [hc2] at hc; injection hc with hc; injection hc with _ q; exact absurd q hE
  · rcases hat with q | q
    · exact .inl (q ▸ hi)
    · have e' : v'.ownBlock = some i := hi
      rw [q] at e'; cases e'; right; rw [World.size_alloc]; omega
theorem bx4 {W : World} {b : Nat} {v0 v1 v2 v3 : Value} (h : W.heap[b]? = some (.cells #[v0, v1, v2, v3] 36 (0, 0))) : W.cell? ⟨b, 0, none⟩ = some v0 ∧ W.cell? ⟨b, 1, none⟩ = some v1 ∧ W.cell? ⟨b, 2, none⟩ = some v2 ∧ W.cell? ⟨b, 3, none⟩ = some v3 :=
  ⟨cell_of_block h, cell_of_block h, cell_of_block h, cell_of_block h⟩
theorem int_info1 : (Tryz.prog.info? 3).map (fun i => (i.zero, i.size, i.bytes)) = some (some (.int .i64 0), 1, 8) := by kernel_rfl
/-- how far lay has come -/
structure LayI (B : Nat) (W1 : World) (L : List VD) (x : VD) (k : Nat) (b : Bool) (v : Value) (wr : World) : Prop where
  row : Gv B W1 wr v (if b then layV (L.take k) x else L.take k)
  ok : if b then (∃ y ∈ L.take k, x.id < y.id) else (∀ y ∈ L.take k, ¬ x.id < y.id)
  bel : Below W1.heap.size W1 wr
set_option maxRecDepth 100000 in
set_option maxHeartbeats 16000000 in
theorem kx_lay {B : Nat} {w : World} {K : Kx} {S : KS} (h : KxAt B w K S) (hnV : S.V.length ≤ 100000) (hnH : S.H.length ≤ 100000) (x : VD) (a : Option Addr) (m c : Nat) (hm : x.ls.length = m) (hx : LocsK B w a x.ls) : Calls Tryz.prog 39 #[.pointer (some ⟨K.kb, 0, none⟩), .agg #[.int .i64 x.id, .int .i64 x.gen, .int .i64 x.len, .slice a m c]] w fun e w' => e = .returned (.tuple #[]) ∧ ∃ K', K'.kb = K.kb ∧ KxAt B w' K' ⟨S.E, S.G, layV S.V x, S.H ++ [x.id]⟩ ∧ Mds B K.own w K'.own w' := by
  obtain ⟨mn, hmn⟩ : ∃ mn, S.V.length = mn := ⟨_, rfl⟩
  obtain ⟨av, cv, hv, hcv, c2, hvos⟩ := kx_vslice h hmn
  have hb1 : Below w.heap.size w (w.alloc (.cells #[.int .i64 x.id, .int .i64 x.gen, .int .i64 x.len, .slice a m c] 36)) := (Below.refl _ _).alloc (Nat.le_refl _) _
  have hk1 : (w.alloc (.cells #[.int .i64 x.id, .int .i64 x.gen, .int .i64 x.len, .slice a m c] 36)).heap[w.heap.size]? = some (.cells #[.int .i64 x.id, .int .i64 x.gen, .int .i64 x.len, .slice a m c] 36 (0, 0)) := heap_alloc_new _ _
  have hsz1 : (w.alloc (.cells #[.int .i64 x.id, .int .i64 x.gen, .int .i64 x.len, .slice a m c] 36)).heap.size = w.heap.size + 1 := World.size_alloc _ _
  have HX := hide h
  have HKL := hide (lt_of_block h.box)
  have HBW := hide h.Bw
  have HLX := hide (hx.below hb1)
  have HVOS := hide (hvos.below hb1)
  have HB1 := hide hb1
  have HK1 := hide hk1
  have HC2 := hide ((hb1.cell (p := ⟨K.kb, 2, none⟩) (lt_of_block h.box)).trans c2)
  have HMN := hide hmn
  have HXM := hide hm
  have HHL := hide hnH
  rw [hmn] at hnV
  obtain ⟨i0, hi0, hz0, hz1, hz2⟩ := info_parts vol_info
  have HI := hide hi0
  have HI0 := hide hz0
  have HI1 := hide hz1
  have HI2 := hide hz2
  obtain ⟨j0, hj0, hy0, hy1, hy2⟩ := info_parts int_info1
  have HJ := hide hj0
  have HJ0 := hide hy0
  have HJ1 := hide hy1
  have HJ2 := hide hy2
  clear h hv hx hvos hb1 hk1 c2 hmn hm hnH hi0 hz0 hz1 hz2 hj0 hy0 hy1 hy2
  go_enter Tryz.func39, Tryz.ntmps39
  go_wp2_with fail
  generalize (w.alloc (.cells #[.int .i64 x.id, .int .i64 x.gen, .int .i64 x.len, .slice a m c] 36)) = W1 at *
  have HBW1 : Hid (B ≤ W1.heap.size) := by have := HBW.out; unfold Hid; omega
  go_loopw [4, 5, 6] (fun v b y wr => ∃ (k : Nat) (bb : Bool), k ≤ mn ∧ y = .int .i64 k ∧ b = .bool bb ∧ Hid (LayI B W1 S.V x k bb v wr)) (fun v b y _ => mn - (kIx y).toNat)
  case atStart => exact ⟨0, false, by omega, rfl, rfl, hide ⟨Gv.nil B W1 W1, fun y hy => by simp at hy, Below.refl _ _⟩⟩
  case round =>
    obtain ⟨k, bb, hk, rfl, rfl, HO⟩ := hrel
    have c2 : wr.cell? ⟨K.kb, 2, none⟩ = some (.slice av mn cv) := (HO.out.bel.cell (p := ⟨K.kb, 2, none⟩) (by have := HKL.out; show K.kb < _; omega)).trans HC2.out
    by_cases hlt : k < mn
    · have hd : decide ((k : Int) < (mn : Int)) = true := by simp; omega
      have hdi : (k : Int) < (mn : Int) := by omega
      have hd0 : (0 : Int) ≤ (k : Int) := by omega
      obtain ⟨y, hy⟩ : ∃ y, S.V[k]? = some y := ⟨_, List.getElem?_eq_getElem (by have := HMN.out; omega)⟩
      obtain ⟨b1, o1, ya, yc, rfl, hbk, p1, q1⟩ := HVOS.out.nth hy
      have HP1 := hide p1
      have HQ1 := hide q1
      have HBK := hide hbk
      obtain ⟨yn, hyn⟩ : ∃ yn, y.ls.length = yn := ⟨_, rfl⟩
      have HYN := hide hyn
      have HT : Hid (S.V.take (k + 1) = S.V.take k ++ [y]) := by unfold Hid; rw [List.take_add_one, hy]; rfl
      have HTL : Hid ((S.V.take k).length ≤ k) := by unfold Hid; rw [List.length_take]; omega
      have hkw := (HO.out.bel.block w.heap.size (by omega)).trans HK1.out
      obtain ⟨z1, z2, z3, z4⟩ := bx4 hkw
      obtain ⟨d0, d1, d2, d3⟩ := p1.keep (HO.out.bel.block b1 hbk)
      simp only at d0
      clear hy p1 q1 hbk hyn hkw d1 d2 d3
      cases bb with
      | true =>
        go_wp2_with fail
        go_quiet (fail)
        obtain ⟨WQ, hWQ⟩ : ∃ WQ, WQ = wr.drewN nq := ⟨_, rfl⟩
        have hdr : Below wr.heap.size wr WQ := by rw [hWQ]; exact drawn_below (Below.refl _ _) nq
        rw [← hWQ]
        have HBQ := hide (HO.out.bel.trans (hdr.mono HO.out.bel.size))
        have hgq := HO.out.row.below hdr
        have HOK := hide HO.out.ok
        clear hWQ hdr c2 z1 z2 z3 z4 d0
        obtain ⟨vs, HV2, hvl, hpush⟩ := gv_push1 HBW1.out HBQ.out hgq
        have HPUSH : Hid (∀ {o : Obj} {w1 : World} {v' : Value}, w1.ownsRow B 36 4 v' (vs.length + 1) (voV vs ++ voC (⟨y, ya, yc⟩ : Vo)) → (WQ.alloc o).grownBy w1 u4.ownBlock → (v'.ownBlock = u4.ownBlock ∨ v'.ownBlock = some (WQ.alloc o).heap.size) → Gv B W1 w1 v' ((layV (S.V.take k) x) ++ [(⟨y, ya, yc⟩ : Vo).d]) ∧ Below W1.heap.size W1 w1) := fun h1 h2 h3 => hpush (⟨y, ya, yc⟩ : Vo) (HQ1.out.below HBQ.out) h1 h2 h3
        have HLV : Hid (vs.length ≤ mn + 1) := by have := layV_len (S.V.take k) x; have := HTL.out; rw [if_pos rfl] at hvl; unfold Hid; omega
        have hsz3 : B ≤ WQ.heap.size := Nat.le_trans HBW1.out HBQ.out.size
        obtain ⟨d0, d1, d2, d3⟩ := HP1.out.keep (HBQ.out.block b1 HBK.out)
        simp only at d0 d1 d2 d3
        rw [HYN.out] at d3
        have c2 := (HBQ.out.cell (p := ⟨K.kb, 2, none⟩) (by have := HKL.out; show K.kb < _; omega)).trans HC2.out
        clear hgq hvl hpush
        go_wp2_with (first | (at_builtin; refine wpList_append_own_at _ rfl (.tmp 35) (.tmp 43) 29 rfl B 36 i0 (.agg #[.int .i64 0, .int .i64 0, .int .i64 0, .slice none 0 0]) 4 48 Tryz.underlying29 HI.out HI0.out HI1.out HI2.out rfl (by decide) _ _ _ rfl (HV2.out.alloc _) ⟨WQ.heap.size, 0, none⟩ 1 1 (voC (⟨y, ya, yc⟩ : Vo)) rfl (by simp [voC]) (by have := cell_vol_new WQ (⟨y, ya, yc⟩ : Vo) 36; unfold voA at this; simp only [HYN.out] at this; exact this) (voC_one _) (by have := HLV.out; unfold maxLen; omega) (by have := HLV.out; omega) (by rw [World.size_alloc]; omega) ?_; intro v' w3 hown hgr hnil hat; clear hnil; have HN := hide (HPUSH.out hown hgr hat); clear hown hgr hat))
        refine ⟨⟨k + 1, true, by omega, by go_num, rfl, hide ⟨?_, ?_, HN.out.2⟩⟩, by simp [kIx]; omega⟩
        · have q := HOK.out
          rw [if_pos rfl] at q
          rw [if_pos rfl, HT.out, layV_later _ _ _ q]
          exact HN.out.1
        · have q := HOK.out
          rw [if_pos rfl] at q
          rw [if_pos rfl, HT.out]
          obtain ⟨z, hz, hzl⟩ := q
          exact ⟨z, by simp [hz], hzl⟩
      | false =>
        by_cases hq : x.id < y.id
        · have g1 : decide (x.id < y.id) = true := by simpa using hq
          have HQL := hide hq
          clear hq
          go_wp2_with fail
          go_quiet (fail)
          obtain ⟨WQ, hWQ⟩ : ∃ WQ, WQ = wr.drewN nq := ⟨_, rfl⟩
          have hdr : Below wr.heap.size wr WQ := by rw [hWQ]; exact drawn_below (Below.refl _ _) nq
          rw [← hWQ]
          have HBQ := hide (HO.out.bel.trans (hdr.mono HO.out.bel.size))
          have hgq := HO.out.row.below hdr
          have HOK := hide HO.out.ok
          clear hWQ hdr c2 z1 z2 z3 z4 d0
          obtain ⟨vs, HV2, hvl, hpush⟩ := gv_push1 HBW1.out HBQ.out hgq
          have HPUSH : Hid (∀ {o : Obj} {w1 : World} {v' : Value}, w1.ownsRow B 36 4 v' (vs.length + 1) (voV vs ++ voC (⟨x, a, c⟩ : Vo)) → (WQ.alloc o).grownBy w1 u4.ownBlock → (v'.ownBlock = u4.ownBlock ∨ v'.ownBlock = some (WQ.alloc o).heap.size) → Gv B W1 w1 v' ((S.V.take k) ++ [(⟨x, a, c⟩ : Vo).d]) ∧ Below W1.heap.size W1 w1) := fun h1 h2 h3 => hpush (⟨x, a, c⟩ : Vo) (HLX.out.below HBQ.out) h1 h2 h3
          have HLV : Hid (vs.length ≤ mn + 1) := by have := HTL.out; rw [if_neg (by decide)] at hvl; unfold Hid; omega
          have hsz3 : B ≤ WQ.heap.size := Nat.le_trans HBW1.out HBQ.out.size
          obtain ⟨z1, z2, z3, z4⟩ := bx4 ((HBQ.out.block w.heap.size (by omega)).trans HK1.out)
          clear hgq hvl hpush
          go_upto_region 9 with (first | (at_builtin; refine wpList_append_own_at _ rfl (.tmp 31) (.tmp 33) 29 rfl B 36 i0 (.agg #[.int .i64 0, .int .i64 0, .int .i64 0, .slice none 0 0]) 4 48 Tryz.underlying29 HI.out HI0.out HI1.out HI2.out rfl (by decide) _ _ _ rfl (HV2.out.alloc _) ⟨WQ.heap.size, 0, none⟩ 1 1 (voC (⟨x, a, c⟩ : Vo)) rfl (by simp [voC]) (by have := cell_vol_new WQ (⟨x, a, c⟩ : Vo) 36; unfold voA at this; simp only [HXM.out] at this; exact this) (voC_one _) (by have := HLV.out; unfold maxLen; omega) (by have := HLV.out; omega) (by rw [World.size_alloc]; omega) ?_; intro vX wX hown hgr hnil hat; clear hnil; have HN := hide (HPUSH.out hown hgr hat); clear hown hgr hat))
          have HBQ := hide HN.out.2
          have hgq := HN.out.1
          clear HN HPUSH HV2 HLV
          obtain ⟨vs, HV2, hvl, hpush⟩ := gv_push1 HBW1.out HBQ.out hgq
          have HPUSH : Hid (∀ {o : Obj} {w1 : World} {v' : Value}, w1.ownsRow B 36 4 v' (vs.length + 1) (voV vs ++ voC (⟨y, ya, yc⟩ : Vo)) → (wX.alloc o).grownBy w1 vX.ownBlock → (v'.ownBlock = vX.ownBlock ∨ v'.ownBlock = some (wX.alloc o).heap.size) → Gv B W1 w1 v' ((S.V.take k ++ [x]) ++ [(⟨y, ya, yc⟩ : Vo).d]) ∧ Below W1.heap.size W1 w1) := fun h1 h2 h3 => hpush (⟨y, ya, yc⟩ : Vo) (HQ1.out.below HBQ.out) h1 h2 h3
          have HLV : Hid (vs.length ≤ mn + 1) := by have := HTL.out; simp at hvl; simp at this; unfold Hid; omega
          have hsz3 : B ≤ wX.heap.size := Nat.le_trans HBW1.out HBQ.out.size
          obtain ⟨d0, d1, d2, d3⟩ := HP1.out.keep (HBQ.out.block b1 HBK.out)
          simp only at d0 d1 d2 d3
          rw [HYN.out] at d3
          have c2 := (HBQ.out.cell (p := ⟨K.kb, 2, none⟩) (by have := HKL.out; show K.kb < _; omega)).trans HC2.out
          clear hgq hvl hpush
          go_wp2_with (first | (at_builtin; refine wpList_append_own_at _ rfl (.tmp 35) (.tmp 43) 29 rfl B 36 i0 (.agg #[.int .i64 0, .int .i64 0, .int .i64 0, .slice none 0 0]) 4 48 Tryz.underlying29 HI.out HI0.out HI1.out HI2.out rfl (by decide) _ _ _ rfl (HV2.out.alloc _) ⟨wX.heap.size, 0, none⟩ 1 1 (voC (⟨y, ya, yc⟩ : Vo)) rfl (by simp [voC]) (by have := cell_vol_new wX (⟨y, ya, yc⟩ : Vo) 36; unfold voA at this; simp only [HYN.out] at this; exact this) (voC_one _) (by have := HLV.out; unfold maxLen; omega) (by have := HLV.out; omega) (by rw [World.size_alloc]; omega) ?_; intro v' w3 hown hgr hnil hat; clear hnil; have HN := hide (HPUSH.out hown hgr hat); clear hown hgr hat))
          refine ⟨⟨k + 1, true, by omega, by go_num, rfl, hide ⟨?_, ?_, HN.out.2⟩⟩, by simp [kIx]; omega⟩
          · have q := HOK.out
            rw [if_neg (by decide)] at q
            rw [if_pos rfl, HT.out, layV_first _ _ _ q HQL.out]
            exact HN.out.1
          · rw [if_pos rfl, HT.out]
            exact ⟨y, by simp, HQL.out⟩
        · have g1 : decide (x.id < y.id) = false := by simpa using hq
          have HQL := hide hq
          clear hq
          go_wp2_with fail
          go_quiet (fail)
          obtain ⟨WQ, hWQ⟩ : ∃ WQ, WQ = wr.drewN nq := ⟨_, rfl⟩
          have hdr : Below wr.heap.size wr WQ := by rw [hWQ]; exact drawn_below (Below.refl _ _) nq
          rw [← hWQ]
          have HBQ := hide (HO.out.bel.trans (hdr.mono HO.out.bel.size))
          have hgq := HO.out.row.below hdr
          have HOK := hide HO.out.ok
          clear hWQ hdr c2 z1 z2 z3 z4 d0
          obtain ⟨vs, HV2, hvl, hpush⟩ := gv_push1 HBW1.out HBQ.out hgq
          have HPUSH : Hid (∀ {o : Obj} {w1 : World} {v' : Value}, w1.ownsRow B 36 4 v' (vs.length + 1) (voV vs ++ voC (⟨y, ya, yc⟩ : Vo)) → (WQ.alloc o).grownBy w1 u4.ownBlock → (v'.ownBlock = u4.ownBlock ∨ v'.ownBlock = some (WQ.alloc o).heap.size) → Gv B W1 w1 v' ((S.V.take k) ++ [(⟨y, ya, yc⟩ : Vo).d]) ∧ Below W1.heap.size W1 w1) := fun h1 h2 h3 => hpush (⟨y, ya, yc⟩ : Vo) (HQ1.out.below HBQ.out) h1 h2 h3
          have HLV : Hid (vs.length ≤ mn + 1) := by have := HTL.out; rw [if_neg (by decide)] at hvl; unfold Hid; omega
          have hsz3 : B ≤ WQ.heap.size := Nat.le_trans HBW1.out HBQ.out.size
          obtain ⟨d0, d1, d2, d3⟩ := HP1.out.keep (HBQ.out.block b1 HBK.out)
          simp only at d0 d1 d2 d3
          rw [HYN.out] at d3
          have c2 := (HBQ.out.cell (p := ⟨K.kb, 2, none⟩) (by have := HKL.out; show K.kb < _; omega)).trans HC2.out
          clear hgq hvl hpush
          go_wp2_with (first | (at_builtin; refine wpList_append_own_at _ rfl (.tmp 35) (.tmp 43) 29 rfl B 36 i0 (.agg #[.int .i64 0, .int .i64 0, .int .i64 0, .slice none 0 0]) 4 48 Tryz.underlying29 HI.out HI0.out HI1.out HI2.out rfl (by decide) _ _ _ rfl (HV2.out.alloc _) ⟨WQ.heap.size, 0, none⟩ 1 1 (voC (⟨y, ya, yc⟩ : Vo)) rfl (by simp [voC]) (by have := cell_vol_new WQ (⟨y, ya, yc⟩ : Vo) 36; unfold voA at this; simp only [HYN.out] at this; exact this) (voC_one _) (by have := HLV.out; unfold maxLen; omega) (by have := HLV.out; omega) (by rw [World.size_alloc]; omega) ?_; intro v' w3 hown hgr hnil hat; clear hnil; have HN := hide (HPUSH.out hown hgr hat); clear hown hgr hat))
          refine ⟨⟨k + 1, false, by omega, by go_num, rfl, hide ⟨?_, ?_, HN.out.2⟩⟩, by simp [kIx]; omega⟩
          · rw [if_neg (by decide), HT.out]
            exact HN.out.1
          · have q := HOK.out
            rw [if_neg (by decide)] at q
            rw [if_neg (by decide), HT.out]
            intro z hz
            rcases List.mem_append.1 hz with e | e
            · exact q z e
            · rw [List.mem_singleton.1 e]; have := HQL.out; omega
    · have hd : decide ((k : Int) < (mn : Int)) = false := by simp; omega
      have hkk : S.V.take k = S.V := List.take_of_length_le (by have := HMN.out; omega)
      have hGQ := HO.out.row
      have hOK := HO.out.ok
      rw [hkk] at hGQ hOK
      have HBL := hide HO.out.bel
      cases bb with
      | true =>
        rw [if_pos rfl] at hGQ
        go_upto_region 10 with fail
        have HGF := hide hGQ
        have HBF := HBL
        clear hGQ hOK hkk HO HBL c2
        obtain ⟨oa, oc, rfl, _, _⟩ := HGF.out.row.form
        obtain ⟨⟨cs, fs⟩, hP, hM⟩ := HX.out.setV (Mds.refl B K.own w) (fun _ q => q) (Mds.of_below (fun _ => False) (HB1.out.trans (HBF.out.mono (by omega))) HBW.out) HGF.out.row
        have hk3 := (Below.heap_setCell wr ⟨K.kb, 2, none⟩ (.slice oa (layV S.V x).length oc) _ (show w.heap.size ≠ K.kb by have := HKL.out; omega)).trans ((HBF.out.block w.heap.size (by omega)).trans HK1.out)
        go_upto_region 13 with fail
        generalize wr.setCell ⟨K.kb, 2, none⟩ (.slice oa (layV S.V x).length oc) = W3 at *
        clear cs fs
        obtain ⟨Wd, hWd⟩ : ∃ Wd, Wd = W3.drew := ⟨_, rfl⟩
        have HWD := hide hWd
        have hbd : Below W3.heap.size W3 Wd := by rw [hWd]; exact (Below.refl _ _).drew
        have HX3 := hide (hP.below hbd)
        have HMD3 := hide (hM.trans (Mds.of_below _ hbd (Nat.le_trans HBW.out hM.size)))
        have HK2 := hide ((hbd.block _ (lt_of_block hk3)).trans hk3)
        have HBW2 : Hid (B ≤ Wd.heap.size) := Nat.le_trans HBW.out HMD3.out.size
        have hba : Below Wd.heap.size Wd (Wd.alloc (.cells #[.int .i64 x.id] 3)) := (Below.refl _ _).alloc (Nat.le_refl _) _
        have HK4 := hide ((hba.block _ (lt_of_block HK2.out)).trans HK2.out)
        have cD : Wd.cell? ⟨K.kb, 3, none⟩ = some K.vH := HX3.out.cells.2.2.2
        have cE : (Wd.alloc (.cells #[.int .i64 x.id] 3)).cell? ⟨K.kb, 3, none⟩ = some K.vH := (HX3.out.below hba).cells.2.2.2
        clear hWd hbd hP hM hk3 hba
        refine wp_region_noPanic ?_
        refine wp_region_held_drew (S := fun w' => w'.heap[w.heap.size]? = some (.cells #[.int .i64 x.id, .int .i64 x.gen, .int .i64 x.len, .slice a m c] 36 (0, 0))) (by kernel_rfl) (by rw [← HWD.out]; exact HK2.out) (fun hHeld => ?_)
        rw [← HWD.out] at hHeld ⊢
        refine wpAnyH_take (i := 0) (v := ?v101) rfl (by kernel_rfl) (by kernel_rfl) (by kernel_rfl) (fun _ _ _ h => h) (Or.inl ⟨by rfl, ?hy101⟩) hHeld ?rest101
        case hy101 => (intro w' hSw; obtain ⟨s0, s1, s2, s3⟩ := bx4 hSw; go_simp; try with_reducible rfl)
        try simp [Act.put]
        refine wpAnyH_take (i := 1) (v := ?v102) rfl (by kernel_rfl) (by kernel_rfl) (by kernel_rfl) (fun _ _ _ h => h) (Or.inl ⟨by rfl, ?hy102⟩) hHeld ?rest102
        case hy102 => (intro w' hSw; obtain ⟨s0, s1, s2, s3⟩ := bx4 hSw; go_simp; try with_reducible rfl)
        try simp [Act.put]
        refine wpAnyH_take (i := 2) (v := ?v103) rfl (by kernel_rfl) (by kernel_rfl) (by kernel_rfl) (fun _ _ _ h => h) (Or.inl ⟨by rfl, ?hy103⟩) hHeld ?rest103
        case hy103 => (intro w' hSw; obtain ⟨s0, s1, s2, s3⟩ := bx4 hSw; go_simp; try with_reducible rfl)
        try simp [Act.put]
        refine wpAnyH_take (i := 3) (v := ?v104) rfl (by kernel_rfl) (by kernel_rfl) (by kernel_rfl) (fun _ _ _ h => h) (Or.inl ⟨by rfl, ?hy104⟩) hHeld ?rest104
        case hy104 => (intro w' hSw; obtain ⟨s0, s1, s2, s3⟩ := bx4 hSw; go_simp; try with_reducible rfl)
        try simp [Act.put]
        refine wpAnyH_take (i := 5) (v := ?v105) rfl (by kernel_rfl) (by kernel_rfl) (by kernel_rfl) (fun _ _ _ h => h) (Or.inl ⟨by rfl, ?hy105⟩) hHeld ?rest105
        case hy105 => (intro w' hSw; obtain ⟨s0, s1, s2, s3⟩ := bx4 hSw; go_simp; try with_reducible rfl)
        try simp [Act.put]
        refine wpAnyH_take (i := 6) (v := ?v106) rfl (by kernel_rfl) (by kernel_rfl) (by kernel_rfl) (fun _ _ _ h => h) (Or.inl ⟨by rfl, ?hy106⟩) hHeld ?rest106
        case hy106 => (intro w' hSw; obtain ⟨s0, s1, s2, s3⟩ := bx4 hSw; go_simp; try with_reducible rfl)
        try simp [Act.put]
        refine wpAnyH_ready (rs := [4, 7]) (by kernel_rfl) (by simp) ?_
        refine AllReadyH.cons rfl (fun KN hK => ?first) (AllReadyH.cons rfl (fun KN hK => ?second) AllReadyH.nil)
        case first =>
          go_simp
          refine hK.out _ _ HK2.out (fun hHeld => ?_)
          clear hK KN
          try simp [Act.put]
          refine wpAnyH_ready (rs := [7]) (by kernel_rfl) (by simp) ?_
          refine AllReadyH.cons rfl (fun KN hK => ?_) AllReadyH.nil
          go_simp
          refine hK.out _ _ HK4.out (fun hHeld => ?_)
          clear hK KN
          try simp [Act.put]
          refine wpAnyH_ready (rs := [8]) (by kernel_rfl) (by simp) ?_
          refine AllReadyH.cons rfl (fun KN hK => ?_) AllReadyH.nil
          rw [if_pos (by simp [Region.wanted])]
          refine opw_append B (.tmp 59) (.tmp 62) 30 rfl 3 j0 (.int .i64 0) 1 8 Tryz.underlying30 HJ.out HJ0.out HJ1.out HJ2.out rfl (by decide) K.vH S.H.length (kiS S.H) (by simp [Act.eval]) (HX3.out.h.alloc _) ⟨Wd.heap.size, 0, none⟩ 1 1 [.int .i64 x.id] (by simp [Act.eval]) (by simp) (cell_one_str Wd (.int .i64 x.id) 3) (by simp [Value.oneCell']) (by have := HHL.out; unfold maxLen; omega) (by have := HHL.out; omega) (by rw [World.size_alloc]; have := HBW2.out; omega) ?_
          intro v' w4 hown hgr hat
          obtain ⟨a9, c9, rfl, -, -⟩ := own_slice hown
          have hmd := app_mdsE (v' := .slice a9 (S.H.length + 1) c9) (by decide) HBW2.out HX3.out.h hgr hat
          have hS := HX3.out.setH HMD3.out (fun _ q => q) (v := .slice a9 (S.H.length + 1) c9) (L := S.H ++ [x.id]) (hmd.refill fun i hi => hi.elim) (by rw [kiS_snoc, List.length_append]; exact hown) (fun i hi => by rcases hmd.own i hi with q | q; exact .inl (.inr (.inr (.inr q))); exact .inr q)
          have c1 := hS.1.1
          have f1 := hS.1.2
          have HN := hide hS.2
          have hno2 : ¬ (fun i => K.vH.ownBlock = some i) w.heap.size := fun q => by have := (HX3.out.typed (.inr (.inr (.inr q)))).2.2; obtain ⟨cur, t, e1, e2⟩ := this; rw [HK2.out] at e1; have := (Obj.cells.inj (Option.some.inj e1)).2.1; subst this; revert e2; decide
          have HK5 := hide ((hmd.blk _ (lt_of_block HK2.out) hno2).trans HK2.out)
          have HK6 := hide ((Below.heap_setCell _ ⟨K.kb, 3, none⟩ (.slice a9 (S.H.length + 1) c9) _ (show w.heap.size ≠ K.kb by have := HKL.out; omega)).trans HK5.out)
          clear hown hgr hat hS hmd hno2
          refine hK.out _ _ HK5.out (fun hHeld => ?_)
          clear hK KN
          try simp [Act.put]
          refine wpAnyH_take (i := 9) (v := ?v121) rfl (by kernel_rfl) (by kernel_rfl) (by kernel_rfl) (fun _ _ _ h => h) (Or.inl ⟨by rfl, ?hy121⟩) hHeld ?rest121
          case hy121 => (intro w' hSw; obtain ⟨s0, s1, s2, s3⟩ := bx4 hSw; go_simp; try with_reducible rfl)
          try simp [Act.put]
          refine wpAnyH_take (i := 10) (v := ?v122) rfl (by kernel_rfl) (by kernel_rfl) (by kernel_rfl) (fun _ _ _ h => h) (Or.inl ⟨by rfl, ?hy122⟩) hHeld ?rest122
          case hy122 => (intro w' hSw; obtain ⟨s0, s1, s2, s3⟩ := bx4 hSw; go_simp; try with_reducible rfl)
          try simp [Act.put]
          refine wpAnyH_ready (rs := [11]) (by kernel_rfl) (by simp) ?_
          refine AllReadyH.cons rfl (fun KN hK => ?_) AllReadyH.nil
          go_simp
          refine hK.out _ _ HK6.out (fun hHeld => ?_)
          clear hK KN
          try simp [Act.put]
          refine wpAnyH_done (by kernel_rfl) (NoPanic.normal ?_) _
          go_wp2_with fail
          try go_end0
          exact ⟨rfl, ⟨K.kb, K.vE, K.vG, (.slice oa (layV S.V x).length oc), .slice a9 (S.H.length + 1) c9⟩, rfl, HN.out.1, HN.out.2⟩
        case second =>
          go_simp
          refine hK.out _ _ HK4.out (fun hHeld => ?_)
          clear hK KN
          try simp [Act.put]
          refine wpAnyH_ready (rs := [4]) (by kernel_rfl) (by simp) ?_
          refine AllReadyH.cons rfl (fun KN hK => ?_) AllReadyH.nil
          go_simp
          refine hK.out _ _ HK4.out (fun hHeld => ?_)
          clear hK KN
          try simp [Act.put]
          refine wpAnyH_ready (rs := [8]) (by kernel_rfl) (by simp) ?_
          refine AllReadyH.cons rfl (fun KN hK => ?_) AllReadyH.nil
          rw [if_pos (by simp [Region.wanted])]
          refine opw_append B (.tmp 59) (.tmp 62) 30 rfl 3 j0 (.int .i64 0) 1 8 Tryz.underlying30 HJ.out HJ0.out HJ1.out HJ2.out rfl (by decide) K.vH S.H.length (kiS S.H) (by simp [Act.eval]) (HX3.out.h.alloc _) ⟨Wd.heap.size, 0, none⟩ 1 1 [.int .i64 x.id] (by simp [Act.eval]) (by simp) (cell_one_str Wd (.int .i64 x.id) 3) (by simp [Value.oneCell']) (by have := HHL.out; unfold maxLen; omega) (by have := HHL.out; omega) (by rw [World.size_alloc]; have := HBW2.out; omega) ?_
          intro v' w4 hown hgr hat
          obtain ⟨a9, c9, rfl, -, -⟩ := own_slice hown
          have hmd := app_mdsE (v' := .slice a9 (S.H.length + 1) c9) (by decide) HBW2.out HX3.out.h hgr hat
          have hS := HX3.out.setH HMD3.out (fun _ q => q) (v := .slice a9 (S.H.length + 1) c9) (L := S.H ++ [x.id]) (hmd.refill fun i hi => hi.elim) (by rw [kiS_snoc, List.length_append]; exact hown) (fun i hi => by rcases hmd.own i hi with q | q; exact .inl (.inr (.inr (.inr q))); exact .inr q)
          have c1 := hS.1.1
          have f1 := hS.1.2
          have HN := hide hS.2
          have hno2 : ¬ (fun i => K.vH.ownBlock = some i) w.heap.size := fun q => by have := (HX3.out.typed (.inr (.inr (.inr q)))).2.2; obtain ⟨cur, t, e1, e2⟩ := this; rw [HK2.out] at e1; have := (Obj.cells.inj (Option.some.inj e1)).2.1; subst this; revert e2; decide
          have HK5 := hide ((hmd.blk _ (lt_of_block HK2.out) hno2).trans HK2.out)
          have HK6 := hide ((Below.heap_setCell _ ⟨K.kb, 3, none⟩ (.slice a9 (S.H.length + 1) c9) _ (show w.heap.size ≠ K.kb by have := HKL.out; omega)).trans HK5.out)
          clear hown hgr hat hS hmd hno2
          refine hK.out _ _ HK5.out (fun hHeld => ?_)
          clear hK KN
          try simp [Act.put]
          refine wpAnyH_take (i := 9) (v := ?v131) rfl (by kernel_rfl) (by kernel_rfl) (by kernel_rfl) (fun _ _ _ h => h) (Or.inl ⟨by rfl, ?hy131⟩) hHeld ?rest131
          case hy131 => (intro w' hSw; obtain ⟨s0, s1, s2, s3⟩ := bx4 hSw; go_simp; try with_reducible rfl)
          try simp [Act.put]
          refine wpAnyH_take (i := 10) (v := ?v132) rfl (by kernel_rfl) (by kernel_rfl) (by kernel_rfl) (fun _ _ _ h => h) (Or.inl ⟨by rfl, ?hy132⟩) hHeld ?rest132
          case hy132 => (intro w' hSw; obtain ⟨s0, s1, s2, s3⟩ := bx4 hSw; go_simp; try with_reducible rfl)
          try simp [Act.put]
          refine wpAnyH_ready (rs := [11]) (by kernel_rfl) (by simp) ?_
          refine AllReadyH.cons rfl (fun KN hK => ?_) AllReadyH.nil
          go_simp
          refine hK.out _ _ HK6.out (fun hHeld => ?_)
          clear hK KN
          try simp [Act.put]
          refine wpAnyH_done (by kernel_rfl) (NoPanic.normal ?_) _
          go_wp2_with fail
          try go_end0
          exact ⟨rfl, ⟨K.kb, K.vE, K.vG, (.slice oa (layV S.V x).length oc), .slice a9 (S.H.length + 1) c9⟩, rfl, HN.out.1, HN.out.2⟩
      | false =>
        rw [if_neg (by decide)] at hGQ
        rw [if_neg (by decide)] at hOK
        have HLN := hide (layV_none S.V x hOK)
        have hgq := hGQ
        have HBQ := HBL
        have hkw := (HBL.out.block w.heap.size (by omega)).trans HK1.out
        obtain ⟨z1, z2, z3, z4⟩ := bx4 hkw
        go_upto_region 10 with fail
        clear hGQ hOK hkk HO HBL hkw c2
        obtain ⟨vs, HV2, hvl, hpush⟩ := gv_push1 HBW1.out HBQ.out hgq
        have HPUSH : Hid (∀ {o : Obj} {w1 : World} {v' : Value}, w1.ownsRow B 36 4 v' (vs.length + 1) (voV vs ++ voC (⟨x, a, c⟩ : Vo)) → (wr.alloc o).grownBy w1 u4.ownBlock → (v'.ownBlock = u4.ownBlock ∨ v'.ownBlock = some (wr.alloc o).heap.size) → Gv B W1 w1 v' (S.V ++ [(⟨x, a, c⟩ : Vo).d]) ∧ Below W1.heap.size W1 w1) := fun h1 h2 h3 => hpush (⟨x, a, c⟩ : Vo) (HLX.out.below HBQ.out) h1 h2 h3
        have HLV : Hid (vs.length ≤ mn + 1) := by have := HMN.out; unfold Hid; omega
        have hsz3 : B ≤ wr.heap.size := Nat.le_trans HBW1.out HBQ.out.size
        clear hgq hvl hpush
        go_upto_region 12 with (first | (at_builtin; refine wpList_append_own_at _ rfl (.tmp 47) (.tmp 49) 29 rfl B 36 i0 (.agg #[.int .i64 0, .int .i64 0, .int .i64 0, .slice none 0 0]) 4 48 Tryz.underlying29 HI.out HI0.out HI1.out HI2.out rfl (by decide) _ _ _ rfl (HV2.out.alloc _) ⟨wr.heap.size, 0, none⟩ 1 1 (voC (⟨x, a, c⟩ : Vo)) rfl (by simp [voC]) (by have := cell_vol_new wr (⟨x, a, c⟩ : Vo) 36; unfold voA at this; simp only [HXM.out] at this; exact this) (voC_one _) (by have := HLV.out; unfold maxLen; omega) (by have := HLV.out; omega) (by rw [World.size_alloc]; omega) ?_; intro vZ wZ hown hgr hnil hat; clear hnil; have HN := hide (HPUSH.out hown hgr hat); clear hown hgr hat))
        have HGF : Hid (Gv B W1 wZ vZ (layV S.V x)) := by have := HN.out.1; rw [← HLN.out] at this; exact this
        have HBF := hide HN.out.2
        clear HN HPUSH HV2 HLV
        obtain ⟨oa, oc, rfl, _, _⟩ := HGF.out.row.form
        obtain ⟨⟨cs, fs⟩, hP, hM⟩ := HX.out.setV (Mds.refl B K.own w) (fun _ q => q) (Mds.of_below (fun _ => False) (HB1.out.trans (HBF.out.mono (by omega))) HBW.out) HGF.out.row
        have hk3 := (Below.heap_setCell wZ ⟨K.kb, 2, none⟩ (.slice oa (layV S.V x).length oc) _ (show w.heap.size ≠ K.kb by have := HKL.out; omega)).trans ((HBF.out.block w.heap.size (by omega)).trans HK1.out)
        go_upto_region 13 with fail
        generalize wZ.setCell ⟨K.kb, 2, none⟩ (.slice oa (layV S.V x).length oc) = W3 at *
        clear cs fs
        obtain ⟨Wd, hWd⟩ : ∃ Wd, Wd = W3.drew := ⟨_, rfl⟩
        have HWD := hide hWd
        have hbd : Below W3.heap.size W3 Wd := by rw [hWd]; exact (Below.refl _ _).drew
        have HX3 := hide (hP.below hbd)
        have HMD3 := hide (hM.trans (Mds.of_below _ hbd (Nat.le_trans HBW.out hM.size)))
        have HK2 := hide ((hbd.block _ (lt_of_block hk3)).trans hk3)
        have HBW2 : Hid (B ≤ Wd.heap.size) := Nat.le_trans HBW.out HMD3.out.size
        have hba : Below Wd.heap.size Wd (Wd.alloc (.cells #[.int .i64 x.id] 3)) := (Below.refl _ _).alloc (Nat.le_refl _) _
        have HK4 := hide ((hba.block _ (lt_of_block HK2.out)).trans HK2.out)
        have cD : Wd.cell? ⟨K.kb, 3, none⟩ = some K.vH := HX3.out.cells.2.2.2
        have cE : (Wd.alloc (.cells #[.int .i64 x.id] 3)).cell? ⟨K.kb, 3, none⟩ = some K.vH := (HX3.out.below hba).cells.2.2.2
        clear hWd hbd hP hM hk3 hba
        refine wp_region_noPanic ?_
        refine wp_region_held_drew (S := fun w' => w'.heap[w.heap.size]? = some (.cells #[.int .i64 x.id, .int .i64 x.gen, .int .i64 x.len, .slice a m c] 36 (0, 0))) (by kernel_rfl) (by rw [← HWD.out]; exact HK2.out) (fun hHeld => ?_)
        rw [← HWD.out] at hHeld ⊢
        refine wpAnyH_take (i := 0) (v := ?v201) rfl (by kernel_rfl) (by kernel_rfl) (by kernel_rfl) (fun _ _ _ h => h) (Or.inl ⟨by rfl, ?hy201⟩) hHeld ?rest201
        case hy201 => (intro w' hSw; obtain ⟨s0, s1, s2, s3⟩ := bx4 hSw; go_simp; try with_reducible rfl)
        try simp [Act.put]
        refine wpAnyH_take (i := 1) (v := ?v202) rfl (by kernel_rfl) (by kernel_rfl) (by kernel_rfl) (fun _ _ _ h => h) (Or.inl ⟨by rfl, ?hy202⟩) hHeld ?rest202
        case hy202 => (intro w' hSw; obtain ⟨s0, s1, s2, s3⟩ := bx4 hSw; go_simp; try with_reducible rfl)
        try simp [Act.put]
        refine wpAnyH_take (i := 2) (v := ?v203) rfl (by kernel_rfl) (by kernel_rfl) (by kernel_rfl) (fun _ _ _ h => h) (Or.inl ⟨by rfl, ?hy203⟩) hHeld ?rest203
        case hy203 => (intro w' hSw; obtain ⟨s0, s1, s2, s3⟩ := bx4 hSw; go_simp; try with_reducible rfl)
        try simp [Act.put]
        refine wpAnyH_take (i := 3) (v := ?v204) rfl (by kernel_rfl) (by kernel_rfl) (by kernel_rfl) (fun _ _ _ h => h) (Or.inl ⟨by rfl, ?hy204⟩) hHeld ?rest204
        case hy204 => (intro w' hSw; obtain ⟨s0, s1, s2, s3⟩ := bx4 hSw; go_simp; try with_reducible rfl)
        try simp [Act.put]
        refine wpAnyH_take (i := 5) (v := ?v205) rfl (by kernel_rfl) (by kernel_rfl) (by kernel_rfl) (fun _ _ _ h => h) (Or.inl ⟨by rfl, ?hy205⟩) hHeld ?rest205
        case hy205 => (intro w' hSw; obtain ⟨s0, s1, s2, s3⟩ := bx4 hSw; go_simp; try with_reducible rfl)
        try simp [Act.put]
        refine wpAnyH_take (i := 6) (v := ?v206) rfl (by kernel_rfl) (by kernel_rfl) (by kernel_rfl) (fun _ _ _ h => h) (Or.inl ⟨by rfl, ?hy206⟩) hHeld ?rest206
        case hy206 => (intro w' hSw; obtain ⟨s0, s1, s2, s3⟩ := bx4 hSw; go_simp; try with_reducible rfl)
        try simp [Act.put]
        refine wpAnyH_ready (rs := [4, 7]) (by kernel_rfl) (by simp) ?_
        refine AllReadyH.cons rfl (fun KN hK => ?first) (AllReadyH.cons rfl (fun KN hK => ?second) AllReadyH.nil)
        case first =>
          go_simp
          refine hK.out _ _ HK2.out (fun hHeld => ?_)
          clear hK KN
          try simp [Act.put]
          refine wpAnyH_ready (rs := [7]) (by kernel_rfl) (by simp) ?_
          refine AllReadyH.cons rfl (fun KN hK => ?_) AllReadyH.nil
          go_simp
          refine hK.out _ _ HK4.out (fun hHeld => ?_)
          clear hK KN
          try simp [Act.put]
          refine wpAnyH_ready (rs := [8]) (by kernel_rfl) (by simp) ?_
          refine AllReadyH.cons rfl (fun KN hK => ?_) AllReadyH.nil
          rw [if_pos (by simp [Region.wanted])]
          refine opw_append B (.tmp 59) (.tmp 62) 30 rfl 3 j0 (.int .i64 0) 1 8 Tryz.underlying30 HJ.out HJ0.out HJ1.out HJ2.out rfl (by decide) K.vH S.H.length (kiS S.H) (by simp [Act.eval]) (HX3.out.h.alloc _) ⟨Wd.heap.size, 0, none⟩ 1 1 [.int .i64 x.id] (by simp [Act.eval]) (by simp) (cell_one_str Wd (.int .i64 x.id) 3) (by simp [Value.oneCell']) (by have := HHL.out; unfold maxLen; omega) (by have := HHL.out; omega) (by rw [World.size_alloc]; have := HBW2.out; omega) ?_
          intro v' w4 hown hgr hat
          obtain ⟨a9, c9, rfl, -, -⟩ := own_slice hown
          have hmd := app_mdsE (v' := .slice a9 (S.H.length + 1) c9) (by decide) HBW2.out HX3.out.h hgr hat
          have hS := HX3.out.setH HMD3.out (fun _ q => q) (v := .slice a9 (S.H.length + 1) c9) (L := S.H ++ [x.id]) (hmd.refill fun i hi => hi.elim) (by rw [kiS_snoc, List.length_append]; exact hown) (fun i hi => by rcases hmd.own i hi with q | q; exact .inl (.inr (.inr (.inr q))); exact .inr q)
          have c1 := hS.1.1
          have f1 := hS.1.2
          have HN := hide hS.2
          have hno2 : ¬ (fun i => K.vH.ownBlock = some i) w.heap.size := fun q => by have := (HX3.out.typed (.inr (.inr (.inr q)))).2.2; obtain ⟨cur, t, e1, e2⟩ := this; rw [HK2.out] at e1; have := (Obj.cells.inj (Option.some.inj e1)).2.1; subst this; revert e2; decide
          have HK5 := hide ((hmd.blk _ (lt_of_block HK2.out) hno2).trans HK2.out)
          have HK6 := hide ((Below.heap_setCell _ ⟨K.kb, 3, none⟩ (.slice a9 (S.H.length + 1) c9) _ (show w.heap.size ≠ K.kb by have := HKL.out; omega)).trans HK5.out)
          clear hown hgr hat hS hmd hno2
          refine hK.out _ _ HK5.out (fun hHeld => ?_)
          clear hK KN
          try simp [Act.put]
          refine wpAnyH_take (i := 9) (v := ?v221) rfl (by kernel_rfl) (by kernel_rfl) (by kernel_rfl) (fun _ _ _ h => h) (Or.inl ⟨by rfl, ?hy221⟩) hHeld ?rest221
          case hy221 => (intro w' hSw; obtain ⟨s0, s1, s2, s3⟩ := bx4 hSw; go_simp; try with_reducible rfl)
          try simp [Act.put]
          refine wpAnyH_take (i := 10) (v := ?v222) rfl (by kernel_rfl) (by kernel_rfl) (by kernel_rfl) (fun _ _ _ h => h) (Or.inl ⟨by rfl, ?hy222⟩) hHeld ?rest222
          case hy222 => (intro w' hSw; obtain ⟨s0, s1, s2, s3⟩ := bx4 hSw; go_simp; try with_reducible rfl)
          try simp [Act.put]
          refine wpAnyH_ready (rs := [11]) (by kernel_rfl) (by simp) ?_
          refine AllReadyH.cons rfl (fun KN hK => ?_) AllReadyH.nil
          go_simp
          refine hK.out _ _ HK6.out (fun hHeld => ?_)
          clear hK KN
          try simp [Act.put]
          refine wpAnyH_done (by kernel_rfl) (NoPanic.normal ?_) _
          go_wp2_with fail
          try go_end0
          exact ⟨rfl, ⟨K.kb, K.vE, K.vG, (.slice oa (layV S.V x).length oc), .slice a9 (S.H.length + 1) c9⟩, rfl, HN.out.1, HN.out.2⟩
        case second =>
          go_simp
          refine hK.out _ _ HK4.out (fun hHeld => ?_)
          clear hK KN
          try simp [Act.put]
          refine wpAnyH_ready (rs := [4]) (by kernel_rfl) (by simp) ?_
          refine AllReadyH.cons rfl (fun KN hK => ?_) AllReadyH.nil
          go_simp
          refine hK.out _ _ HK4.out (fun hHeld => ?_)
          clear hK KN
          try simp [Act.put]
          refine wpAnyH_ready (rs := [8]) (by kernel_rfl) (by simp) ?_
          refine AllReadyH.cons rfl (fun KN hK => ?_) AllReadyH.nil
          rw [if_pos (by simp [Region.wanted])]
          refine opw_append B (.tmp 59) (.tmp 62) 30 rfl 3 j0 (.int .i64 0) 1 8 Tryz.underlying30 HJ.out HJ0.out HJ1.out HJ2.out rfl (by decide) K.vH S.H.length (kiS S.H) (by simp [Act.eval]) (HX3.out.h.alloc _) ⟨Wd.heap.size, 0, none⟩ 1 1 [.int .i64 x.id] (by simp [Act.eval]) (by simp) (cell_one_str Wd (.int .i64 x.id) 3) (by simp [Value.oneCell']) (by have := HHL.out; unfold maxLen; omega) (by have := HHL.out; omega) (by rw [World.size_alloc]; have := HBW2.out; omega) ?_
          intro v' w4 hown hgr hat
          obtain ⟨a9, c9, rfl, -, -⟩ := own_slice hown
          have hmd := app_mdsE (v' := .slice a9 (S.H.length + 1) c9) (by decide) HBW2.out HX3.out.h hgr hat
          have hS := HX3.out.setH HMD3.out (fun _ q => q) (v := .slice a9 (S.H.length + 1) c9) (L := S.H ++ [x.id]) (hmd.refill fun i hi => hi.elim) (by rw [kiS_snoc, List.length_append]; exact hown) (fun i hi => by rcases hmd.own i hi with q | q; exact .inl (.inr (.inr (.inr q))); exact .inr q)
          have c1 := hS.1.1
          have f1 := hS.1.2
          have HN := hide hS.2
          have hno2 : ¬ (fun i => K.vH.ownBlock = some i) w.heap.size := fun q => by have := (HX3.out.typed (.inr (.inr (.inr q)))).2.2; obtain ⟨cur, t, e1, e2⟩ := this; rw [HK2.out] at e1; have := (Obj.cells.inj (Option.some.inj e1)).2.1; subst this; revert e2; decide
          have HK5 := hide ((hmd.blk _ (lt_of_block HK2.out) hno2).trans HK2.out)
          have HK6 := hide ((Below.heap_setCell _ ⟨K.kb, 3, none⟩ (.slice a9 (S.H.length + 1) c9) _ (show w.heap.size ≠ K.kb by have := HKL.out; omega)).trans HK5.out)
          clear hown hgr hat hS hmd hno2
          refine hK.out _ _ HK5.out (fun hHeld => ?_)
          clear hK KN
          try simp [Act.put]
          refine wpAnyH_take (i := 9) (v := ?v231) rfl (by kernel_rfl) (by kernel_rfl) (by kernel_rfl) (fun _ _ _ h => h) (Or.inl ⟨by rfl, ?hy231⟩) hHeld ?rest231
          case hy231 => (intro w' hSw; obtain ⟨s0, s1, s2, s3⟩ := bx4 hSw; go_simp; try with_reducible rfl)
          try simp [Act.put]
          refine wpAnyH_take (i := 10) (v := ?v232) rfl (by kernel_rfl) (by kernel_rfl) (by kernel_rfl) (fun _ _ _ h => h) (Or.inl ⟨by rfl, ?hy232⟩) hHeld ?rest232
          case hy232 => (intro w' hSw; obtain ⟨s0, s1, s2, s3⟩ := bx4 hSw; go_simp; try with_reducible rfl)
          try simp [Act.put]
          refine wpAnyH_ready (rs := [11]) (by kernel_rfl) (by simp) ?_
          refine AllReadyH.cons rfl (fun KN hK => ?_) AllReadyH.nil
          go_simp
          refine hK.out _ _ HK6.out (fun hHeld => ?_)
          clear hK KN
          try simp [Act.put]
          refine wpAnyH_done (by kernel_rfl) (NoPanic.normal ?_) _
          go_wp2_with fail
          try go_end0
          exact ⟨rfl, ⟨K.kb, K.vE, K.vG, (.slice oa (layV S.V x).length oc), .slice a9 (S.H.length + 1) c9⟩, rfl, HN.out.1, HN.out.2⟩
end Go.Proofs.YtonhmihmnkicdaaGreat
namespace Go.Proofs.YtonhmihmnkicdaaGreat
open Go.RowKit
set_option linter.unusedVariables false
theorem en_info5 : (Tryz.prog.info? 38).map (fun i => (i.zero, i.size, i.bytes)) = some (some (.agg #[.string ⟨#[]⟩, .int .i64 0, .int .i64 0, .int .i64 0, .string ⟨#[]⟩]), 5, 56) := by kernel_rfl
theorem enC_one (e : En) : ∀ u ∈ enC e, u.oneCell' = true := by intro u hu; simp [enC] at hu; rcases hu with rfl | rfl | rfl | rfl | rfl <;> rfl
theorem cell_en_new (w : World) (e : En) (t : TypeId) : ∀ j u, (enC e)[j]? = some u → (w.alloc (.cells #[.string e.key, .int .i64 e.vol, .int .i64 e.off, .int .i64 e.len, .string e.dig] t)).cell? ((⟨w.heap.size, 0, none⟩ : Addr).add j) = some u := by
  intro j u hj
  rw [add_plain, cell_of_block (heap_alloc_new w (.cells #[.string e.key, .int .i64 e.vol, .int .i64 e.off, .int .i64 e.len, .string e.dig] t)), Nat.zero_add]
  match j, hj with
  | 0, hj => exact hj
  | 1, hj => exact hj
  | 2, hj => exact hj
  | 3, hj => exact hj
  | 4, hj => exact hj
/-- a row of entries in blocks that are new since w0 -/
structure Ge (B : Nat) (w0 wr : World) (v : Value) (L : List En) : Prop where
  row : wr.ownsRow B 38 5 v L.length (enL L)
  new : ∀ i, v.ownBlock = some i → w0.heap.size ≤ i
theorem Ge.nil (B : Nat) (w0 wr : World) : Ge B w0 wr (.slice none 0 0) [] := ⟨World.ownsRow_nil _ _ _ _, fun i hi => by cases hi⟩
theorem Ge.below {B : Nat} {w0 wr w' : World} {v : Value} {L : List En} (h : Ge B w0 wr v L) (hb : Below wr.heap.size wr w') : Ge B w0 w' v L := ⟨own_below h.row hb, h.new⟩
theorem Ge.push {B : Nat} {w0 W : World} (hB : B ≤ w0.heap.size) (hbel : Below w0.heap.size w0 W) {v : Value} {L : List En} (hg : Ge B w0 W v L) (e : En) {o : Obj} {w1 : World} {v' : Value}
    (hown : w1.ownsRow B 38 5 v' (L.length + 1) (enL L ++ enC e)) (hgr : (W.alloc o).grownBy w1 v.ownBlock) (hat : v'.ownBlock = v.ownBlock ∨ v'.ownBlock = some (W.alloc o).heap.size) : Ge B w0 w1 v' (L ++ [e]) ∧ Below w0.heap.size w0 w1 := by
  have hM := app_mdsE (by decide) (Nat.le_trans hB hbel.size) hg.row hgr hat
  refine ⟨⟨by rw [enL_snoc, List.length_append]; exact hown, fun i hi => ?_⟩, hM.bel.os.trans hbel.os, hM.bel.tape.trans hbel.tape, hM.bel.output.trans hbel.output, Nat.le_trans hbel.size hM.size, fun k hk => ?_⟩
  · rcases hM.own i hi with q | q
    · exact hg.new i q
    · have := hbel.size; omega
  · exact (hM.blk k (Nat.lt_of_lt_of_le hk hbel.size) (fun e => by have := hg.new k e; omega)).trans (hbel.block k hk)
theorem kx_entryV {B : Nat} {w : World} {K : Kx} {S : KS} {X : FX} (h : KxAt B w K S) (hr : Rel S X) (hn : S.E.length ≤ 100000) {i : Nat} {e : En} (he : S.E[i]? = some e) {k : ByteArray} (hk : e.key = k) : Calls Tryz.prog 33 #[.pointer (some ⟨K.kb, 0, none⟩), .string k] w fun e w' => e = .returned (.int .i64 (i : Int)) ∧ w' = w := by
  refine (kx_entry h hn k).mono ?_
  rintro e' w' ⟨r, rfl, hE, rfl⟩
  refine ⟨?_, rfl⟩
  rcases hE with ⟨_, h2⟩ | ⟨j, u, rfl, h2, h3⟩
  · exact absurd hk (h2 e (List.mem_of_getElem? he))
  · obtain ⟨hi, e1⟩ := List.getElem?_eq_some_iff.1 he
    obtain ⟨hj, e2⟩ := List.getElem?_eq_some_iff.1 h2
    have : j = i := by
      rcases Nat.lt_trichotomy j i with q | q | q
      · have := List.pairwise_iff_getElem.1 hr.ke j i hj hi q
        rw [e1, e2] at this
        exact absurd (h3.trans hk.symm) this
      · exact q
      · have := List.pairwise_iff_getElem.1 hr.ke i j hi hj q
        rw [e1, e2] at this
        exact absurd (hk.trans h3.symm) this
    rw [this]
theorem vstH (W : World) (q1 q2 q3 : Int) (a : Option Addr) (m c : Nat) : ((W.alloc (.cells #[.int .i64 0, .int .i64 0, .int .i64 0, .slice none 0 0] 36)).setRow W.heap.size #[.int .i64 q1, .int .i64 q2, .int .i64 q3, .slice a m c]).heap[W.heap.size]? = some (.cells #[.int .i64 q1, .int .i64 q2, .int .i64 q3, .slice a m c] 36 (0, 0)) := (vst (Below.refl W.heap.size W) rfl q1 q2 q3 a m c).1
theorem vstB (W : World) (q1 q2 q3 : Int) (a : Option Addr) (m c : Nat) : Below W.heap.size W ((W.alloc (.cells #[.int .i64 0, .int .i64 0, .int .i64 0, .slice none 0 0] 36)).setRow W.heap.size #[.int .i64 q1, .int .i64 q2, .int .i64 q3, .slice a m c]) := (vst (Below.refl W.heap.size W) rfl q1 q2 q3 a m c).2
/-- how far remove has come -/
structure RmI (B : Nat) (w : World) (E : List En) (k : ByteArray) (id : Int) (j : Nat) (b : Bool) (v : Value) (wr : World) : Prop where
  row : Ge B w wr v (remE (E.take j) k)
  ok : b = true ↔ ∃ e ∈ remE (E.take j) k, e.vol = id
  bel : Below w.heap.size w wr
theorem kstr1 : (Tryz.prog.info? 9).map (fun i => (i.zero, i.size, i.bytes)) = some (some (.string ⟨#[]⟩), 1, 16) := by kernel_rfl
set_option maxRecDepth 100000 in
set_option maxHeartbeats 16000000 in
theorem kx_remove {B : Nat} {w : World} {K : Kx} {S : KS} {X : FX} (h : KxAt B w K S) (hr : Rel S X) (hi : X.Inv) (hn : S.le 99999) (k : ByteArray) (hT : X.getE k = 0) : Calls Tryz.prog 40 #[.pointer (some ⟨K.kb, 0, none⟩), .string k] w fun e w' => ∃ K' a c, e = .returned (.slice a (X.remO k).length c) ∧ (X.remO k).length ≤ c ∧ VosAt B w' a (X.remO k) ∧ K'.kb = K.kb ∧ KxAt B w' K' (S.rem X k) ∧ Mds B K.own w K'.own w' := by
  obtain ⟨e0, hT0⟩ := get_zero hT
  obtain ⟨he0, hek0⟩ := hr.memE hT0
  obtain ⟨i, hil, hie⟩ := List.getElem_of_mem he0
  have hi0 : S.E[i]? = some e0 := by rw [List.getElem?_eq_getElem hil, hie]
  obtain ⟨m, hm⟩ : ∃ m, S.E.length = m := ⟨_, rfl⟩
  obtain ⟨g, ec, hv, hec, hgl, _⟩ := kx_slice h hi0
  rw [hm] at hv hec
  have hkc := (kx_cells h hm hv hi0).2.1
  have c0 := h.cells.1
  rw [hv] at c0
  have hmn : m ≤ 99999 := by rw [← hm]; exact hn.e
  have him : (i : Int) < (m : Int) := by rw [← hm]; exact Int.ofNat_lt.2 hil
  have hi00 : (0 : Int) ≤ (i : Int) := by omega
  have hvo : X.volOf k = e0.vol := by unfold FX.volOf; rw [hT0]; rfl
  obtain ⟨id, hid⟩ : ∃ id, e0.vol = id := ⟨_, rfl⟩
  rw [hid] at hkc hvo
  obtain ⟨vv, hVV, _⟩ := (hi.t _ _ hT0).2.2.2.2.2
  rw [hid] at hVV
  have HVV := hide hVV
  have HVO := hide hvo
  have r0 := fun q => Calls.quiet_of_same (kx_entryV (h.below (drawn_below (Below.refl _ _) q)) hr (by have := hn.e; omega) hi0 hek0)
  have HX := hide h
  have HRL := hide hr
  have HN := hide hn
  have HM := hide hm
  have HV := hide hv
  have HC0 := hide c0
  have HKL := hide (lt_of_block h.box)
  have HBW := hide h.Bw
  clear h hr hi hn hT hT0 he0 hek0 hi0 hil hie hm hv hvo hid hVV
  obtain ⟨i0, hi0, hz0, hz1, hz2⟩ := info_parts en_info5
  have HI := hide hi0
  have HI0 := hide hz0
  have HI1 := hide hz1
  have HI2 := hide hz2
  obtain ⟨j0, hj0, hy0, hy1, hy2⟩ := info_parts kstr1
  have HJ := hide hj0
  have HJ0 := hide hy0
  have HJ1 := hide hy1
  have HJ2 := hide hy2
  clear hi0 hz0 hz1 hz2 hj0 hy0 hy1 hy2
  go_enter Tryz.func40, Tryz.ntmps40
  go_wp2_with fail
  go_quiet (first | (with_reducible exact r0 _))
  have HDQ := hide (drawn_below (Below.refl w.heap.size w) nq)
  generalize w.drewN nq = WA at *
  clear r0 hkc c0 him hi00
  go_wp2_with fail
  go_loopw [6, 7, 8] (fun v b y wr => ∃ (j : Nat) (bb : Bool), j ≤ m ∧ y = .int .i64 j ∧ b = .bool bb ∧ Hid (RmI B w S.E k id j bb v wr)) (fun v b y _ => m - (kIx y).toNat)
  case atStart => exact ⟨0, false, by omega, rfl, rfl, hide ⟨Ge.nil B w WA, by simp [remE], HDQ.out⟩⟩
  case round =>
    obtain ⟨j, bb, hj, rfl, rfl, HO⟩ := hrel
    have c0 : wr.cell? ⟨K.kb, 0, none⟩ = some (.slice (some ⟨g, 0, none⟩) m ec) := (HO.out.bel.cell (p := ⟨K.kb, 0, none⟩) HKL.out).trans HC0.out
    by_cases hlt : j < m
    · have hd : decide ((j : Int) < (m : Int)) = true := by simp; omega
      have hdi : (j : Int) < (m : Int) := by omega
      have hd0 : (0 : Int) ≤ (j : Int) := by omega
      obtain ⟨e, he⟩ : ∃ e, S.E[j]? = some e := ⟨_, List.getElem?_eq_getElem (by have := HM.out; omega)⟩
      obtain ⟨k0, k1, k2, k3, k4⟩ := kx_cells (HX.out.below HO.out.bel) HM.out HV.out he
      have HTO := hide (remE_snoc k he)
      have HRLE : Hid ((remE (S.E.take j) k).length ≤ j) := by have := remE_len (S.E.take j) k; rw [List.length_take] at this; unfold Hid; omega
      have HE := hide he
      clear he
      by_cases hq : e.key = k
      · have g1 := str_eq hq
        have HN2 : Hid (RmI B w S.E k id (j + 1) bb u6 wr) := by
          have t := HTO.out
          rw [if_neg (by simpa using hq)] at t
          exact ⟨by rw [t]; exact HO.out.row, by rw [t]; exact HO.out.ok, HO.out.bel⟩
        clear hq
        go_wp2_with fail
        all_goals exact ⟨⟨j + 1, bb, by omega, by go_num, rfl, HN2⟩, by simp [kIx]; omega⟩
      · have g1 := str_ne hq
        have HT2 : Hid (remE (S.E.take (j + 1)) k = remE (S.E.take j) k ++ [e]) := by have t := HTO.out; rw [if_pos hq] at t; exact t
        have hgq := HO.out.row
        have HPUSH : Hid (∀ {o : Obj} {w1 : World} {v' : Value}, w1.ownsRow B 38 5 v' ((remE (S.E.take j) k).length + 1) (enL (remE (S.E.take j) k) ++ enC e) → (wr.alloc o).grownBy w1 u6.ownBlock → (v'.ownBlock = u6.ownBlock ∨ v'.ownBlock = some (wr.alloc o).heap.size) → Ge B w w1 v' (remE (S.E.take j) k ++ [e]) ∧ Below w.heap.size w w1) := fun h1 h2 h3 => Ge.push HBW.out HO.out.bel hgq e h1 h2 h3
        have HGQ := hide hgq
        have hsz3 : B ≤ wr.heap.size := Nat.le_trans HBW.out HO.out.bel.size
        clear hq hgq
        go_upto_region 9 with (first | (at_builtin; refine wpList_append_own_at _ rfl (.tmp 40) (.tmp 48) 28 rfl B 38 i0 (.agg #[.string ⟨#[]⟩, .int .i64 0, .int .i64 0, .int .i64 0, .string ⟨#[]⟩]) 5 56 Tryz.underlying28 HI.out HI0.out HI1.out HI2.out rfl (by decide) _ _ _ rfl (HGQ.out.row.alloc _) ⟨wr.heap.size, 0, none⟩ 1 1 (enC e) rfl (by simp [enC]) (cell_en_new wr e 38) (enC_one _) (by have := HRLE.out; unfold maxLen; omega) (by have := HRLE.out; omega) (by rw [World.size_alloc]; omega) ?_; intro v' w3 hown hgr hnil hat; clear hnil; have HN := hide (HPUSH.out hown hgr hat); clear hown hgr hat))
        have c0 : w3.cell? ⟨K.kb, 0, none⟩ = some (.slice (some ⟨g, 0, none⟩) m ec) := (HN.out.2.cell (p := ⟨K.kb, 0, none⟩) HKL.out).trans HC0.out
        obtain ⟨k0, k1, k2, k3, k4⟩ := kx_cells (HX.out.below HN.out.2) HM.out HV.out HE.out
        cases bb with
        | true =>
          have HN2 : Hid (RmI B w S.E k id (j + 1) true v' w3) := by
            obtain ⟨x, hx, hxv⟩ := HO.out.ok.1 rfl
            exact ⟨by rw [HT2.out]; exact HN.out.1, by rw [HT2.out]; exact ⟨fun _ => ⟨x, by simp [hx], hxv⟩, fun _ => rfl⟩, HN.out.2⟩
          go_wp2_with fail
          all_goals exact ⟨⟨j + 1, true, by omega, by go_num, rfl, HN2⟩, by simp [kIx]; omega⟩
        | false =>
          by_cases hz : e.vol = id
          · have g4 : (e.vol == id) = true := by simpa using hz
            have HN2 : Hid (RmI B w S.E k id (j + 1) true v' w3) := ⟨by rw [HT2.out]; exact HN.out.1, by rw [HT2.out]; exact ⟨fun _ => ⟨e, by simp, hz⟩, fun _ => rfl⟩, HN.out.2⟩
            clear hz
            go_wp2_with fail
            all_goals exact ⟨⟨j + 1, true, by omega, by go_num, rfl, HN2⟩, by simp [kIx]; omega⟩
          · have g4 : (e.vol == id) = false := by simpa using hz
            have HN2 : Hid (RmI B w S.E k id (j + 1) false v' w3) := by
              refine ⟨by rw [HT2.out]; exact HN.out.1, ?_, HN.out.2⟩
              rw [HT2.out]
              refine ⟨fun q => (by cases q), ?_⟩
              rintro ⟨x, hx, hxv⟩
              rcases List.mem_append.1 hx with q | q
              · exact HO.out.ok.2 ⟨x, q, hxv⟩
              · rw [List.mem_singleton.1 q] at hxv; exact absurd hxv hz
            clear hz
            go_wp2_with fail
            all_goals exact ⟨⟨j + 1, false, by omega, by go_num, rfl, HN2⟩, by simp [kIx]; omega⟩
    · have hd : decide ((j : Int) < (m : Int)) = false := by simp; omega
      have hkk : S.E.take j = S.E := List.take_of_length_le (by have := HM.out; omega)
      have hrow := HO.out.row
      have hok := HO.out.ok
      rw [hkk] at hrow hok
      have HOK := hide hok
      obtain ⟨⟨cs, fs⟩, hP, hM⟩ := HX.out.setE (Mds.refl B K.own w) (fun _ q => q) ((Mds.of_below (fun i => K.vE.ownBlock = some i) HO.out.bel HBW.out).refill fun i hi => hi.elim) hrow.row (fun i hi => .inr (hrow.new i hi))
      rw [HV.out] at cs
      obtain ⟨va, vc, rfl, _, _⟩ := own_slice hrow.row
      have HP := hide hP
      have HMD := hide hM
      clear hkk hok hrow hP hM
      go_upto_region 11 with fail
      generalize wr.setCell ⟨K.kb, 0, none⟩ (.slice va (remE S.E k).length vc) = W1 at *
      clear cs fs c0 HO hd
      have c1 := HP.out.cells.2.1
      have HBW1 : Hid (B ≤ W1.heap.size) := HP.out.Bw
      have hsz3 : B ≤ W1.heap.size := HBW1.out
      have HGN : Hid (S.G.length ≤ 99999) := HN.out.g
      go_upto_region 12 with (first | (at_builtin; refine wpList_append_own_at _ rfl (.tmp 71) (.tmp 73) 23 rfl B 9 j0 (.string ⟨#[]⟩) 1 16 Tryz.underlying23 HJ.out HJ0.out HJ1.out HJ2.out rfl (by decide) K.vG S.G.length (ksS S.G) rfl (HP.out.g.alloc _) ⟨W1.heap.size, 0, none⟩ 1 1 [.string k] rfl rfl (cell_one_str W1 (.string k) 9) (by simp [Value.oneCell']) (by have := HGN.out; unfold maxLen; omega) (by have := HGN.out; omega) (by rw [World.size_alloc]; omega) ?_; intro v' w3 hown hgr hnil hat; clear hnil; obtain ⟨a9, c9, rfl, -, -⟩ := own_slice hown; have hmd := app_mdsE (v' := .slice a9 (S.G.length + 1) c9) (by decide) HBW1.out HP.out.g hgr hat; have hS := HP.out.setG HMD.out (fun _ q => q) (v := .slice a9 (S.G.length + 1) c9) (L := S.G ++ [k]) (hmd.refill fun i hi => hi.elim) (by rw [ksS_snoc, List.length_append]; exact hown) (fun i hi => by rcases hmd.own i hi with q | q; exact .inl (.inr (.inr (.inl q))); exact .inr q); have c5 := hS.1.1; have f5 := hS.1.2; have HS := hide hS.2; clear hown hgr hat hS hmd))
      have HP2 := hide HS.out.1
      have HM2 := hide HS.out.2
      generalize w3.setCell ⟨K.kb, 1, none⟩ (.slice a9 (S.G.length + 1) c9) = W2 at *
      clear HS c5 f5 c1
      have hr2 := rel_del HRL.out k
      have HR2 := hide hr2
      have HLV : Hid (bb = true ↔ livT (X.del k).T id) := HOK.out.trans (livT_list hr2 id).symm
      have HRS : Hid (S.rem X k = if bb = true then ⟨remE S.E k, S.G ++ [k], S.V, S.H⟩ else ⟨remE S.E k, S.G ++ [k], witV S.V id, S.H⟩) := by
        unfold Hid KS.rem
        rw [HVO.out]
        by_cases q : livT (X.del k).T id
        · rw [if_pos q, if_pos (HLV.out.2 q)]
        · rw [if_neg q, if_neg (fun z => q (HLV.out.1 z))]
      have HRO : Hid (X.remO k = if bb = true then [] else [X.vol id]) := by
        unfold Hid FX.remO
        rw [HVO.out]
        by_cases q : livT (X.del k).T id
        · rw [if_pos q, if_pos (HLV.out.2 q)]
        · rw [if_neg q, if_neg (fun z => q (HLV.out.1 z))]
      clear hr2
      cases bb with
      | true =>
        go_wp2_with fail
        try go_ret
        rw [HRO.out.trans (if_pos (by simp)), HRS.out.trans (if_pos (by simp))]
        exact ⟨⟨K.kb, .slice va (remE S.E k).length vc, .slice a9 (S.G.length + 1) c9, K.vV, K.vH⟩, none, 0, rfl, Nat.le_refl _, .inl rfl, rfl, HP2.out, HM2.out⟩
      | false =>
        go_wp2_with fail
        refine (kx_volume HP2.out HR2.out (by have := HN.out.v; show S.V.length ≤ _; omega) id).mono ?_
        rintro e W3 ⟨la, lc, rfl, hlk, hb3⟩
        have hvl : (X.del k).vol id = vv := by unfold FX.vol; show (X.V id).getD vd0 = _; rw [HVV.out]; rfl
        have hvl2 : X.vol id = vv := hvl
        rw [hvl] at hlk ⊢
        have HVL := hide hvl2
        obtain ⟨v1, v2, v3, vl⟩ := vv
        obtain ⟨ml, hml⟩ : ∃ ml, vl.length = ml := ⟨_, rfl⟩
        simp only [hml] at hlk ⊢
        have HML := hide hml
        have HB3 := hide hb3
        have HLK := hide hlk
        have hbv := hb3.trans ((vstB W3 v1 v2 v3 la ml lc).mono hb3.size)
        have HBV := hide hbv
        have HP3 := hide (HP2.out.below hbv)
        have HM3 := hide (HM2.out.trans (Mds.of_below _ hbv HP2.out.Bw))
        have HBX := hide (vstH W3 v1 v2 v3 la ml lc)
        have HLK3 := hide (HLK.out.below (vstB W3 v1 v2 v3 la ml lc))
        clear hb3 hlk hml hvl hvl2 hbv
        go_upto_region 15 with (first | (refine wpList_store_row rfl 36 (.tmp 9) (.tmp 82) rfl W3.heap.size #[.int .i64 v1, .int .i64 v2, .int .i64 v3, .slice la ml lc] rfl rfl 36 _ (heap_alloc_new _ _) vol_size4 rfl (vol_one _ _ _ _ _ _) ?_))
        generalize (W3.alloc (.cells #[.int .i64 0, .int .i64 0, .int .i64 0, .slice none 0 0] 36)).setRow W3.heap.size #[.int .i64 v1, .int .i64 v2, .int .i64 v3, .slice la ml lc] = W4 at *
        obtain ⟨mV, hmV⟩ : ∃ mV, S.V.length = mV := ⟨_, rfl⟩
        obtain ⟨av, cv, _, hcv, c2, hvos⟩ := kx_vslice HP3.out (show S.V.length = mV from hmV)
        have HVS := hide hvos
        have HMV := hide hmV
        have hvn : mV ≤ 100000 := by have := HN.out.v; omega
        clear hvos hmV
        go_wp2_with fail
        refine (kx_without HMV.out hvn HVS.out HP3.out.Bw hcv id).mono ?_
        rintro e W5 ⟨wv, rfl, hgw, hb5⟩
        obtain ⟨⟨c6, f6⟩, hP6, hM6⟩ := HP3.out.setV HM3.out (fun _ q => q) (Mds.of_below (fun _ => False) hb5 HP3.out.Bw) hgw.row
        obtain ⟨wa, wc, rfl, _, _⟩ := hgw.row.form
        have HP6 := hide hP6
        have HM6 := hide hM6
        have hw3 : W3.heap.size < W4.heap.size := lt_of_block HBX.out
        have hkb : W3.heap.size ≠ K.kb := fun q => by have := lt_of_block HP2.out.box; have := HB3.out.size; simp only at *; omega
        have HBX6 := hide ((Below.heap_setCell W5 ⟨K.kb, 2, none⟩ (.slice wa (witV S.V id).length wc) _ hkb).trans ((hb5.block _ hw3).trans HBX.out))
        have HLK6 := hide (HLK3.out.below hb5 |>.mod (mds_kb (B := B) ((hb5.block _ (lt_of_block HP3.out.box)).trans HP3.out.box) HP3.out.lb 2 (.slice wa (witV S.V id).length wc)))
        clear hgw hb5 hP6 hM6 hw3 hkb c2
        go_upto_region 16 with fail
        generalize W5.setCell ⟨K.kb, 2, none⟩ (.slice wa (witV S.V id).length wc) = W6 at *
        clear c6 f6
        go_wp2_with (first | (refine wpList_load_row rfl 36 (.tmp 9) rfl W3.heap.size rfl 36 #[.int .i64 v1, .int .i64 v2, .int .i64 v3, .slice la ml lc] (0, 0) _ HBX6.out Tryz.underlying36 rfl vol_size4 ?_))
        try go_ret
        rw [HRO.out.trans (if_neg (by simp)), HRS.out.trans (if_neg (by simp)), HVL.out]
        have hba : Below W6.heap.size W6 (W6.alloc (.cells #[.int .i64 v1, .int .i64 v2, .int .i64 v3, .slice la ml lc] 36)) := (Below.refl _ _).alloc (Nat.le_refl _) _
        exact ⟨⟨K.kb, .slice va (remE S.E k).length vc, .slice a9 (S.G.length + 1) c9, .slice wa (witV S.V id).length wc, K.vH⟩, some ⟨W6.heap.size, 0, none⟩, 1, rfl, Nat.le_refl _, one_vos HML.out HLK6.out, rfl, HP6.out.below hba, HM6.out.trans (Mds.of_below _ hba HP6.out.Bw)⟩
end Go.Proofs.YtonhmihmnkicdaaGreat
namespace Go.Proofs.YtonhmihmnkicdaaGreat
open Go.RowKit
set_option linter.unusedVariables false
theorem kx_keep {B : Nat} {W W' : World} {K : Kx} {S : KS} {A' : Nat → Prop} (h : KxAt B W K S) (m : Mds B K.own W A' W') {b : Nat} {cur : Array Value} {t : TypeId} {fr : Nat × Nat} (hb : W.heap[b]? = some (.cells cur t fr)) (ht : t ≠ 32 ∧ t ≠ 38 ∧ t ≠ 9 ∧ t ≠ 3) : W'.heap[b]? = some (.cells cur t fr) :=
  (m.blk b (lt_of_block hb) (h.other hb ht)).trans hb
theorem en5 {W : World} {b : Nat} {v0 v1 v2 v3 v4 : Value} (h : W.heap[b]? = some (.cells #[v0, v1, v2, v3, v4] 38 (0, 0))) : W.cell? ⟨b, 0, none⟩ = some v0 ∧ W.cell? ⟨b, 1, none⟩ = some v1 ∧ W.cell? ⟨b, 2, none⟩ = some v2 ∧ W.cell? ⟨b, 3, none⟩ = some v3 ∧ W.cell? ⟨b, 4, none⟩ = some v4 :=
  ⟨cell_of_block h, cell_of_block h, cell_of_block h, cell_of_block h, cell_of_block h⟩
theorem en5f {W : World} {b : Nat} {v0 v1 v2 v3 v4 : Value} (h : W.heap[b]? = some (.cells #[v0, v1, v2, v3, v4] 38 (0, 0))) : W.frozen? ⟨b, 1, none⟩ = false ∧ W.frozen? ⟨b, 2, none⟩ = false := ⟨free_of_block h, free_of_block h⟩
theorem ensH (W : World) (e : En) : ((W.alloc (.cells #[.string ⟨#[]⟩, .int .i64 0, .int .i64 0, .int .i64 0, .string ⟨#[]⟩] 38)).setRow W.heap.size #[.string e.key, .int .i64 e.vol, .int .i64 e.off, .int .i64 e.len, .string e.dig]).heap[W.heap.size]? = some (.cells #[.string e.key, .int .i64 e.vol, .int .i64 e.off, .int .i64 e.len, .string e.dig] 38 (0, 0)) := setRow_heap _ _ _ _ _ _ (heap_alloc_new _ _)
theorem ensB (W : World) (e : En) : Below W.heap.size W ((W.alloc (.cells #[.string ⟨#[]⟩, .int .i64 0, .int .i64 0, .int .i64 0, .string ⟨#[]⟩] 38)).setRow W.heap.size #[.string e.key, .int .i64 e.vol, .int .i64 e.off, .int .i64 e.len, .string e.dig]) := below_setRow ((Below.refl _ _).alloc (Nat.le_refl _) _) (Nat.le_refl _) _
set_option maxRecDepth 100000 in
set_option maxHeartbeats 16000000 in
theorem kx_merge {B : Nat} {w : World} {K : Kx} {S : KS} {X : FX} (h : KxAt B w K S) (hr : Rel S X) (hi : X.Inv) (hn : S.le 99998) (r : Rc) (a : Option Addr) (c : Nat) (hls : LocsK B w a r.ls) (hm : X.mrgE r = 0) (hne : r.f ≠ r.t) : Calls Tryz.prog 42 #[.pointer (some ⟨K.kb, 0, none⟩), .agg (rcs r a c)] w fun e w' => ∃ K' a' c', e = .returned (.slice a' (X.mrgO r).length c') ∧ (X.mrgO r).length ≤ c' ∧ VosAt B w' a' (X.mrgO r) ∧ K'.kb = K.kb ∧ KxAt B w' K' (S.mrg X r) ∧ Mds B K.own w K'.own w' := by
  obtain ⟨oa, ob, hVf, hVt, hHv, hlen⟩ := mrg_zero hm
  have hva : X.vol r.f = oa := by unfold FX.vol; rw [hVf]; rfl
  have hvb : X.vol r.t = ob := by unfold FX.vol; rw [hVt]; rfl
  have hvb2 : (X.end r.f).vol r.t = ob := by
    show (vset X.V r.f none r.t).getD vd0 = ob
    unfold vset; rw [if_neg (fun e => hne e.symm), hVt]; rfl
  have HMO : Hid (X.mrgO r = [oa, ob]) := by unfold Hid FX.mrgO; rw [hva, hvb2]
  have hA := (hi.v _ _ hVf)
  have HALN : Hid (0 ≤ oa.len ∧ oa.len ≤ 384) := ⟨hA.2.2.1, hA.2.2.2.1⟩
  have HOFF : Hid (∀ e ∈ S.E, 0 ≤ e.off ∧ e.off ≤ 384) := fun e he => by
    obtain ⟨_, _, q3, q4, _, v, q6, q7⟩ := hi.t _ _ (hr.ofE he)
    have := (hi.v _ _ q6).2.2.2.1
    omega
  obtain ⟨gE, hgE⟩ : ∃ gE : En → En, (fun e => mrgEd e r.f r.t r.vid oa.len) = gE := ⟨_, rfl⟩
  have HSM : Hid (S.mrg X r = ⟨S.E.map gE, S.G, layV (witV (witV S.V r.f) r.t) (rVD r), S.H ++ [r.vid]⟩) := by unfold Hid KS.mrg; rw [hva, ← hgE]
  have HgE : Hid (∀ e, mrgEd e r.f r.t r.vid oa.len = gE e) := fun e => congrFun hgE e
  have HRW := hide (rbx_new 40 r a c w)
  have hb1 : Below w.heap.size w (w.alloc (.cells (rcs r a c) 40)) := (Below.refl _ _).alloc (Nat.le_refl _) _
  have HB1 := hide hb1
  have HX1 := hide (h.below hb1)
  have HLS := hide (hls.below hb1)
  have HX := hide h
  have HRL := hide hr
  have HNN := hide hn
  have HBW := hide h.Bw
  have HKL := hide (lt_of_block h.box)
  have HVA := hide hva
  have HVB := hide hvb
  obtain ⟨m, hmm⟩ : ∃ m, S.E.length = m := ⟨_, rfl⟩
  have HM := hide hmm
  have hmn : m ≤ 99998 := by rw [← hmm]; exact hn.e
  obtain ⟨ea, ec, hve, hec, _⟩ := own_slice h.e
  rw [hmm] at hve hec
  have HVE := hide hve
  clear h hr hi hn hls hm hb1 hva hvb hvb2 hVf hVt hHv hlen hA hgE hmm hve
  obtain ⟨i0, hi0, hz0, hz1, hz2⟩ := info_parts en_info5
  have HI := hide hi0
  have HI0 := hide hz0
  have HI1 := hide hz1
  have HI2 := hide hz2
  clear hi0 hz0 hz1 hz2
  go_enter Tryz.func42, Tryz.ntmps42
  go_upto_region 1 with fail
  generalize w.alloc (.cells (rcs r a c) 40) = W1 at *
  have e12 := HRW.out.c12
  go_wp2_with fail
  refine (kx_volume HX1.out HRL.out (by have := HNN.out.v; omega) r.f).mono ?_
  rintro e W2 ⟨pa, pc, rfl, hlk, hb2⟩
  rw [HVA.out] at hlk ⊢
  have HOA : Hid (∃ p1 p2 p3 pl, oa = ⟨p1, p2, p3, pl⟩) := ⟨_, _, _, _, rfl⟩
  obtain ⟨p1, p2, p3, pl, hoa⟩ := HOA.out
  subst hoa
  obtain ⟨pm, hpm⟩ : ∃ pm, pl.length = pm := ⟨_, rfl⟩
  simp only [hpm] at hlk ⊢
  have HPM := hide hpm
  have hb3 := hb2.trans ((vstB W2 p1 p2 p3 pa pm pc).mono hb2.size)
  have HB3 := hide hb3
  have HBW3 := hide (HB1.out.trans (hb3.mono HB1.out.size))
  have HX3 := hide (HX1.out.below hb3)
  have HR3 := hide (HRW.out.below hb3 HRW.out.lt)
  have H5 := hide (vstH W2 p1 p2 p3 pa pm pc)
  have HLA := hide (hlk.below (vstB W2 p1 p2 p3 pa pm pc))
  clear hlk hpm hb2 hb3 e12
  go_upto_region 2 with (first | (refine wpList_store_row rfl 36 (.tmp 5) (.tmp 17) rfl W2.heap.size #[.int .i64 p1, .int .i64 p2, .int .i64 p3, .slice pa pm pc] rfl rfl 36 _ (heap_alloc_new _ _) vol_size4 rfl (vol_one _ _ _ _ _ _) ?_))
  generalize (W2.alloc (.cells #[.int .i64 0, .int .i64 0, .int .i64 0, .slice none 0 0] 36)).setRow W2.heap.size #[.int .i64 p1, .int .i64 p2, .int .i64 p3, .slice pa pm pc] = W3 at *
  generalize W2.heap.size = b5 at *
  have e13 := HR3.out.c13
  go_wp2_with fail
  refine (kx_volume HX3.out HRL.out (by have := HNN.out.v; omega) r.t).mono ?_
  rintro e W4 ⟨qa, qc, rfl, hlk, hb4⟩
  rw [HVB.out] at hlk ⊢
  have HOB : Hid (∃ q1 q2 q3 ql, ob = ⟨q1, q2, q3, ql⟩) := ⟨_, _, _, _, rfl⟩
  obtain ⟨q1, q2, q3, ql, hob⟩ := HOB.out
  subst hob
  obtain ⟨qm, hqm⟩ : ∃ qm, ql.length = qm := ⟨_, rfl⟩
  simp only [hqm] at hlk ⊢
  have HQM := hide hqm
  have hb5 := hb4.trans ((vstB W4 q1 q2 q3 qa qm qc).mono hb4.size)
  have HBW0 := hide (HBW3.out.trans (hb5.mono HBW3.out.size))
  have HX5 := hide (HX3.out.below hb5)
  have HR5 := hide (HR3.out.below hb5 HR3.out.lt)
  have H55 := hide ((hb5.block _ (lt_of_block H5.out)).trans H5.out)
  have H77 := hide (vstH W4 q1 q2 q3 qa qm qc)
  have HLA5 := hide (HLA.out.below hb5)
  have HLB5 := hide (hlk.below (vstB W4 q1 q2 q3 qa qm qc))
  have HLS5 := hide ((HLS.out.below HB3.out).below hb5)
  clear hlk hqm hb4 hb5 e13
  go_upto_region 3 with (first | (refine wpList_store_row rfl 36 (.tmp 7) (.tmp 24) rfl W4.heap.size #[.int .i64 q1, .int .i64 q2, .int .i64 q3, .slice qa qm qc] rfl rfl 36 _ (heap_alloc_new _ _) vol_size4 rfl (vol_one _ _ _ _ _ _) ?_))
  generalize (W4.alloc (.cells #[.int .i64 0, .int .i64 0, .int .i64 0, .slice none 0 0] 36)).setRow W4.heap.size #[.int .i64 q1, .int .i64 q2, .int .i64 q3, .slice qa qm qc] = W5 at *
  generalize W4.heap.size = b7 at *
  clear HLA H5 HR3 HX3 HBW3 HRW HX1 HB1 HB3 HLS
  have HBW5 : Hid (B ≤ W5.heap.size) := HX5.out.Bw
  have HC0 : Hid (W5.cell? ⟨K.kb, 0, none⟩ = some (.slice ea m ec)) := by rw [← HVE.out]; exact HX5.out.cells.1
  go_wp2_with fail
  go_loopw [9, 10] (fun v y wr => ∃ j : Nat, j ≤ m ∧ y = .int .i64 j ∧ Hid (Ge B W5 wr v ((S.E.take j).map gE)) ∧ Hid (Below W5.heap.size W5 wr)) (fun v y _ => m - (kIx y).toNat)
  case atStart => exact ⟨0, by omega, rfl, hide (Ge.nil B W5 W5), hide (Below.refl _ _)⟩
  case round =>
    obtain ⟨j, hj, rfl, HG, HBL⟩ := hrel
    have c0 : wr.cell? ⟨K.kb, 0, none⟩ = some (.slice ea m ec) := (HBL.out.cell (p := ⟨K.kb, 0, none⟩) (lt_of_block HX5.out.box)).trans HC0.out
    by_cases hlt : j < m
    · have hd : decide ((j : Int) < (m : Int)) = true := by simp; omega
      have hdi : (j : Int) < (m : Int) := by omega
      have hd0 : (0 : Int) ≤ (j : Int) := by omega
      obtain ⟨e, he⟩ : ∃ e, S.E[j]? = some e := ⟨_, List.getElem?_eq_getElem (by have := HM.out; omega)⟩
      obtain ⟨g, gc, hv, _, hgl, _⟩ := kx_slice HX5.out he
      rw [HVE.out, HM.out] at hv
      injection hv with hv1 hv2 hv3
      subst hv1
      subst hv3
      obtain ⟨k0, k1, k2, k3, k4⟩ := kx_cells (HX5.out.below HBL.out) HM.out HVE.out he
      have HTO := hide (map_snoc gE he)
      have HLJ : Hid (((S.E.take j).map gE).length ≤ j) := by unfold Hid; rw [List.length_map, List.length_take]; omega
      have HOE := hide (HOFF.out e (List.mem_of_getElem? he))
      have HEH := hide (ensH wr e)
      have HEB := hide (ensB wr e)
      have hsz5 : W5.heap.size ≤ wr.heap.size := HBL.out.size
      clear he hv2
      go_upto_region 8 with (first | (refine wpList_store_row rfl 38 (.tmp 11) (.tmp 41) rfl wr.heap.size #[.string e.key, .int .i64 e.vol, .int .i64 e.off, .int .i64 e.len, .string e.dig] rfl rfl 38 _ (heap_alloc_new _ _) en_info4 rfl (en_one _ _ _ _ _) ?_))
      generalize (wr.alloc (.cells #[.string ⟨#[]⟩, .int .i64 0, .int .i64 0, .int .i64 0, .string ⟨#[]⟩] 38)).setRow wr.heap.size #[.string e.key, .int .i64 e.vol, .int .i64 e.off, .int .i64 e.len, .string e.dig] = Wa at *
      clear k0 k1 k2 k3 k4 c0
      have HBA := hide (HBL.out.trans (HEB.out.mono HBL.out.size))
      have HRa := hide (HR5.out.below HBA.out HR5.out.lt)
      have e2 := HRa.out.c2
      have e12 := HRa.out.c12
      have e13 := HRa.out.c13
      obtain ⟨n0, n1, n2, n3, n4⟩ := en5 HEH.out
      obtain ⟨fn1, fn2⟩ := en5f HEH.out
      by_cases ht : e.vol = r.t
      · have g1 : (e.vol == r.t) = true := by simpa using ht
        obtain ⟨x0, x1, x2, x3⟩ := bx4 ((HBA.out.block _ (lt_of_block H55.out)).trans H55.out)
        have hw : IntKind.i64.wrap (e.off + p3) = e.off + p3 := by have h1 : 0 ≤ p3 ∧ p3 ≤ 384 := HALN.out; have h2 := HOE.out; rw [IntKind.wrap_i64]; omega
        have HTT := hide ht
        clear ht x0 x1 x3
        go_upto_region 10 with fail
        have HEb : Hid ((Wa.setCell ⟨wr.heap.size, 2, none⟩ (.int .i64 (e.off + p3))).heap[wr.heap.size]? = some (.cells #[.string e.key, .int .i64 e.vol, .int .i64 (e.off + p3), .int .i64 e.len, .string e.dig] 38 (0, 0))) := block_setCell (c := #[.string e.key, .int .i64 e.vol, .int .i64 e.off, .int .i64 e.len, .string e.dig]) _ HEH.out
        have HBb := hide (HEB.out.setCell (p := ⟨wr.heap.size, 2, none⟩) (Nat.le_refl _) (.int .i64 (e.off + p3)))
        generalize Wa.setCell ⟨wr.heap.size, 2, none⟩ (.int .i64 (e.off + p3)) = Wb at *
        clear n0 n1 n2 n3 n4 fn1 fn2 e2 e12 e13 g1 x2
        have HRb := hide (HR5.out.below (HBL.out.trans (HBb.out.mono HBL.out.size)) HR5.out.lt)
        have e2 := HRb.out.c2
        obtain ⟨n0, n1, n2, n3, n4⟩ := en5 HEb.out
        obtain ⟨fn1, fn2⟩ := en5f HEb.out
        go_upto_region 13 with fail
        have HEc : Hid ((Wb.setCell ⟨wr.heap.size, 1, none⟩ (.int .i64 r.vid)).heap[wr.heap.size]? = some (.cells #[.string e.key, .int .i64 r.vid, .int .i64 (e.off + p3), .int .i64 e.len, .string e.dig] 38 (0, 0))) := block_setCell (c := #[.string e.key, .int .i64 e.vol, .int .i64 (e.off + p3), .int .i64 e.len, .string e.dig]) _ HEb.out
        have HBc := hide (HBb.out.setCell (p := ⟨wr.heap.size, 1, none⟩) (Nat.le_refl _) (.int .i64 r.vid))
        generalize Wb.setCell ⟨wr.heap.size, 1, none⟩ (.int .i64 r.vid) = Wc at *
        clear n0 n1 n2 n3 n4 fn1 fn2 e2
        have HGW := hide (HG.out.below HBc.out)
        have HBF := hide (HBL.out.trans (HBc.out.mono HBL.out.size))
        have hsz5 : B ≤ Wc.heap.size := Nat.le_trans HBW5.out HBF.out.size
        obtain ⟨GE, hGE⟩ : ∃ GE : En, (⟨e.key, r.vid, e.off + p3, e.len, e.dig⟩ : En) = GE := ⟨_, rfl⟩
        have HGE := hide hGE
        have HGE2 : Hid (gE e = GE) := by unfold Hid; rw [← hGE, ← HgE.out]; unfold mrgEd; rw [if_pos HTT.out]
        clear hGE
        go_wp2_with (first | (refine wpList_load_row rfl 38 (.tmp 11) rfl wr.heap.size rfl 38 #[.string e.key, .int .i64 r.vid, .int .i64 (e.off + p3), .int .i64 e.len, .string e.dig] (0, 0) _ HEc.out Tryz.underlying38 rfl en_info4 ?_) | (at_builtin; refine wpList_append_own_at _ rfl (.tmp 66) (.tmp 68) 28 rfl B 38 i0 (.agg #[.string ⟨#[]⟩, .int .i64 0, .int .i64 0, .int .i64 0, .string ⟨#[]⟩]) 5 56 Tryz.underlying28 HI.out HI0.out HI1.out HI2.out rfl (by decide) _ _ _ rfl (HGW.out.row.alloc _) ⟨Wc.heap.size, 0, none⟩ 1 1 (enC GE) rfl (by simp [enC]) (by rw [← HGE.out]; exact cell_en_new Wc _ 38) (enC_one _) (by have := HLJ.out; unfold maxLen; omega) (by have := HLJ.out; omega) (by rw [World.size_alloc]; omega) ?_; intro v' w3 hown hgr hnil hat; clear hnil; have HN := hide (Ge.push HBW5.out HBF.out HGW.out GE hown hgr hat); clear hown hgr hat))
        all_goals exact ⟨⟨j + 1, by omega, by go_num, by rw [HTO.out, HGE2.out]; exact hide HN.out.1, hide HN.out.2⟩, by simp [kIx]; omega⟩
      · have g1 : (e.vol == r.t) = false := by simpa using ht
        have HTT := hide ht
        clear ht
        by_cases hf : e.vol = r.f
        · have g2 : (e.vol == r.f) = true := by simpa using hf
          have HFF := hide hf
          clear hf
          go_upto_region 13 with fail
          have HEc : Hid ((Wa.setCell ⟨wr.heap.size, 1, none⟩ (.int .i64 r.vid)).heap[wr.heap.size]? = some (.cells #[.string e.key, .int .i64 r.vid, .int .i64 e.off, .int .i64 e.len, .string e.dig] 38 (0, 0))) := block_setCell (c := #[.string e.key, .int .i64 e.vol, .int .i64 e.off, .int .i64 e.len, .string e.dig]) _ HEH.out
          have HBc := hide (HEB.out.setCell (p := ⟨wr.heap.size, 1, none⟩) (Nat.le_refl _) (.int .i64 r.vid))
          generalize Wa.setCell ⟨wr.heap.size, 1, none⟩ (.int .i64 r.vid) = Wc at *
          clear n0 n1 n2 n3 n4 fn1 fn2 e2 e12 e13 g1 g2
          have HGW := hide (HG.out.below HBc.out)
          have HBF := hide (HBL.out.trans (HBc.out.mono HBL.out.size))
          have hsz5 : B ≤ Wc.heap.size := Nat.le_trans HBW5.out HBF.out.size
          obtain ⟨GE, hGE⟩ : ∃ GE : En, (⟨e.key, r.vid, e.off, e.len, e.dig⟩ : En) = GE := ⟨_, rfl⟩
          have HGE := hide hGE
          have HGE2 : Hid (gE e = GE) := by unfold Hid; rw [← hGE, ← HgE.out]; unfold mrgEd; rw [if_neg HTT.out, if_pos HFF.out]
          clear hGE
          go_wp2_with (first | (refine wpList_load_row rfl 38 (.tmp 11) rfl wr.heap.size rfl 38 #[.string e.key, .int .i64 r.vid, .int .i64 e.off, .int .i64 e.len, .string e.dig] (0, 0) _ HEc.out Tryz.underlying38 rfl en_info4 ?_) | (at_builtin; refine wpList_append_own_at _ rfl (.tmp 66) (.tmp 68) 28 rfl B 38 i0 (.agg #[.string ⟨#[]⟩, .int .i64 0, .int .i64 0, .int .i64 0, .string ⟨#[]⟩]) 5 56 Tryz.underlying28 HI.out HI0.out HI1.out HI2.out rfl (by decide) _ _ _ rfl (HGW.out.row.alloc _) ⟨Wc.heap.size, 0, none⟩ 1 1 (enC GE) rfl (by simp [enC]) (by rw [← HGE.out]; exact cell_en_new Wc _ 38) (enC_one _) (by have := HLJ.out; unfold maxLen; omega) (by have := HLJ.out; omega) (by rw [World.size_alloc]; omega) ?_; intro v' w3 hown hgr hnil hat; clear hnil; have HN := hide (Ge.push HBW5.out HBF.out HGW.out GE hown hgr hat); clear hown hgr hat))
          all_goals exact ⟨⟨j + 1, by omega, by go_num, by rw [HTO.out, HGE2.out]; exact hide HN.out.1, hide HN.out.2⟩, by simp [kIx]; omega⟩
        · have g2 : (e.vol == r.f) = false := by simpa using hf
          have HFF := hide hf
          clear hf n0 n2 n3 n4 fn1 fn2 e2
          have HGW := hide (HG.out.below HEB.out)
          have HBF := hide (HBL.out.trans (HEB.out.mono HBL.out.size))
          have hsz5 : B ≤ Wa.heap.size := Nat.le_trans HBW5.out HBF.out.size
          obtain ⟨GE, hGE⟩ : ∃ GE : En, (⟨e.key, e.vol, e.off, e.len, e.dig⟩ : En) = GE := ⟨_, rfl⟩
          have HGE := hide hGE
          have HGE2 : Hid (gE e = GE) := by unfold Hid; rw [← hGE, ← HgE.out]; unfold mrgEd; rw [if_neg HTT.out, if_neg HFF.out]
          clear hGE
          go_wp2_with (first | (refine wpList_load_row rfl 38 (.tmp 11) rfl wr.heap.size rfl 38 #[.string e.key, .int .i64 e.vol, .int .i64 e.off, .int .i64 e.len, .string e.dig] (0, 0) _ HEH.out Tryz.underlying38 rfl en_info4 ?_) | (at_builtin; refine wpList_append_own_at _ rfl (.tmp 66) (.tmp 68) 28 rfl B 38 i0 (.agg #[.string ⟨#[]⟩, .int .i64 0, .int .i64 0, .int .i64 0, .string ⟨#[]⟩]) 5 56 Tryz.underlying28 HI.out HI0.out HI1.out HI2.out rfl (by decide) _ _ _ rfl (HGW.out.row.alloc _) ⟨Wa.heap.size, 0, none⟩ 1 1 (enC GE) rfl (by simp [enC]) (by rw [← HGE.out]; exact cell_en_new Wa _ 38) (enC_one _) (by have := HLJ.out; unfold maxLen; omega) (by have := HLJ.out; omega) (by rw [World.size_alloc]; omega) ?_; intro v' w3 hown hgr hnil hat; clear hnil; have HN := hide (Ge.push HBW5.out HBF.out HGW.out GE hown hgr hat); clear hown hgr hat))
          all_goals exact ⟨⟨j + 1, by omega, by go_num, by rw [HTO.out, HGE2.out]; exact hide HN.out.1, hide HN.out.2⟩, by simp [kIx]; omega⟩
    · have hd : decide ((j : Int) < (m : Int)) = false := by simp; omega
      have hkk : S.E.take j = S.E := List.take_of_length_le (by have := HM.out; omega)
      have hrow := HG.out
      rw [hkk] at hrow
      obtain ⟨⟨cs, fs⟩, hP, hM⟩ := HX5.out.setE (Mds.refl B K.own W5) (fun _ q => q) ((Mds.of_below (fun i => K.vE.ownBlock = some i) HBL.out HBW5.out).refill fun i hi => hi.elim) hrow.row (fun i hi => .inr (hrow.new i hi))
      rw [HVE.out] at cs
      obtain ⟨ua, uc, hu, _, _⟩ := own_slice hrow.row
      rw [List.length_map] at hu
      subst hu
      have HP := hide hP
      have HMD := hide hM
      have HR6 : Hid (RBx w.heap.size 40 r a c _) := kx_keep HX5.out hM HR5.out (by decide)
      have H56 := hide (kx_keep HX5.out hM H55.out (by decide))
      have H76 := hide (kx_keep HX5.out hM H77.out (by decide))
      have HLA6 := hide (HLA5.out.mod hM)
      have HLB6 := hide (HLB5.out.mod hM)
      have HLS6 := hide (HLS5.out.mod hM)
      clear hkk hrow hP hM
      go_upto_region 15 with fail
      generalize wr.setCell ⟨K.kb, 0, none⟩ (.slice ua S.E.length uc) = W6 at *
      clear cs fs c0 hd
      obtain ⟨K6, hK6⟩ : ∃ K6 : Kx, K6 = ⟨K.kb, .slice ua S.E.length uc, K.vG, K.vV, K.vH⟩ := ⟨_, rfl⟩
      have hkb : K.kb = K6.kb := by rw [hK6]
      have HKB := hide hkb
      rw [hkb]
      rw [← hK6] at HP HMD
      obtain ⟨S6, hS6⟩ : ∃ S6 : KS, S6 = ⟨S.E.map gE, S.G, S.V, S.H⟩ := ⟨_, rfl⟩
      have hsv : S6.V = S.V := by rw [hS6]
      have hsh : S6.H = S.H := by rw [hS6]
      have hse : S6.E = S.E.map gE := by rw [hS6]
      have hsg : S6.G = S.G := by rw [hS6]
      rw [← hS6] at HP
      have HS6 := hide (And.intro hse (And.intro hsg (And.intro hsv hsh)))
      obtain ⟨Wd, hWd⟩ : ∃ Wd, Wd = W6.drew := ⟨_, rfl⟩
      have HWD := hide hWd
      have hbd : Below W6.heap.size W6 Wd := by rw [hWd]; exact (Below.refl _ _).drew
      have HPD := hide (HP.out.below hbd)
      have HRD := hide (HR6.out.below hbd HR6.out.lt)
      have H5D := hide ((hbd.block _ (lt_of_block H56.out)).trans H56.out)
      have H7D := hide ((hbd.block _ (lt_of_block H76.out)).trans H76.out)
      have HLAD := hide (HLA6.out.below hbd)
      have HLBD := hide (HLB6.out.below hbd)
      have HLSD := hide (HLS6.out.below hbd)
      have HMDD := hide (HMD.out.trans (Mds.of_below K6.own hbd HP.out.Bw))
      obtain ⟨mV, hmV⟩ : ∃ mV, S.V.length = mV := ⟨_, rfl⟩
      obtain ⟨av, cv, _, hcv, c2, hvos⟩ := kx_vslice HPD.out (show S6.V.length = mV by rw [hsv]; exact hmV)
      rw [hsv] at hvos
      have HVS := hide hvos
      have HMV := hide hmV
      have hvn : mV ≤ 100000 := by have := HNN.out.v; omega
      clear hvos hmV hWd hbd hK6 hkb hS6 hsv hsh hse hsg
      refine wp_region_noPanic ?_
      refine wp_region_held_drew (S := fun w' => RBx w.heap.size 40 r a c w') (by kernel_rfl) (by rw [← HWD.out]; exact HRD.out) (fun hHeld => ?_)
      rw [← HWD.out] at hHeld ⊢
      refine wpAnyH_take (i := 0) (v := ?v1) rfl (by kernel_rfl) (by kernel_rfl) (by kernel_rfl) (fun _ _ _ h => h) (Or.inl ⟨by rfl, ?hy1⟩) hHeld ?rest1
      case hy1 => (intro w' hSw; have s12 := RBx.c12 hSw; have s13 := RBx.c13 hSw; go_simp; try with_reducible rfl)
      try simp [Act.put]
      refine wpAnyH_take (i := 1) (v := ?v2) rfl (by kernel_rfl) (by kernel_rfl) (by kernel_rfl) (fun _ _ _ h => h) (Or.inl ⟨by rfl, ?hy2⟩) hHeld ?rest2
      case hy2 => (intro w' hSw; have s12 := RBx.c12 hSw; have s13 := RBx.c13 hSw; go_simp; try with_reducible rfl)
      try simp [Act.put]
      refine wpAnyH_take (i := 2) (v := ?v3) rfl (by kernel_rfl) (by kernel_rfl) (by kernel_rfl) (fun _ _ _ h => h) (Or.inl ⟨by rfl, ?hy3⟩) hHeld ?rest3
      case hy3 => (intro w' hSw; have s12 := RBx.c12 hSw; have s13 := RBx.c13 hSw; go_simp; try with_reducible rfl)
      try simp [Act.put]
      refine wpAnyH_take (i := 3) (v := ?v4) rfl (by kernel_rfl) (by kernel_rfl) (by kernel_rfl) (fun _ _ _ h => h) (Or.inl ⟨by rfl, ?hy4⟩) hHeld ?rest4
      case hy4 => (intro w' hSw; have s12 := RBx.c12 hSw; have s13 := RBx.c13 hSw; go_simp; try with_reducible rfl)
      try simp [Act.put]
      refine wpAnyH_take (i := 5) (v := ?v5) rfl (by kernel_rfl) (by kernel_rfl) (by kernel_rfl) (fun _ _ _ h => h) (Or.inl ⟨by rfl, ?hy5⟩) hHeld ?rest5
      case hy5 => (intro w' hSw; have s12 := RBx.c12 hSw; have s13 := RBx.c13 hSw; go_simp; try with_reducible rfl)
      try simp [Act.put]
      refine wpAnyH_take (i := 6) (v := ?v6) rfl (by kernel_rfl) (by kernel_rfl) (by kernel_rfl) (fun _ _ _ h => h) (Or.inl ⟨by rfl, ?hy6⟩) hHeld ?rest6
      case hy6 => (intro w' hSw; have s12 := RBx.c12 hSw; have s13 := RBx.c13 hSw; go_simp; try with_reducible rfl)
      try simp [Act.put]
      refine wpAnyH_take (i := 8) (v := ?v7) rfl (by kernel_rfl) (by kernel_rfl) (by kernel_rfl) (fun _ _ _ h => h) (Or.inl ⟨by rfl, ?hy7⟩) hHeld ?rest7
      case hy7 => (intro w' hSw; have s12 := RBx.c12 hSw; have s13 := RBx.c13 hSw; go_simp; try with_reducible rfl)
      try simp [Act.put]
      refine wpAnyH_take (i := 9) (v := ?v8) rfl (by kernel_rfl) (by kernel_rfl) (by kernel_rfl) (fun _ _ _ h => h) (Or.inl ⟨by rfl, ?hy8⟩) hHeld ?rest8
      case hy8 => (intro w' hSw; have s12 := RBx.c12 hSw; have s13 := RBx.c13 hSw; go_simp; try with_reducible rfl)
      try simp [Act.put]
      refine wpAnyH_ready (rs := [4]) (by kernel_rfl) (by simp) ?_
      refine AllReadyH.cons rfl (fun KN hK => ?_) AllReadyH.nil
      go_simp
      refine hK.out _ _ HRD.out (fun hHeld => ?_)
      clear hK KN
      try simp [Act.put]
      refine wpAnyH_ready (rs := [7]) (by kernel_rfl) (by simp) ?_
      refine AllReadyH.cons rfl (fun KN hK => ?_) AllReadyH.nil
      go_simp
      refine (kx_without HMV.out hvn HVS.out HPD.out.Bw hcv r.f).mono ?_
      rintro e W7 ⟨v7, rfl, hg7, hb7⟩
      obtain ⟨a7, c7, rfl, hc7, _, hvos7⟩ := hg7.row.form
      have HR7 := hide (HRD.out.below hb7 HRD.out.lt)
      have HB7 := hide hb7
      have hB7 : B ≤ W7.heap.size := Nat.le_trans HPD.out.Bw hb7.size
      have HV7 := hide hvos7
      have HL7 : Hid ((witV S.V r.f).length ≤ 100000) := by have := witV_len S.V r.f; have := HMV.out; unfold Hid; omega
      clear hg7 hvos7 hb7
      refine hK.out _ _ HR7.out (fun hHeld => ?_)
      clear hK KN
      try simp [Act.put]
      refine wpAnyH_ready (rs := [10]) (by kernel_rfl) (by simp) ?_
      refine AllReadyH.cons rfl (fun KN hK => ?_) AllReadyH.nil
      go_simp
      refine (kx_without rfl HL7.out HV7.out hB7 hc7 r.t).mono ?_
      rintro e W8 ⟨v8, rfl, hg8, hb8⟩
      have hbb := HB7.out.trans (hb8.mono HB7.out.size)
      obtain ⟨⟨c9, f9⟩, hP9, hM9⟩ := HPD.out.setV (Mds.refl B K6.own Wd) (fun _ q => q) (Mds.of_below (fun _ => False) hbb HPD.out.Bw) hg8.row
      obtain ⟨a8, c8, rfl, hc8, _, hvos8⟩ := hg8.row.form
      have HR8 := hide (HRD.out.below hbb HRD.out.lt)
      have HP9 := hide hP9
      have HM9 := hide hM9
      have HR9 : Hid (RBx w.heap.size 40 r a c (W8.setCell ⟨K6.kb, 2, none⟩ (.slice a8 (witV (witV S.V r.f) r.t).length c8))) := kx_keep HPD.out hM9 HRD.out (by decide)
      clear hg8 hvos8 hb8 hbb hP9 hM9
      refine hK.out _ _ HR8.out (fun hHeld => ?_)
      clear hK KN
      try simp [Act.put]
      refine wpAnyH_take (i := 11) (v := ?v41) rfl (by kernel_rfl) (by kernel_rfl) (by kernel_rfl) (fun _ _ _ h => h) (Or.inl ⟨by rfl, ?hy41⟩) hHeld ?rest41
      case hy41 => (intro w' hSw; have s12 := RBx.c12 hSw; have s13 := RBx.c13 hSw; go_simp; try with_reducible rfl)
      try simp [Act.put]
      refine wpAnyH_take (i := 12) (v := ?v42) rfl (by kernel_rfl) (by kernel_rfl) (by kernel_rfl) (fun _ _ _ h => h) (Or.inl ⟨by rfl, ?hy42⟩) hHeld ?rest42
      case hy42 => (intro w' hSw; have s12 := RBx.c12 hSw; have s13 := RBx.c13 hSw; go_simp; try with_reducible rfl)
      try simp [Act.put]
      refine wpAnyH_ready (rs := [13]) (by kernel_rfl) (by simp) ?_
      refine AllReadyH.cons rfl (fun KN hK => ?_) AllReadyH.nil
      go_simp
      refine hK.out _ _ HR9.out (fun hHeld => ?_)
      clear hK KN
      try simp [Act.put]
      refine wpAnyH_done (by kernel_rfl) (NoPanic.normal ?_) _
      generalize W8.setCell ⟨K6.kb, 2, none⟩ (.slice a8 (witV (witV S.V r.f) r.t).length c8) = W9 at *
      have H59 := hide (kx_keep HPD.out HM9.out H5D.out (by decide))
      have H79 := hide (kx_keep HPD.out HM9.out H7D.out (by decide))
      have HLA9 := hide (HLAD.out.mod HM9.out)
      have HLB9 := hide (HLBD.out.mod HM9.out)
      have HLS9 := hide (HLSD.out.mod HM9.out)
      clear c2 c9 f9
      have e2 := HR9.out.c2
      have e3 := HR9.out.c3
      have e4 := HR9.out.c4
      have e5 := HR9.out.c5
      go_wp2_with fail
      refine (kx_lay HP9.out (by have := witV_len (witV S.V r.f) r.t; have := HL7.out; show (witV (witV S.V r.f) r.t).length ≤ _; omega) (by show S6.H.length ≤ _; rw [HS6.out.2.2.2]; have := HNN.out.h; omega) (rVD r) a r.ls.length c rfl HLS9.out).mono ?_
      rintro e W10 ⟨rfl, K10, hkb10, hP10, hM10⟩
      have H510 := hide (kx_keep HP9.out hM10 H59.out (by decide))
      have H710 := hide (kx_keep HP9.out hM10 H79.out (by decide))
      have HLA10 := hide (HLA9.out.mod hM10)
      have HLB10 := hide (HLB9.out.mod hM10)
      have HP10 := hide hP10
      have HMA := hide (((((Mds.of_below (B := B) K.own HBW0.out HBW.out).trans HMDD.out)).trans HM9.out).trans hM10)
      have HKB10 := hide hkb10
      clear hP10 hM10 hkb10 e2 e3 e4 e5
      go_wp2_with (first | (refine wpList_load_row rfl 36 (.tmp 5) rfl b5 rfl 36 #[.int .i64 p1, .int .i64 p2, .int .i64 p3, .slice pa pm pc] (0, 0) _ H510.out Tryz.underlying36 rfl vol_size4 ?_) | (refine wpList_load_row rfl 36 (.tmp 7) rfl b7 rfl 36 #[.int .i64 q1, .int .i64 q2, .int .i64 q3, .slice qa qm qc] (0, 0) _ H710.out Tryz.underlying36 rfl vol_size4 ?_))
      try go_ret
      rw [HMO.out, HSM.out]
      have hba : Below W10.heap.size W10 (W10.alloc (.cells #[.int .i64 p1, .int .i64 p2, .int .i64 p3, .slice pa pm pc, .int .i64 q1, .int .i64 q2, .int .i64 q3, .slice qa qm qc] 36)) := (Below.refl _ _).alloc (Nat.le_refl _) _
      have hPf := HP10.out.below hba
      simp only [HS6.out.1, HS6.out.2.1, HS6.out.2.2.2] at hPf
      exact ⟨K10, some ⟨W10.heap.size, 0, none⟩, 2, rfl, Nat.le_refl _, two_vos HPM.out HQM.out HLA10.out HLB10.out, HKB10.out.trans HKB.out.symm, hPf, HMA.out.trans (Mds.of_below _ hba HP10.out.Bw)⟩
end Go.Proofs.YtonhmihmnkicdaaGreat
