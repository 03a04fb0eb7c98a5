/- What Do of the document's model answers and leaves: del. (Written by genyd.py.) -/
import Derived.Test.YtlpibpkbgmcclaaGreatDoorYdGetX
namespace Go.Proofs.YtlpibpkbgmcclaaGreatDoor
open Go.RowKit
set_option linter.unusedVariables false
theorem opw_append {P : Program} {o : Oper} {a : Act} {w : World} {K : Act → World → Prop} {Q : Exit → Act → World → Prop} (B : Nat) (s x : Operand) (t : TypeId)
    (ho : o.op = .call { callee := .builtin .append, args := #[s, x], argTypes := #[t, t] })
    (e : TypeId) (i : TypeInfo) (z : Value) (size bytes : Nat) (ht : P.underlying t = some (.slice e)) (hi : P.info? e = some i) (hz : i.zero = some z)
    (hsize : i.size = size) (hby : i.bytes = bytes) (hzs : z.cells.size = size) (hsz : 0 < size)
    (v : Value) (n : Nat) (xs : List Value) (hs : a.eval s = v) (hown : w.ownsRow B e size v n xs)
    (ad : Addr) (m c : Nat) (news : List Value) (hx : a.eval x = .slice (some ad) m c) (hl : news.length = m * size) (hnews : ∀ j u, news[j]? = some u → w.cell? (ad.add j) = some u) (h1 : ∀ u ∈ news, u.oneCell' = true)
    (h63 : n + m ≤ maxLen) (hbytes : (n + m) * bytes ≤ 140737488355328) (hB : B ≤ w.heap.size)
    (h : ∀ v' w', w'.ownsRow B e size v' (n + m) (xs ++ news) → w.grownBy w' v.ownBlock → (v'.ownBlock = v.ownBlock ∨ v'.ownBlock = some w.heap.size) → K (a.put o.dst v') w') : o.wp P a w K Q := by
  obtain ⟨v', w', hr, q1, q2, -, q3⟩ := run_append_own_at (P := P) w B t o.type e i z size bytes ht hi hz hsize hby hzs hsz v n xs hown ad m c news hl hnews h1 h63 hbytes hB
  unfold Oper.wp execOp
  simp only [ho, resolve, invoke, builtin, Sem.run_bind, Sem.run_pure, Result.andThen_ok, List.map_toArray, List.map_cons, List.map_nil, hs, hx, hr]
  exact h v' w' q1 q2 q3
theorem kyV_one (R : List KyE) : ∀ u ∈ kyV R, u.oneCell' = true := by
  intro u hu
  obtain ⟨e, _, he⟩ := List.mem_flatMap.1 hu
  exact kyC_one e u he
/-- a row made by two appends -/
theorem two_app {W w2 w3 : World} {v1 v2 : Value} {n1 : Nat} {xs : List Value} {L : List KyE} (hb : Below W.heap.size W w2) (ho : w2.ownsRow W.heap.size keyT 3 v1 n1 xs) (hg : w2.grownBy w3 v1.ownBlock) (h3 : w3.ownsRow W.heap.size keyT 3 v2 L.length (kyV L)) : GeK W w3 v2 L := by
  refine ⟨h3, hg.os.trans hb.os, hg.tape.trans hb.tape, hg.output.trans hb.output, Nat.le_trans hb.size hg.size, fun q hq => (hg.block q (Nat.lt_of_lt_of_le hq hb.size) fun e => ?_).trans (hb.block q hq)⟩
  rcases yrow_form ho with ⟨rfl, _⟩ | ⟨g, c, rfl, _, hB, _⟩
  · cases e
  · have : some g = some q := e.symm
    cases this
    omega
/-- the cells of a model's keys -/
theorem KyAt.cells {w : World} {y g c : Nat} {R : List KyE} (h : KyAt w y R) (hb : w.heap[y]? = some (.cells #[.slice (some ⟨g, 0, none⟩) R.length c] 29 (0, 0))) {p : Nat} {u : Value} (hp : (kyV R)[p]? = some u) : ∀ W, Below w.heap.size w W → W.cell? ⟨g, p, none⟩ = some u := by
  obtain ⟨v, h1, h2⟩ := h.ex
  rw [h1] at hb
  have hb : v = .slice (some ⟨g, 0, none⟩) R.length c := by simpa using hb
  subst hb
  rcases yrow_form h2 with ⟨q, _⟩ | ⟨g', c', q, _, _, hg, _⟩
  · cases q
  · cases q
    exact fun W hW => (hW.cell (p := ⟨g, p, none⟩) hg).trans (yrow_cell h2 hp)
theorem kyV_take_at {R : List KyE} {i j : Nat} {u : Value} (h : (kyV (R.take i))[j]? = some u) : (kyV R)[j]? = some u := by
  have e : kyV R = kyV (R.take i) ++ kyV (R.drop i) := by rw [← kyV_append, List.take_append_drop]
  rw [e, List.getElem?_append_left (List.getElem?_eq_some_iff.1 h).1]
  exact h
theorem kyV_drop_at {R : List KyE} {i j : Nat} {u : Value} (hi : i ≤ R.length) (h : (kyV (R.drop i))[j]? = some u) : (kyV R)[i * 3 + j]? = some u := by
  have e : kyV R = kyV (R.take i) ++ kyV (R.drop i) := by rw [← kyV_append, List.take_append_drop]
  have hl : (kyV (R.take i)).length = i * 3 := by rw [kyV_len, List.length_take]; omega
  rw [e, List.getElem?_append_right (by omega), hl, show i * 3 + j - i * 3 = j by omega]
  exact h
set_option maxRecDepth 100000 in
set_option maxHeartbeats 16000000 in
theorem yd_del {w : World} {y : Nat} {R : List KyE} {T : MT} (h : KyAt w y R) (hr : Rl R T) (hT : T.Ok) (hn : R.length ≤ 1000) (d : Int) (k v : ByteArray) (hk : k.size ≤ 100000) (hv : v.size ≤ 100000) (hz : rqE ⟨d, k, v⟩ = 0) (hd : d = 2) (u : ByteArray) (hyes : T.val k = some u) : Calls Tryz.prog 9 #[.pointer (some ⟨y, 0, none⟩), .agg #[.int .i64 d, .string k, .string v]] w (YdP T R ⟨d, k, v⟩ y w) := by
  have HB := hide (mdW_B w d k v)
  have HZ := hide (mdW_Z w d k v)
  have HR := hide (mdW_R w d k v)
  have HCK := hide (fun W => qrcheck_any ⟨d, k, v⟩ W hk hv)
  simp only [rqs] at HCK
  have HY := hide h
  have HYL := hide h.lt
  have HRL := hide hr
  have HOK := hide hT
  clear h hr hT
  subst hd
  rw [hz] at HCK
  have hc := code_ok (T := T) hz
  have hx := next_ok (T := T) hz
  have ha := ans_ok (T := T) hz
  have hyy : T.val (⟨2, k, v⟩ : Rq).k = some u := hyes
  rw [if_neg (by show ¬ (2 : Int) = 0; decide), if_neg (by show ¬ (2 : Int) = 4; decide), hyy] at hc
  rw [hyy] at ha
  have HC : Hid (T.code ⟨2, k, v⟩ = 0) := hc
  have HA : Hid (T.ans ⟨2, k, v⟩ = ByteArray.empty) := ha
  have HX := hide hx
  have HKS : Hid (KsIs T ⟨2, k, v⟩ []) := ks_nil (by show (2 : Int) ≠ 4; decide)
  have HYS := hide (val_some hyes)
  clear hz hc hx ha hyes hyy
  have HX2 : Hid (T.next ⟨2, k, v⟩ = T.set k ⟨ByteArray.empty, true⟩) := by
    show _ = _
    rw [HX.out, if_neg (fun q => by cases q.1), if_pos ⟨rfl, by show (T.val k).isSome = true; rw [val_of HYS.out]; rfl⟩]
  obtain ⟨i0, hi0, hz0, hz1, hz2⟩ := info_parts ky_info
  have HI := hide hi0
  have HI0 := hide hz0
  have HI1 := hide hz1
  have HI2 := hide hz2
  clear hi0 hz0 hz1 hz2
  go_enter Tryz.func9, Tryz.ntmps9
  go_wp2_with (first | (refine wpList_load_row rfl 32 (.tmp 3) rfl (w.heap.size) rfl 32 #[.int .i64 2, .string k, .string v] (0, 0) _ HR.out Tryz.underlying32 rfl rq_info ?_))
  refine (HCK.out _).mono ?_
  rintro e w1 ⟨rfl, hb⟩
  have HZ1 : Hid (RsB (w.heap.size + 1) 0 ⟨#[]⟩ none 0 0 w1) := (hb.block _ (lt_of_block HZ.out)).trans HZ.out
  have HR1 : Hid (w1.heap[w.heap.size]? = some (.cells #[.int .i64 2, .string k, .string v] 32 (0, 0))) := (hb.block _ (lt_of_block HR.out)).trans HR.out
  have HB1 := hide (HB.out.trans (hb.mono HB.out.size))
  have HY1 := hide (HY.out.below HB1.out)
  clear hb
  have q0 : w1.cell? ⟨w.heap.size, 0, none⟩ = some (.int .i64 2) := cell_of_block HR1.out
  have q1 : w1.cell? ⟨w.heap.size, 1, none⟩ = some (.string k) := cell_of_block HR1.out
  have q2 : w1.cell? ⟨w.heap.size, 2, none⟩ = some (.string v) := cell_of_block HR1.out
  go_wp2_with fail
  refine (yd_at HY1.out (by omega) k).mono ?_
  rintro e w2 ⟨r, rfl, hat, hw⟩
  obtain rfl := hw
  rcases hat with ⟨rfl, hno⟩ | ⟨i, z, rfl, hi⟩
  · have := HRL.out.miss hno; rw [HYS.out] at this; cases this
  · obtain ⟨zv, zg⟩ := z
    obtain ⟨ya, yc, hyc, hbx, hrw⟩ := HY1.out.open
    obtain ⟨g, rfl, hcl⟩ := hrw _ _ hi
    obtain ⟨t0, t1, t2⟩ := hcl w1 (Below.refl _ _)
    have c0 : w1.cell? ⟨y, 0, none⟩ = some (.slice (some ⟨g, 0, none⟩) R.length yc) := cell_of_block (hbx w1 (Below.refl _ _))
    have hil := (List.getElem?_eq_some_iff.1 hi).1
    simp only at t0 t1 t2
    obtain ⟨m, hm⟩ : ∃ m, R.length = m := ⟨_, rfl⟩
    rw [hm] at c0 hil hyc
    have hi0 : decide ((i : Int) < 0) = false := by simp
    have hi1 : (0 : Int) ≤ (i : Int) := by omega
    have hi2 : (i : Int) < (m : Int) := by omega
    have hTk := HRL.out.at hi
    simp only at hTk
    rw [HYS.out] at hTk
    injection hTk with hTk
    injection hTk with e1 e2
    subst e1 e2
    have HRN : Hid (Rl (ins k ⟨⟨#[]⟩, true⟩ (R.take i ++ R.drop (i + 1))) (T.next ⟨2, k, v⟩)) := by
      show Rl _ _
      rw [HX2.out, ← set_cut T k]
      exact (HRL.out.cut hi).ins (by show (if k = k then none else T k) = none; rw [if_pos rfl]) _
    have HSN : Hid (∀ e ∈ R.take i ++ R.drop (i + 1), e.1 ≠ k) := fun e he q => by
      have h9 := ((HRL.out.cut hi).mem e.1 e.2).2 he
      simp only at h9
      rw [if_pos q] at h9
      cases h9
    have hSl : (R.take i ++ R.drop (i + 1)).length = m - 1 := by rw [List.length_append, List.length_take, List.length_drop, hm]; omega
    have hnm : m ≤ 1000 := by omega
    have HSL : Hid ((R.take i ++ R.drop (i + 1)).length ≤ 1000) := by show _ ≤ _; rw [hSl]; omega
    have HLN : Hid ((ins k ⟨⟨#[]⟩, true⟩ (R.take i ++ R.drop (i + 1))).length ≤ R.length + 1) := by show _ ≤ _; rw [ins_len, hSl, hm]; omega
    have HLT : Hid ((kyV (R.take i)).length = i * 3) := by show _ = _; rw [kyV_len, List.length_take, hm]; omega
    have hbx0 := hbx w1 (Below.refl _ _)
    have HCT : Hid (∀ W, Below w1.heap.size w1 W → ∀ j u, (kyV (R.take i))[j]? = some u → W.cell? ((⟨g, 0, none⟩ : Addr).add j) = some u) := fun W hW j u hj => by
      rw [add_plain, Nat.zero_add]
      exact HY1.out.cells hbx0 (kyV_take_at hj) W hW
    have hcd : ∀ W, Below w1.heap.size w1 W → ∀ j u, (kyV (R.drop (i + 1)))[j]? = some u → W.cell? ⟨g, (i + 1) * 3 + j, none⟩ = some u := fun W hW j u hj => HY1.out.cells hbx0 (kyV_drop_at (by omega) hj) W hW
    have hld : (kyV (R.drop (i + 1))).length = (m - (i + 1)) * 3 := by rw [kyV_len, List.length_drop, hm]
    have hbxm : ∀ W, Below w1.heap.size w1 W → W.heap[y]? = some (.cells #[.slice (some ⟨g, 0, none⟩) m yc] 29 (0, 0)) := fun W hW => by rw [← hm]; exact hbx W hW
    have hwk : IntKind.i64.wrap ((i : Int) + 1) = ((i + 1 : Nat) : Int) := by rw [IntKind.wrap_i64]; omega
    have hk1 : (i : Int) + 1 ≤ (m : Int) := by omega
    have hk1n : i + 1 ≤ m := by omega
    have hkc : (i : Int) ≤ (yc : Int) := by omega
    have hk2 : (i : Int) + 1 ≤ (yc : Int) := by omega
    have hk0 : (0 : Int) ≤ (i : Int) + 1 := by omega
    have hlen2 : (R.take i ++ R.drop (i + 1)).length = i + (m - (i + 1)) := by omega
    clear hi hcl hbx hrw hSl hbx0
    by_cases hcap : i + 1 < yc
    · have hkn : ¬ (i + 1 = yc) := by omega
      have hkn2 : ¬ (yc = i + 1) := by omega
      have hkn3 : ¬ (yc - (i + 1) = 0) := by omega
      have HBX := hide hbxm
      have HLD := hide hld
      have HTL : Hid (∀ v {w3 : World} {WW : Nat}, w3.ownsRow WW keyT 3 v (i + (m - (i + 1))) (kyV (R.take i) ++ kyV (R.drop (i + 1))) → w3.ownsRow WW keyT 3 v (R.take i ++ R.drop (i + 1)).length (kyV (R.take i ++ R.drop (i + 1)))) := fun v w3 WW h => by rw [hlen2, kyV_append]; exact h
      have HCD : Hid (∀ W, Below w1.heap.size w1 W → ∀ j u, (kyV (R.drop (i + 1)))[j]? = some u → W.cell? ((⟨g, (i + 1) * 3, none⟩ : Addr).add j) = some u) := fun W hW j u hj => by rw [add_plain]; exact hcd W hW j u hj
      clear hm hld hbxm hlen2 hcd
      go_wp2_with fail
      refine wp_region_noPanic ?_
      refine wp_region_held_drew (S := fun _ => True) (by kernel_rfl) trivial (fun hHeld => ?_)
      obtain ⟨W, hW⟩ : ∃ W, W = w1.drew := ⟨_, rfl⟩
      have HBW : Hid (Below w1.heap.size w1 W) := by rw [hW]; exact (Below.refl _ w1).drew
      have HBXW : Hid (W.heap[y]? = some (.cells #[.slice (some ⟨g, 0, none⟩) m yc] 29 (0, 0))) := HBX.out _ HBW.out
      have cK : W.cell? ⟨y, 0, none⟩ = some (.slice (some ⟨g, 0, none⟩) m yc) := cell_of_block HBXW.out
      have HYW : Hid (y < W.heap.size) := lt_of_block HBXW.out
      have HN1 : Hid (∀ j u, (kyV (R.take i))[j]? = some u → W.cell? ((⟨g, 0, none⟩ : Addr).add j) = some u) := HCT.out _ HBW.out
      have HN2 : Hid (∀ x, Below W.heap.size W x → ∀ j u, (kyV (R.drop (i + 1)))[j]? = some u → x.cell? ((⟨g, (i + 1) * 3, none⟩ : Addr).add j) = some u) := fun x hx => HCD.out _ (HBW.out.trans (hx.mono HBW.out.size))
      rw [← hW]
      clear hW
      refine wpAnyH_take (i := 0) (v := ?v100) rfl (by kernel_rfl) (by kernel_rfl) (by kernel_rfl) (fun _ _ _ h => h) (Or.inl ⟨by rfl, ?hy100⟩) hHeld ?rest100
      case hy100 => (intro w' hSw; skip; go_simp; try with_reducible rfl)
      try simp [Act.put]
      refine wpAnyH_take (i := 1) (v := ?v101) rfl (by kernel_rfl) (by kernel_rfl) (by kernel_rfl) (fun _ _ _ h => h) (Or.inl ⟨by rfl, ?hy101⟩) hHeld ?rest101
      case hy101 => (intro w' hSw; skip; go_simp; try with_reducible rfl)
      try simp [Act.put]
      refine wpAnyH_take (i := 2) (v := ?v102) rfl (by kernel_rfl) (by kernel_rfl) (by kernel_rfl) (fun _ _ _ h => h) (Or.inl ⟨by rfl, ?hy102⟩) hHeld ?rest102
      case hy102 => (intro w' hSw; skip; go_simp; try with_reducible rfl)
      try simp [Act.put]
      refine wpAnyH_take (i := 3) (v := ?v103) rfl (by kernel_rfl) (by kernel_rfl) (by kernel_rfl) (fun _ _ _ h => h) (Or.inl ⟨by rfl, ?hy103⟩) hHeld ?rest103
      case hy103 => (intro w' hSw; skip; go_simp; try with_reducible rfl)
      try simp [Act.put]
      refine wpAnyH_take (i := 5) (v := ?v104) rfl (by kernel_rfl) (by kernel_rfl) (by kernel_rfl) (fun _ _ _ h => h) (Or.inl ⟨by rfl, ?hy104⟩) hHeld ?rest104
      case hy104 => (intro w' hSw; skip; go_simp; try with_reducible rfl)
      try simp [Act.put]
      refine wpAnyH_take (i := 8) (v := ?v105) rfl (by kernel_rfl) (by kernel_rfl) (by kernel_rfl) (fun _ _ _ h => h) (Or.inl ⟨by rfl, ?hy105⟩) hHeld ?rest105
      case hy105 => (intro w' hSw; skip; go_simp; try with_reducible rfl)
      try simp [Act.put]
      refine wpAnyH_take (i := 9) (v := ?v106) rfl (by kernel_rfl) (by kernel_rfl) (by kernel_rfl) (fun _ _ _ h => h) (Or.inl ⟨by rfl, ?hy106⟩) hHeld ?rest106
      case hy106 => (intro w' hSw; skip; go_simp; try with_reducible rfl)
      try simp [Act.put]
      refine wpAnyH_take (i := 10) (v := ?v107) rfl (by kernel_rfl) (by kernel_rfl) (by kernel_rfl) (fun _ _ _ h => h) (Or.inl ⟨by rfl, ?hy107⟩) hHeld ?rest107
      case hy107 => (intro w' hSw; skip; go_simp; try with_reducible rfl)
      try simp [Act.put]
      refine wpAnyH_take (i := 12) (v := ?v108) rfl (by kernel_rfl) (by kernel_rfl) (by kernel_rfl) (fun _ _ _ h => h) (Or.inl ⟨by rfl, ?hy108⟩) hHeld ?rest108
      case hy108 => (intro w' hSw; skip; go_simp; try with_reducible rfl)
      try simp [Act.put]
      refine wpAnyH_take (i := 13) (v := ?v109) rfl (by kernel_rfl) (by kernel_rfl) (by kernel_rfl) (fun _ _ _ h => h) (Or.inl ⟨by rfl, ?hy109⟩) hHeld ?rest109
      case hy109 => (intro w' hSw; skip; go_simp; try with_reducible rfl)
      try simp [Act.put]
      refine wpAnyH_ready (rs := [4, 11]) (by kernel_rfl) (by simp) ?_
      refine AllReadyH.cons rfl (fun K hK => ?first) (AllReadyH.cons rfl (fun K hK => ?second) AllReadyH.nil)
      case first =>
        go_simp
        refine hK.out _ _ trivial (fun hHeld => ?_)
        clear hK K
        try simp [Act.put]
        refine wpAnyH_take (i := 6) (v := ?v120) rfl (by kernel_rfl) (by kernel_rfl) (by kernel_rfl) (fun _ _ _ h => h) (Or.inl ⟨by rfl, ?hy120⟩) hHeld ?rest120
        case hy120 => (intro w' hSw; skip; go_simp; try with_reducible rfl)
        try simp [Act.put]
        refine wpAnyH_ready (rs := [7, 11]) (by kernel_rfl) (by simp) ?_
        refine AllReadyH.cons rfl (fun K hK => ?third) (AllReadyH.cons rfl (fun K hK => ?fourth) AllReadyH.nil)
        case third =>
          rw [if_pos (by simp [Region.wanted])]
          refine opw_append W.heap.size (.const (.slice none 0 0)) (.tmp 75) 27 rfl keyT i0 (.agg #[.string ⟨#[]⟩, .string ⟨#[]⟩, .bool false]) 3 40 Tryz.underlying27 HI.out HI0.out HI1.out HI2.out rfl (by decide) (.slice none 0 0) 0 [] (by simp [Act.eval]) (World.ownsRow_nil _ _ _ _) ⟨g, 0, none⟩ i yc (kyV (R.take i)) (by simp [Act.eval]) HLT.out HN1.out (kyV_one _) (by unfold maxLen; omega) (by omega) (Nat.le_refl _) ?_
          intro v1 w2 hown1 hgr1 hat1
          rw [Nat.zero_add, List.nil_append] at hown1
          have hbel1 : Below W.heap.size W w2 := ⟨hgr1.os, hgr1.tape, hgr1.output, hgr1.size, fun q hq => hgr1.block q hq (by simp [Value.ownBlock])⟩
          obtain ⟨a9, c9, rfl⟩ := yrow_slice hown1
          have HO1 := hide hown1
          have HBL1 := hide hbel1
          have cK1 : w2.cell? ⟨y, 0, none⟩ = some (.slice (some ⟨g, 0, none⟩) m yc) := (hbel1.cell (p := ⟨y, 0, none⟩) HYW.out).trans cK
          clear hown1 hgr1 hat1 hbel1
          refine hK.out _ _ trivial (fun hHeld => ?_)
          clear hK K
          try simp [Act.put]
          refine wpAnyH_ready (rs := [11]) (by kernel_rfl) (by simp) ?_
          refine AllReadyH.cons rfl (fun K hK => ?_) AllReadyH.nil
          go_simp
          refine hK.out _ _ trivial (fun hHeld => ?_)
          clear hK K
          try simp [Act.put]
          refine wpAnyH_take (i := 14) (v := ?v130) rfl (by kernel_rfl) (by kernel_rfl) (by kernel_rfl) (fun _ _ _ h => h) (Or.inl ⟨by rfl, ?hy130⟩) hHeld ?rest130
          case hy130 => (intro w' hSw; skip; go_simp; try with_reducible rfl)
          try simp [Act.put]
          refine wpAnyH_ready (rs := [15]) (by kernel_rfl) (by simp) ?_
          refine AllReadyH.cons rfl (fun K hK => ?_) AllReadyH.nil
          rw [if_pos (by simp [Region.wanted])]
          refine opw_append W.heap.size (.tmp 76) (.tmp 83) 27 rfl keyT i0 (.agg #[.string ⟨#[]⟩, .string ⟨#[]⟩, .bool false]) 3 40 Tryz.underlying27 HI.out HI0.out HI1.out HI2.out rfl (by decide) (.slice a9 i c9) i (kyV (R.take i)) (by simp [Act.eval]) HO1.out ⟨g, (i + 1) * 3, none⟩ (m - (i + 1)) (yc - (i + 1)) (kyV (R.drop (i + 1))) (by simp [Act.eval]) HLD.out (HN2.out w2 HBL1.out) (kyV_one _) (by unfold maxLen; omega) (by omega) HBL1.out.size ?_
          intro v2 w3 hown2 hgr2 hat2
          obtain ⟨a8, c8, rfl⟩ := yrow_slice hown2
          have hge := two_app HBL1.out HO1.out hgr2 (HTL.out _ hown2)
          have hbx3 := (hge.bel.block _ HYW.out).trans HBXW.out
          have hly := ky_lay HYW.out (Below.refl _ _) hge hbx3
          have c1 := cell_of_block (i := 0) hbx3
          have f1 := free_of_block (i := 0) hbx3
          have HN := hide hly
          clear hown2 hgr2 hat2 hge hbx3 hly
          refine hK.out _ _ trivial (fun hHeld => ?_)
          clear hK K
          try simp [Act.put]
          refine wpAnyH_take (i := 16) (v := ?v140) rfl (by kernel_rfl) (by kernel_rfl) (by kernel_rfl) (fun _ _ _ h => h) (Or.inl ⟨by rfl, ?hy140⟩) hHeld ?rest140
          case hy140 => (intro w' hSw; skip; go_simp; try with_reducible rfl)
          try simp [Act.put]
          refine wpAnyH_take (i := 17) (v := ?v141) rfl (by kernel_rfl) (by kernel_rfl) (by kernel_rfl) (fun _ _ _ h => h) (Or.inl ⟨by rfl, ?hy141⟩) hHeld ?rest141
          case hy141 => (intro w' hSw; skip; go_simp; try with_reducible rfl)
          try simp [Act.put]
          refine wpAnyH_ready (rs := [18]) (by kernel_rfl) (by simp) ?_
          refine AllReadyH.cons rfl (fun K hK => ?_) AllReadyH.nil
          go_simp
          refine hK.out _ _ trivial (fun hHeld => ?_)
          clear hK K
          try simp [Act.put]
          refine wpAnyH_done (by kernel_rfl) (NoPanic.normal ?_) _
          have HY4 := hide HN.out.1
          have HM4 := hide (Bm.trans (Bm.of_below HBW.out) HN.out.2)
          generalize w3.setCell ⟨y, 0, none⟩ (.slice a8 (i + (m - (i + 1))) c8) = w4 at *
          clear c1 f1 cK cK1 HN HO1 HBL1 HN1 HN2 HBXW
          have HZ4 := hide (HM4.out.keep HZ1.out (by have := HYL.out; omega))
          have q1 : w4.cell? ⟨w.heap.size, 1, none⟩ = some (.string k) := cell_of_block (HM4.out.keep HR1.out (by have := HYL.out; omega))
          have HPT := hide (yd_put HY4.out HSL.out k ⟨⟨#[]⟩, true⟩ HSN.out)
          go_wp2_with fail
          refine HPT.out.mono ?_
          rintro e w5 ⟨rfl, hy5, hb5⟩
          have HY5 := hide hy5
          have HB5 := hide (HM4.out.trans hb5)
          have HZ5 := hide (hb5.keep HZ4.out (by have := HYL.out; omega))
          clear hy5 hb5
          go_wp2_with (first | (refine wpList_store_row rfl 37 (.tmp 4) (.tmp 92) rfl (w.heap.size + 1) #[.int .i64 0, .string ⟨#[]⟩, .slice none 0 0] rfl rfl 37 _ HZ5.out rs_info rfl (rs_one _ _ _ _ _) ?_))
          refine bodyPost_ret (res_rs rfl _ _ (w.heap.size + 1) 0 ByteArray.empty none 0 0 rfl (rsB_row HZ5.out)) rfl ?_
          exact ⟨⟨none, 0, [], by rw [HC.out, HA.out]; rfl, Nat.le_refl _, Nat.zero_le _, .inl rfl, HKS.out, fun _ => rfl, fun p hp => by cases hp⟩, ⟨_, ky_row HY5.out HZ5.out _, HRN.out, HLN.out⟩, bm_row HB1.out HB5.out (by omega) _⟩
        case fourth =>
          go_simp
          refine hK.out _ _ trivial (fun hHeld => ?_)
          clear hK K
          try simp [Act.put]
          refine wpAnyH_take (i := 14) (v := ?v150) rfl (by kernel_rfl) (by kernel_rfl) (by kernel_rfl) (fun _ _ _ h => h) (Or.inl ⟨by rfl, ?hy150⟩) hHeld ?rest150
          case hy150 => (intro w' hSw; skip; go_simp; try with_reducible rfl)
          try simp [Act.put]
          refine wpAnyH_ready (rs := [7]) (by kernel_rfl) (by simp) ?_
          refine AllReadyH.cons rfl (fun K hK => ?_) AllReadyH.nil
          rw [if_pos (by simp [Region.wanted])]
          refine opw_append W.heap.size (.const (.slice none 0 0)) (.tmp 75) 27 rfl keyT i0 (.agg #[.string ⟨#[]⟩, .string ⟨#[]⟩, .bool false]) 3 40 Tryz.underlying27 HI.out HI0.out HI1.out HI2.out rfl (by decide) (.slice none 0 0) 0 [] (by simp [Act.eval]) (World.ownsRow_nil _ _ _ _) ⟨g, 0, none⟩ i yc (kyV (R.take i)) (by simp [Act.eval]) HLT.out HN1.out (kyV_one _) (by unfold maxLen; omega) (by omega) (Nat.le_refl _) ?_
          intro v1 w2 hown1 hgr1 hat1
          rw [Nat.zero_add, List.nil_append] at hown1
          have hbel1 : Below W.heap.size W w2 := ⟨hgr1.os, hgr1.tape, hgr1.output, hgr1.size, fun q hq => hgr1.block q hq (by simp [Value.ownBlock])⟩
          obtain ⟨a9, c9, rfl⟩ := yrow_slice hown1
          have HO1 := hide hown1
          have HBL1 := hide hbel1
          have cK1 : w2.cell? ⟨y, 0, none⟩ = some (.slice (some ⟨g, 0, none⟩) m yc) := (hbel1.cell (p := ⟨y, 0, none⟩) HYW.out).trans cK
          clear hown1 hgr1 hat1 hbel1
          refine hK.out _ _ trivial (fun hHeld => ?_)
          clear hK K
          try simp [Act.put]
          refine wpAnyH_ready (rs := [15]) (by kernel_rfl) (by simp) ?_
          refine AllReadyH.cons rfl (fun K hK => ?_) AllReadyH.nil
          rw [if_pos (by simp [Region.wanted])]
          refine opw_append W.heap.size (.tmp 76) (.tmp 83) 27 rfl keyT i0 (.agg #[.string ⟨#[]⟩, .string ⟨#[]⟩, .bool false]) 3 40 Tryz.underlying27 HI.out HI0.out HI1.out HI2.out rfl (by decide) (.slice a9 i c9) i (kyV (R.take i)) (by simp [Act.eval]) HO1.out ⟨g, (i + 1) * 3, none⟩ (m - (i + 1)) (yc - (i + 1)) (kyV (R.drop (i + 1))) (by simp [Act.eval]) HLD.out (HN2.out w2 HBL1.out) (kyV_one _) (by unfold maxLen; omega) (by omega) HBL1.out.size ?_
          intro v2 w3 hown2 hgr2 hat2
          obtain ⟨a8, c8, rfl⟩ := yrow_slice hown2
          have hge := two_app HBL1.out HO1.out hgr2 (HTL.out _ hown2)
          have hbx3 := (hge.bel.block _ HYW.out).trans HBXW.out
          have hly := ky_lay HYW.out (Below.refl _ _) hge hbx3
          have c1 := cell_of_block (i := 0) hbx3
          have f1 := free_of_block (i := 0) hbx3
          have HN := hide hly
          clear hown2 hgr2 hat2 hge hbx3 hly
          refine hK.out _ _ trivial (fun hHeld => ?_)
          clear hK K
          try simp [Act.put]
          refine wpAnyH_take (i := 16) (v := ?v160) rfl (by kernel_rfl) (by kernel_rfl) (by kernel_rfl) (fun _ _ _ h => h) (Or.inl ⟨by rfl, ?hy160⟩) hHeld ?rest160
          case hy160 => (intro w' hSw; skip; go_simp; try with_reducible rfl)
          try simp [Act.put]
          refine wpAnyH_take (i := 17) (v := ?v161) rfl (by kernel_rfl) (by kernel_rfl) (by kernel_rfl) (fun _ _ _ h => h) (Or.inl ⟨by rfl, ?hy161⟩) hHeld ?rest161
          case hy161 => (intro w' hSw; skip; go_simp; try with_reducible rfl)
          try simp [Act.put]
          refine wpAnyH_ready (rs := [18]) (by kernel_rfl) (by simp) ?_
          refine AllReadyH.cons rfl (fun K hK => ?_) AllReadyH.nil
          go_simp
          refine hK.out _ _ trivial (fun hHeld => ?_)
          clear hK K
          try simp [Act.put]
          refine wpAnyH_done (by kernel_rfl) (NoPanic.normal ?_) _
          have HY4 := hide HN.out.1
          have HM4 := hide (Bm.trans (Bm.of_below HBW.out) HN.out.2)
          generalize w3.setCell ⟨y, 0, none⟩ (.slice a8 (i + (m - (i + 1))) c8) = w4 at *
          clear c1 f1 cK cK1 HN HO1 HBL1 HN1 HN2 HBXW
          have HZ4 := hide (HM4.out.keep HZ1.out (by have := HYL.out; omega))
          have q1 : w4.cell? ⟨w.heap.size, 1, none⟩ = some (.string k) := cell_of_block (HM4.out.keep HR1.out (by have := HYL.out; omega))
          have HPT := hide (yd_put HY4.out HSL.out k ⟨⟨#[]⟩, true⟩ HSN.out)
          go_wp2_with fail
          refine HPT.out.mono ?_
          rintro e w5 ⟨rfl, hy5, hb5⟩
          have HY5 := hide hy5
          have HB5 := hide (HM4.out.trans hb5)
          have HZ5 := hide (hb5.keep HZ4.out (by have := HYL.out; omega))
          clear hy5 hb5
          go_wp2_with (first | (refine wpList_store_row rfl 37 (.tmp 4) (.tmp 92) rfl (w.heap.size + 1) #[.int .i64 0, .string ⟨#[]⟩, .slice none 0 0] rfl rfl 37 _ HZ5.out rs_info rfl (rs_one _ _ _ _ _) ?_))
          refine bodyPost_ret (res_rs rfl _ _ (w.heap.size + 1) 0 ByteArray.empty none 0 0 rfl (rsB_row HZ5.out)) rfl ?_
          exact ⟨⟨none, 0, [], by rw [HC.out, HA.out]; rfl, Nat.le_refl _, Nat.zero_le _, .inl rfl, HKS.out, fun _ => rfl, fun p hp => by cases hp⟩, ⟨_, ky_row HY5.out HZ5.out _, HRN.out, HLN.out⟩, bm_row HB1.out HB5.out (by omega) _⟩
      case second =>
        go_simp
        refine hK.out _ _ trivial (fun hHeld => ?_)
        clear hK K
        try simp [Act.put]
        refine wpAnyH_take (i := 14) (v := ?v170) rfl (by kernel_rfl) (by kernel_rfl) (by kernel_rfl) (fun _ _ _ h => h) (Or.inl ⟨by rfl, ?hy170⟩) hHeld ?rest170
        case hy170 => (intro w' hSw; skip; go_simp; try with_reducible rfl)
        try simp [Act.put]
        refine wpAnyH_ready (rs := [4]) (by kernel_rfl) (by simp) ?_
        refine AllReadyH.cons rfl (fun K hK => ?_) AllReadyH.nil
        go_simp
        refine hK.out _ _ trivial (fun hHeld => ?_)
        clear hK K
        try simp [Act.put]
        refine wpAnyH_take (i := 6) (v := ?v180) rfl (by kernel_rfl) (by kernel_rfl) (by kernel_rfl) (fun _ _ _ h => h) (Or.inl ⟨by rfl, ?hy180⟩) hHeld ?rest180
        case hy180 => (intro w' hSw; skip; go_simp; try with_reducible rfl)
        try simp [Act.put]
        refine wpAnyH_ready (rs := [7]) (by kernel_rfl) (by simp) ?_
        refine AllReadyH.cons rfl (fun K hK => ?_) AllReadyH.nil
        rw [if_pos (by simp [Region.wanted])]
        refine opw_append W.heap.size (.const (.slice none 0 0)) (.tmp 75) 27 rfl keyT i0 (.agg #[.string ⟨#[]⟩, .string ⟨#[]⟩, .bool false]) 3 40 Tryz.underlying27 HI.out HI0.out HI1.out HI2.out rfl (by decide) (.slice none 0 0) 0 [] (by simp [Act.eval]) (World.ownsRow_nil _ _ _ _) ⟨g, 0, none⟩ i yc (kyV (R.take i)) (by simp [Act.eval]) HLT.out HN1.out (kyV_one _) (by unfold maxLen; omega) (by omega) (Nat.le_refl _) ?_
        intro v1 w2 hown1 hgr1 hat1
        rw [Nat.zero_add, List.nil_append] at hown1
        have hbel1 : Below W.heap.size W w2 := ⟨hgr1.os, hgr1.tape, hgr1.output, hgr1.size, fun q hq => hgr1.block q hq (by simp [Value.ownBlock])⟩
        obtain ⟨a9, c9, rfl⟩ := yrow_slice hown1
        have HO1 := hide hown1
        have HBL1 := hide hbel1
        have cK1 : w2.cell? ⟨y, 0, none⟩ = some (.slice (some ⟨g, 0, none⟩) m yc) := (hbel1.cell (p := ⟨y, 0, none⟩) HYW.out).trans cK
        clear hown1 hgr1 hat1 hbel1
        refine hK.out _ _ trivial (fun hHeld => ?_)
        clear hK K
        try simp [Act.put]
        refine wpAnyH_ready (rs := [15]) (by kernel_rfl) (by simp) ?_
        refine AllReadyH.cons rfl (fun K hK => ?_) AllReadyH.nil
        rw [if_pos (by simp [Region.wanted])]
        refine opw_append W.heap.size (.tmp 76) (.tmp 83) 27 rfl keyT i0 (.agg #[.string ⟨#[]⟩, .string ⟨#[]⟩, .bool false]) 3 40 Tryz.underlying27 HI.out HI0.out HI1.out HI2.out rfl (by decide) (.slice a9 i c9) i (kyV (R.take i)) (by simp [Act.eval]) HO1.out ⟨g, (i + 1) * 3, none⟩ (m - (i + 1)) (yc - (i + 1)) (kyV (R.drop (i + 1))) (by simp [Act.eval]) HLD.out (HN2.out w2 HBL1.out) (kyV_one _) (by unfold maxLen; omega) (by omega) HBL1.out.size ?_
        intro v2 w3 hown2 hgr2 hat2
        obtain ⟨a8, c8, rfl⟩ := yrow_slice hown2
        have hge := two_app HBL1.out HO1.out hgr2 (HTL.out _ hown2)
        have hbx3 := (hge.bel.block _ HYW.out).trans HBXW.out
        have hly := ky_lay HYW.out (Below.refl _ _) hge hbx3
        have c1 := cell_of_block (i := 0) hbx3
        have f1 := free_of_block (i := 0) hbx3
        have HN := hide hly
        clear hown2 hgr2 hat2 hge hbx3 hly
        refine hK.out _ _ trivial (fun hHeld => ?_)
        clear hK K
        try simp [Act.put]
        refine wpAnyH_take (i := 16) (v := ?v190) rfl (by kernel_rfl) (by kernel_rfl) (by kernel_rfl) (fun _ _ _ h => h) (Or.inl ⟨by rfl, ?hy190⟩) hHeld ?rest190
        case hy190 => (intro w' hSw; skip; go_simp; try with_reducible rfl)
        try simp [Act.put]
        refine wpAnyH_take (i := 17) (v := ?v191) rfl (by kernel_rfl) (by kernel_rfl) (by kernel_rfl) (fun _ _ _ h => h) (Or.inl ⟨by rfl, ?hy191⟩) hHeld ?rest191
        case hy191 => (intro w' hSw; skip; go_simp; try with_reducible rfl)
        try simp [Act.put]
        refine wpAnyH_ready (rs := [18]) (by kernel_rfl) (by simp) ?_
        refine AllReadyH.cons rfl (fun K hK => ?_) AllReadyH.nil
        go_simp
        refine hK.out _ _ trivial (fun hHeld => ?_)
        clear hK K
        try simp [Act.put]
        refine wpAnyH_done (by kernel_rfl) (NoPanic.normal ?_) _
        have HY4 := hide HN.out.1
        have HM4 := hide (Bm.trans (Bm.of_below HBW.out) HN.out.2)
        generalize w3.setCell ⟨y, 0, none⟩ (.slice a8 (i + (m - (i + 1))) c8) = w4 at *
        clear c1 f1 cK cK1 HN HO1 HBL1 HN1 HN2 HBXW
        have HZ4 := hide (HM4.out.keep HZ1.out (by have := HYL.out; omega))
        have q1 : w4.cell? ⟨w.heap.size, 1, none⟩ = some (.string k) := cell_of_block (HM4.out.keep HR1.out (by have := HYL.out; omega))
        have HPT := hide (yd_put HY4.out HSL.out k ⟨⟨#[]⟩, true⟩ HSN.out)
        go_wp2_with fail
        refine HPT.out.mono ?_
        rintro e w5 ⟨rfl, hy5, hb5⟩
        have HY5 := hide hy5
        have HB5 := hide (HM4.out.trans hb5)
        have HZ5 := hide (hb5.keep HZ4.out (by have := HYL.out; omega))
        clear hy5 hb5
        go_wp2_with (first | (refine wpList_store_row rfl 37 (.tmp 4) (.tmp 92) rfl (w.heap.size + 1) #[.int .i64 0, .string ⟨#[]⟩, .slice none 0 0] rfl rfl 37 _ HZ5.out rs_info rfl (rs_one _ _ _ _ _) ?_))
        refine bodyPost_ret (res_rs rfl _ _ (w.heap.size + 1) 0 ByteArray.empty none 0 0 rfl (rsB_row HZ5.out)) rfl ?_
        exact ⟨⟨none, 0, [], by rw [HC.out, HA.out]; rfl, Nat.le_refl _, Nat.zero_le _, .inl rfl, HKS.out, fun _ => rfl, fun p hp => by cases hp⟩, ⟨_, ky_row HY5.out HZ5.out _, HRN.out, HLN.out⟩, bm_row HB1.out HB5.out (by omega) _⟩
    · have hyi : yc = i + 1 := by omega
      subst hyi
      have hmi : m = i + 1 := by omega
      have hdn : R.drop (i + 1) = [] := List.drop_eq_nil_of_le (by omega)
      have HBX := hide hbxm
      have HLD : Hid ((kyV (R.drop (i + 1))).length = 0 * 3) := by rw [hdn]; rfl
      have HTL : Hid (∀ v {w3 : World} {WW : Nat}, w3.ownsRow WW keyT 3 v i (kyV (R.take i) ++ kyV (R.drop (i + 1))) → w3.ownsRow WW keyT 3 v (R.take i ++ R.drop (i + 1)).length (kyV (R.take i ++ R.drop (i + 1)))) := fun v w3 WW h => by rw [hlen2, kyV_append, show i + (m - (i + 1)) = i by omega]; exact h
      have HCD : Hid (∀ W, Below w1.heap.size w1 W → ∀ j u, (kyV (R.drop (i + 1)))[j]? = some u → W.cell? ((⟨g, 0, none⟩ : Addr).add j) = some u) := fun W hW j u hj => by rw [hdn] at hj; cases hj
      clear hm hld hbxm hlen2 hcd hdn
      have HMI := hide hmi
      have hkc3 : (i : Int) ≤ (i : Int) + 1 := by omega
      clear hmi
      go_wp2_with fail
      refine wp_region_noPanic ?_
      refine wp_region_held_drew (S := fun _ => True) (by kernel_rfl) trivial (fun hHeld => ?_)
      obtain ⟨W, hW⟩ : ∃ W, W = w1.drew := ⟨_, rfl⟩
      have HBW : Hid (Below w1.heap.size w1 W) := by rw [hW]; exact (Below.refl _ w1).drew
      have HBXW : Hid (W.heap[y]? = some (.cells #[.slice (some ⟨g, 0, none⟩) m (i + 1)] 29 (0, 0))) := HBX.out _ HBW.out
      have cK : W.cell? ⟨y, 0, none⟩ = some (.slice (some ⟨g, 0, none⟩) m (i + 1)) := cell_of_block HBXW.out
      have HYW : Hid (y < W.heap.size) := lt_of_block HBXW.out
      have HN1 : Hid (∀ j u, (kyV (R.take i))[j]? = some u → W.cell? ((⟨g, 0, none⟩ : Addr).add j) = some u) := HCT.out _ HBW.out
      have HN2 : Hid (∀ x, Below W.heap.size W x → ∀ j u, (kyV (R.drop (i + 1)))[j]? = some u → x.cell? ((⟨g, 0, none⟩ : Addr).add j) = some u) := fun x hx => HCD.out _ (HBW.out.trans (hx.mono HBW.out.size))
      rw [← hW]
      clear hW
      refine wpAnyH_take (i := 0) (v := ?v300) rfl (by kernel_rfl) (by kernel_rfl) (by kernel_rfl) (fun _ _ _ h => h) (Or.inl ⟨by rfl, ?hy300⟩) hHeld ?rest300
      case hy300 => (intro w' hSw; skip; go_simp; try with_reducible rfl)
      try simp [Act.put]
      refine wpAnyH_take (i := 1) (v := ?v301) rfl (by kernel_rfl) (by kernel_rfl) (by kernel_rfl) (fun _ _ _ h => h) (Or.inl ⟨by rfl, ?hy301⟩) hHeld ?rest301
      case hy301 => (intro w' hSw; skip; go_simp; try with_reducible rfl)
      try simp [Act.put]
      refine wpAnyH_take (i := 2) (v := ?v302) rfl (by kernel_rfl) (by kernel_rfl) (by kernel_rfl) (fun _ _ _ h => h) (Or.inl ⟨by rfl, ?hy302⟩) hHeld ?rest302
      case hy302 => (intro w' hSw; skip; go_simp; try with_reducible rfl)
      try simp [Act.put]
      refine wpAnyH_take (i := 3) (v := ?v303) rfl (by kernel_rfl) (by kernel_rfl) (by kernel_rfl) (fun _ _ _ h => h) (Or.inl ⟨by rfl, ?hy303⟩) hHeld ?rest303
      case hy303 => (intro w' hSw; skip; go_simp; try with_reducible rfl)
      try simp [Act.put]
      refine wpAnyH_take (i := 5) (v := ?v304) rfl (by kernel_rfl) (by kernel_rfl) (by kernel_rfl) (fun _ _ _ h => h) (Or.inl ⟨by rfl, ?hy304⟩) hHeld ?rest304
      case hy304 => (intro w' hSw; skip; go_simp; try with_reducible rfl)
      try simp [Act.put]
      refine wpAnyH_take (i := 8) (v := ?v305) rfl (by kernel_rfl) (by kernel_rfl) (by kernel_rfl) (fun _ _ _ h => h) (Or.inl ⟨by rfl, ?hy305⟩) hHeld ?rest305
      case hy305 => (intro w' hSw; skip; go_simp; try with_reducible rfl)
      try simp [Act.put]
      refine wpAnyH_take (i := 9) (v := ?v306) rfl (by kernel_rfl) (by kernel_rfl) (by kernel_rfl) (fun _ _ _ h => h) (Or.inl ⟨by rfl, ?hy306⟩) hHeld ?rest306
      case hy306 => (intro w' hSw; skip; go_simp; try with_reducible rfl)
      try simp [Act.put]
      refine wpAnyH_take (i := 10) (v := ?v307) rfl (by kernel_rfl) (by kernel_rfl) (by kernel_rfl) (fun _ _ _ h => h) (Or.inl ⟨by rfl, ?hy307⟩) hHeld ?rest307
      case hy307 => (intro w' hSw; skip; go_simp; try with_reducible rfl)
      try simp [Act.put]
      refine wpAnyH_take (i := 12) (v := ?v308) rfl (by kernel_rfl) (by kernel_rfl) (by kernel_rfl) (fun _ _ _ h => h) (Or.inl ⟨by rfl, ?hy308⟩) hHeld ?rest308
      case hy308 => (intro w' hSw; skip; go_simp; try with_reducible rfl)
      try simp [Act.put]
      refine wpAnyH_take (i := 13) (v := ?v309) rfl (by kernel_rfl) (by kernel_rfl) (by kernel_rfl) (fun _ _ _ h => h) (Or.inl ⟨by rfl, ?hy309⟩) hHeld ?rest309
      case hy309 => (intro w' hSw; skip; go_simp; try with_reducible rfl)
      try simp [Act.put]
      refine wpAnyH_ready (rs := [4, 11]) (by kernel_rfl) (by simp) ?_
      refine AllReadyH.cons rfl (fun K hK => ?first) (AllReadyH.cons rfl (fun K hK => ?second) AllReadyH.nil)
      case first =>
        go_simp
        refine hK.out _ _ trivial (fun hHeld => ?_)
        clear hK K
        try simp [Act.put]
        refine wpAnyH_take (i := 6) (v := ?v320) rfl (by kernel_rfl) (by kernel_rfl) (by kernel_rfl) (fun _ _ _ h => h) (Or.inl ⟨by rfl, ?hy320⟩) hHeld ?rest320
        case hy320 => (intro w' hSw; skip; go_simp; try with_reducible rfl)
        try simp [Act.put]
        refine wpAnyH_ready (rs := [7, 11]) (by kernel_rfl) (by simp) ?_
        refine AllReadyH.cons rfl (fun K hK => ?third) (AllReadyH.cons rfl (fun K hK => ?fourth) AllReadyH.nil)
        case third =>
          rw [if_pos (by simp [Region.wanted])]
          refine opw_append W.heap.size (.const (.slice none 0 0)) (.tmp 75) 27 rfl keyT i0 (.agg #[.string ⟨#[]⟩, .string ⟨#[]⟩, .bool false]) 3 40 Tryz.underlying27 HI.out HI0.out HI1.out HI2.out rfl (by decide) (.slice none 0 0) 0 [] (by simp [Act.eval]) (World.ownsRow_nil _ _ _ _) ⟨g, 0, none⟩ i (i + 1) (kyV (R.take i)) (by simp [Act.eval]) HLT.out HN1.out (kyV_one _) (by unfold maxLen; omega) (by omega) (Nat.le_refl _) ?_
          intro v1 w2 hown1 hgr1 hat1
          rw [Nat.zero_add, List.nil_append] at hown1
          have hbel1 : Below W.heap.size W w2 := ⟨hgr1.os, hgr1.tape, hgr1.output, hgr1.size, fun q hq => hgr1.block q hq (by simp [Value.ownBlock])⟩
          obtain ⟨a9, c9, rfl⟩ := yrow_slice hown1
          have HO1 := hide hown1
          have HBL1 := hide hbel1
          have cK1 : w2.cell? ⟨y, 0, none⟩ = some (.slice (some ⟨g, 0, none⟩) m (i + 1)) := (hbel1.cell (p := ⟨y, 0, none⟩) HYW.out).trans cK
          clear hown1 hgr1 hat1 hbel1
          refine hK.out _ _ trivial (fun hHeld => ?_)
          clear hK K
          try simp [Act.put]
          refine wpAnyH_ready (rs := [11]) (by kernel_rfl) (by simp) ?_
          refine AllReadyH.cons rfl (fun K hK => ?_) AllReadyH.nil
          go_simp
          refine hK.out _ _ trivial (fun hHeld => ?_)
          clear hK K
          try simp [Act.put]
          refine wpAnyH_take (i := 14) (v := ?v330) rfl (by kernel_rfl) (by kernel_rfl) (by kernel_rfl) (fun _ _ _ h => h) (Or.inl ⟨by rfl, ?hy330⟩) hHeld ?rest330
          case hy330 => (intro w' hSw; skip; go_simp; try with_reducible rfl)
          try simp [Act.put]
          refine wpAnyH_ready (rs := [15]) (by kernel_rfl) (by simp) ?_
          refine AllReadyH.cons rfl (fun K hK => ?_) AllReadyH.nil
          rw [if_pos (by simp [Region.wanted])]
          refine opw_append W.heap.size (.tmp 76) (.tmp 83) 27 rfl keyT i0 (.agg #[.string ⟨#[]⟩, .string ⟨#[]⟩, .bool false]) 3 40 Tryz.underlying27 HI.out HI0.out HI1.out HI2.out rfl (by decide) (.slice a9 i c9) i (kyV (R.take i)) (by simp [Act.eval]) HO1.out ⟨g, 0, none⟩ 0 ((i + 1) - (i + 1)) (kyV (R.drop (i + 1))) (by simp [Act.eval]) HLD.out (HN2.out w2 HBL1.out) (kyV_one _) (by unfold maxLen; omega) (by omega) HBL1.out.size ?_
          intro v2 w3 hown2 hgr2 hat2; rw [Nat.add_zero] at hown2
          obtain ⟨a8, c8, rfl⟩ := yrow_slice hown2
          have hge := two_app HBL1.out HO1.out hgr2 (HTL.out _ hown2)
          have hbx3 := (hge.bel.block _ HYW.out).trans HBXW.out
          have hly := ky_lay HYW.out (Below.refl _ _) hge hbx3
          have c1 := cell_of_block (i := 0) hbx3
          have f1 := free_of_block (i := 0) hbx3
          have HN := hide hly
          clear hown2 hgr2 hat2 hge hbx3 hly
          refine hK.out _ _ trivial (fun hHeld => ?_)
          clear hK K
          try simp [Act.put]
          refine wpAnyH_take (i := 16) (v := ?v340) rfl (by kernel_rfl) (by kernel_rfl) (by kernel_rfl) (fun _ _ _ h => h) (Or.inl ⟨by rfl, ?hy340⟩) hHeld ?rest340
          case hy340 => (intro w' hSw; skip; go_simp; try with_reducible rfl)
          try simp [Act.put]
          refine wpAnyH_take (i := 17) (v := ?v341) rfl (by kernel_rfl) (by kernel_rfl) (by kernel_rfl) (fun _ _ _ h => h) (Or.inl ⟨by rfl, ?hy341⟩) hHeld ?rest341
          case hy341 => (intro w' hSw; skip; go_simp; try with_reducible rfl)
          try simp [Act.put]
          refine wpAnyH_ready (rs := [18]) (by kernel_rfl) (by simp) ?_
          refine AllReadyH.cons rfl (fun K hK => ?_) AllReadyH.nil
          go_simp
          refine hK.out _ _ trivial (fun hHeld => ?_)
          clear hK K
          try simp [Act.put]
          refine wpAnyH_done (by kernel_rfl) (NoPanic.normal ?_) _
          have HY4 := hide HN.out.1
          have HM4 := hide (Bm.trans (Bm.of_below HBW.out) HN.out.2)
          generalize w3.setCell ⟨y, 0, none⟩ (.slice a8 i c8) = w4 at *
          clear c1 f1 cK cK1 HN HO1 HBL1 HN1 HN2 HBXW
          have HZ4 := hide (HM4.out.keep HZ1.out (by have := HYL.out; omega))
          have q1 : w4.cell? ⟨w.heap.size, 1, none⟩ = some (.string k) := cell_of_block (HM4.out.keep HR1.out (by have := HYL.out; omega))
          have HPT := hide (yd_put HY4.out HSL.out k ⟨⟨#[]⟩, true⟩ HSN.out)
          go_wp2_with fail
          refine HPT.out.mono ?_
          rintro e w5 ⟨rfl, hy5, hb5⟩
          have HY5 := hide hy5
          have HB5 := hide (HM4.out.trans hb5)
          have HZ5 := hide (hb5.keep HZ4.out (by have := HYL.out; omega))
          clear hy5 hb5
          go_wp2_with (first | (refine wpList_store_row rfl 37 (.tmp 4) (.tmp 92) rfl (w.heap.size + 1) #[.int .i64 0, .string ⟨#[]⟩, .slice none 0 0] rfl rfl 37 _ HZ5.out rs_info rfl (rs_one _ _ _ _ _) ?_))
          refine bodyPost_ret (res_rs rfl _ _ (w.heap.size + 1) 0 ByteArray.empty none 0 0 rfl (rsB_row HZ5.out)) rfl ?_
          exact ⟨⟨none, 0, [], by rw [HC.out, HA.out]; rfl, Nat.le_refl _, Nat.zero_le _, .inl rfl, HKS.out, fun _ => rfl, fun p hp => by cases hp⟩, ⟨_, ky_row HY5.out HZ5.out _, HRN.out, HLN.out⟩, bm_row HB1.out HB5.out (by omega) _⟩
        case fourth =>
          go_simp
          refine hK.out _ _ trivial (fun hHeld => ?_)
          clear hK K
          try simp [Act.put]
          refine wpAnyH_take (i := 14) (v := ?v350) rfl (by kernel_rfl) (by kernel_rfl) (by kernel_rfl) (fun _ _ _ h => h) (Or.inl ⟨by rfl, ?hy350⟩) hHeld ?rest350
          case hy350 => (intro w' hSw; skip; go_simp; try with_reducible rfl)
          try simp [Act.put]
          refine wpAnyH_ready (rs := [7]) (by kernel_rfl) (by simp) ?_
          refine AllReadyH.cons rfl (fun K hK => ?_) AllReadyH.nil
          rw [if_pos (by simp [Region.wanted])]
          refine opw_append W.heap.size (.const (.slice none 0 0)) (.tmp 75) 27 rfl keyT i0 (.agg #[.string ⟨#[]⟩, .string ⟨#[]⟩, .bool false]) 3 40 Tryz.underlying27 HI.out HI0.out HI1.out HI2.out rfl (by decide) (.slice none 0 0) 0 [] (by simp [Act.eval]) (World.ownsRow_nil _ _ _ _) ⟨g, 0, none⟩ i (i + 1) (kyV (R.take i)) (by simp [Act.eval]) HLT.out HN1.out (kyV_one _) (by unfold maxLen; omega) (by omega) (Nat.le_refl _) ?_
          intro v1 w2 hown1 hgr1 hat1
          rw [Nat.zero_add, List.nil_append] at hown1
          have hbel1 : Below W.heap.size W w2 := ⟨hgr1.os, hgr1.tape, hgr1.output, hgr1.size, fun q hq => hgr1.block q hq (by simp [Value.ownBlock])⟩
          obtain ⟨a9, c9, rfl⟩ := yrow_slice hown1
          have HO1 := hide hown1
          have HBL1 := hide hbel1
          have cK1 : w2.cell? ⟨y, 0, none⟩ = some (.slice (some ⟨g, 0, none⟩) m (i + 1)) := (hbel1.cell (p := ⟨y, 0, none⟩) HYW.out).trans cK
          clear hown1 hgr1 hat1 hbel1
          refine hK.out _ _ trivial (fun hHeld => ?_)
          clear hK K
          try simp [Act.put]
          refine wpAnyH_ready (rs := [15]) (by kernel_rfl) (by simp) ?_
          refine AllReadyH.cons rfl (fun K hK => ?_) AllReadyH.nil
          rw [if_pos (by simp [Region.wanted])]
          refine opw_append W.heap.size (.tmp 76) (.tmp 83) 27 rfl keyT i0 (.agg #[.string ⟨#[]⟩, .string ⟨#[]⟩, .bool false]) 3 40 Tryz.underlying27 HI.out HI0.out HI1.out HI2.out rfl (by decide) (.slice a9 i c9) i (kyV (R.take i)) (by simp [Act.eval]) HO1.out ⟨g, 0, none⟩ 0 ((i + 1) - (i + 1)) (kyV (R.drop (i + 1))) (by simp [Act.eval]) HLD.out (HN2.out w2 HBL1.out) (kyV_one _) (by unfold maxLen; omega) (by omega) HBL1.out.size ?_
          intro v2 w3 hown2 hgr2 hat2; rw [Nat.add_zero] at hown2
          obtain ⟨a8, c8, rfl⟩ := yrow_slice hown2
          have hge := two_app HBL1.out HO1.out hgr2 (HTL.out _ hown2)
          have hbx3 := (hge.bel.block _ HYW.out).trans HBXW.out
          have hly := ky_lay HYW.out (Below.refl _ _) hge hbx3
          have c1 := cell_of_block (i := 0) hbx3
          have f1 := free_of_block (i := 0) hbx3
          have HN := hide hly
          clear hown2 hgr2 hat2 hge hbx3 hly
          refine hK.out _ _ trivial (fun hHeld => ?_)
          clear hK K
          try simp [Act.put]
          refine wpAnyH_take (i := 16) (v := ?v360) rfl (by kernel_rfl) (by kernel_rfl) (by kernel_rfl) (fun _ _ _ h => h) (Or.inl ⟨by rfl, ?hy360⟩) hHeld ?rest360
          case hy360 => (intro w' hSw; skip; go_simp; try with_reducible rfl)
          try simp [Act.put]
          refine wpAnyH_take (i := 17) (v := ?v361) rfl (by kernel_rfl) (by kernel_rfl) (by kernel_rfl) (fun _ _ _ h => h) (Or.inl ⟨by rfl, ?hy361⟩) hHeld ?rest361
          case hy361 => (intro w' hSw; skip; go_simp; try with_reducible rfl)
          try simp [Act.put]
          refine wpAnyH_ready (rs := [18]) (by kernel_rfl) (by simp) ?_
          refine AllReadyH.cons rfl (fun K hK => ?_) AllReadyH.nil
          go_simp
          refine hK.out _ _ trivial (fun hHeld => ?_)
          clear hK K
          try simp [Act.put]
          refine wpAnyH_done (by kernel_rfl) (NoPanic.normal ?_) _
          have HY4 := hide HN.out.1
          have HM4 := hide (Bm.trans (Bm.of_below HBW.out) HN.out.2)
          generalize w3.setCell ⟨y, 0, none⟩ (.slice a8 i c8) = w4 at *
          clear c1 f1 cK cK1 HN HO1 HBL1 HN1 HN2 HBXW
          have HZ4 := hide (HM4.out.keep HZ1.out (by have := HYL.out; omega))
          have q1 : w4.cell? ⟨w.heap.size, 1, none⟩ = some (.string k) := cell_of_block (HM4.out.keep HR1.out (by have := HYL.out; omega))
          have HPT := hide (yd_put HY4.out HSL.out k ⟨⟨#[]⟩, true⟩ HSN.out)
          go_wp2_with fail
          refine HPT.out.mono ?_
          rintro e w5 ⟨rfl, hy5, hb5⟩
          have HY5 := hide hy5
          have HB5 := hide (HM4.out.trans hb5)
          have HZ5 := hide (hb5.keep HZ4.out (by have := HYL.out; omega))
          clear hy5 hb5
          go_wp2_with (first | (refine wpList_store_row rfl 37 (.tmp 4) (.tmp 92) rfl (w.heap.size + 1) #[.int .i64 0, .string ⟨#[]⟩, .slice none 0 0] rfl rfl 37 _ HZ5.out rs_info rfl (rs_one _ _ _ _ _) ?_))
          refine bodyPost_ret (res_rs rfl _ _ (w.heap.size + 1) 0 ByteArray.empty none 0 0 rfl (rsB_row HZ5.out)) rfl ?_
          exact ⟨⟨none, 0, [], by rw [HC.out, HA.out]; rfl, Nat.le_refl _, Nat.zero_le _, .inl rfl, HKS.out, fun _ => rfl, fun p hp => by cases hp⟩, ⟨_, ky_row HY5.out HZ5.out _, HRN.out, HLN.out⟩, bm_row HB1.out HB5.out (by omega) _⟩
      case second =>
        go_simp
        refine hK.out _ _ trivial (fun hHeld => ?_)
        clear hK K
        try simp [Act.put]
        refine wpAnyH_take (i := 14) (v := ?v370) rfl (by kernel_rfl) (by kernel_rfl) (by kernel_rfl) (fun _ _ _ h => h) (Or.inl ⟨by rfl, ?hy370⟩) hHeld ?rest370
        case hy370 => (intro w' hSw; skip; go_simp; try with_reducible rfl)
        try simp [Act.put]
        refine wpAnyH_ready (rs := [4]) (by kernel_rfl) (by simp) ?_
        refine AllReadyH.cons rfl (fun K hK => ?_) AllReadyH.nil
        go_simp
        refine hK.out _ _ trivial (fun hHeld => ?_)
        clear hK K
        try simp [Act.put]
        refine wpAnyH_take (i := 6) (v := ?v380) rfl (by kernel_rfl) (by kernel_rfl) (by kernel_rfl) (fun _ _ _ h => h) (Or.inl ⟨by rfl, ?hy380⟩) hHeld ?rest380
        case hy380 => (intro w' hSw; skip; go_simp; try with_reducible rfl)
        try simp [Act.put]
        refine wpAnyH_ready (rs := [7]) (by kernel_rfl) (by simp) ?_
        refine AllReadyH.cons rfl (fun K hK => ?_) AllReadyH.nil
        rw [if_pos (by simp [Region.wanted])]
        refine opw_append W.heap.size (.const (.slice none 0 0)) (.tmp 75) 27 rfl keyT i0 (.agg #[.string ⟨#[]⟩, .string ⟨#[]⟩, .bool false]) 3 40 Tryz.underlying27 HI.out HI0.out HI1.out HI2.out rfl (by decide) (.slice none 0 0) 0 [] (by simp [Act.eval]) (World.ownsRow_nil _ _ _ _) ⟨g, 0, none⟩ i (i + 1) (kyV (R.take i)) (by simp [Act.eval]) HLT.out HN1.out (kyV_one _) (by unfold maxLen; omega) (by omega) (Nat.le_refl _) ?_
        intro v1 w2 hown1 hgr1 hat1
        rw [Nat.zero_add, List.nil_append] at hown1
        have hbel1 : Below W.heap.size W w2 := ⟨hgr1.os, hgr1.tape, hgr1.output, hgr1.size, fun q hq => hgr1.block q hq (by simp [Value.ownBlock])⟩
        obtain ⟨a9, c9, rfl⟩ := yrow_slice hown1
        have HO1 := hide hown1
        have HBL1 := hide hbel1
        have cK1 : w2.cell? ⟨y, 0, none⟩ = some (.slice (some ⟨g, 0, none⟩) m (i + 1)) := (hbel1.cell (p := ⟨y, 0, none⟩) HYW.out).trans cK
        clear hown1 hgr1 hat1 hbel1
        refine hK.out _ _ trivial (fun hHeld => ?_)
        clear hK K
        try simp [Act.put]
        refine wpAnyH_ready (rs := [15]) (by kernel_rfl) (by simp) ?_
        refine AllReadyH.cons rfl (fun K hK => ?_) AllReadyH.nil
        rw [if_pos (by simp [Region.wanted])]
        refine opw_append W.heap.size (.tmp 76) (.tmp 83) 27 rfl keyT i0 (.agg #[.string ⟨#[]⟩, .string ⟨#[]⟩, .bool false]) 3 40 Tryz.underlying27 HI.out HI0.out HI1.out HI2.out rfl (by decide) (.slice a9 i c9) i (kyV (R.take i)) (by simp [Act.eval]) HO1.out ⟨g, 0, none⟩ 0 ((i + 1) - (i + 1)) (kyV (R.drop (i + 1))) (by simp [Act.eval]) HLD.out (HN2.out w2 HBL1.out) (kyV_one _) (by unfold maxLen; omega) (by omega) HBL1.out.size ?_
        intro v2 w3 hown2 hgr2 hat2; rw [Nat.add_zero] at hown2
        obtain ⟨a8, c8, rfl⟩ := yrow_slice hown2
        have hge := two_app HBL1.out HO1.out hgr2 (HTL.out _ hown2)
        have hbx3 := (hge.bel.block _ HYW.out).trans HBXW.out
        have hly := ky_lay HYW.out (Below.refl _ _) hge hbx3
        have c1 := cell_of_block (i := 0) hbx3
        have f1 := free_of_block (i := 0) hbx3
        have HN := hide hly
        clear hown2 hgr2 hat2 hge hbx3 hly
        refine hK.out _ _ trivial (fun hHeld => ?_)
        clear hK K
        try simp [Act.put]
        refine wpAnyH_take (i := 16) (v := ?v390) rfl (by kernel_rfl) (by kernel_rfl) (by kernel_rfl) (fun _ _ _ h => h) (Or.inl ⟨by rfl, ?hy390⟩) hHeld ?rest390
        case hy390 => (intro w' hSw; skip; go_simp; try with_reducible rfl)
        try simp [Act.put]
        refine wpAnyH_take (i := 17) (v := ?v391) rfl (by kernel_rfl) (by kernel_rfl) (by kernel_rfl) (fun _ _ _ h => h) (Or.inl ⟨by rfl, ?hy391⟩) hHeld ?rest391
        case hy391 => (intro w' hSw; skip; go_simp; try with_reducible rfl)
        try simp [Act.put]
        refine wpAnyH_ready (rs := [18]) (by kernel_rfl) (by simp) ?_
        refine AllReadyH.cons rfl (fun K hK => ?_) AllReadyH.nil
        go_simp
        refine hK.out _ _ trivial (fun hHeld => ?_)
        clear hK K
        try simp [Act.put]
        refine wpAnyH_done (by kernel_rfl) (NoPanic.normal ?_) _
        have HY4 := hide HN.out.1
        have HM4 := hide (Bm.trans (Bm.of_below HBW.out) HN.out.2)
        generalize w3.setCell ⟨y, 0, none⟩ (.slice a8 i c8) = w4 at *
        clear c1 f1 cK cK1 HN HO1 HBL1 HN1 HN2 HBXW
        have HZ4 := hide (HM4.out.keep HZ1.out (by have := HYL.out; omega))
        have q1 : w4.cell? ⟨w.heap.size, 1, none⟩ = some (.string k) := cell_of_block (HM4.out.keep HR1.out (by have := HYL.out; omega))
        have HPT := hide (yd_put HY4.out HSL.out k ⟨⟨#[]⟩, true⟩ HSN.out)
        go_wp2_with fail
        refine HPT.out.mono ?_
        rintro e w5 ⟨rfl, hy5, hb5⟩
        have HY5 := hide hy5
        have HB5 := hide (HM4.out.trans hb5)
        have HZ5 := hide (hb5.keep HZ4.out (by have := HYL.out; omega))
        clear hy5 hb5
        go_wp2_with (first | (refine wpList_store_row rfl 37 (.tmp 4) (.tmp 92) rfl (w.heap.size + 1) #[.int .i64 0, .string ⟨#[]⟩, .slice none 0 0] rfl rfl 37 _ HZ5.out rs_info rfl (rs_one _ _ _ _ _) ?_))
        refine bodyPost_ret (res_rs rfl _ _ (w.heap.size + 1) 0 ByteArray.empty none 0 0 rfl (rsB_row HZ5.out)) rfl ?_
        exact ⟨⟨none, 0, [], by rw [HC.out, HA.out]; rfl, Nat.le_refl _, Nat.zero_le _, .inl rfl, HKS.out, fun _ => rfl, fun p hp => by cases hp⟩, ⟨_, ky_row HY5.out HZ5.out _, HRN.out, HLN.out⟩, bm_row HB1.out HB5.out (by omega) _⟩
end Go.Proofs.YtlpibpkbgmcclaaGreatDoor
