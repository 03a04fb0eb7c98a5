/- What Unpin of the document's pins answers. (Written by genkn.py.) -/
import Derived.Test.YtghcekhlohgkaaaKnMem
namespace Go.Proofs.Ytghcekhlohgkaaa
open Go.RowKit
set_option linter.unusedVariables false
set_option maxRecDepth 100000 in
set_option maxHeartbeats 16000000 in
theorem kn_unpin {B : Nat} {Z : Kn} {Q : List (Int × Int)} {M : List VD} {w : World} (h : KnAt B w Z Q M) (i g : Int) (hn : Q.length ≤ 1000000) : Calls Try.prog 13 #[.pointer (some ⟨Z.kb, 0, none⟩), .int .i64 i, .int .i64 g] w fun e w' => e = .returned (.int .i64 (unE (cnt Q) (i, g))) ∧ ∃ K', K'.kb = Z.kb ∧ KnAt B w' K' (Q.erase (i, g)) M ∧ Mds B Z.own w K'.own w' := by
  obtain ⟨al, cl, hv, hcl, hcm, hla⟩ := row_locs h.rl
  have c0 : w.cell? ⟨Z.kb, 0, none⟩ = some (.slice al Q.length cl) := by rw [← hv]; exact cell_of_block h.box
  have HLA := hide hla
  have HH := hide h
  obtain ⟨qn, hqn⟩ : ∃ qn, Q.length = qn := ⟨_, rfl⟩
  rw [hqn] at c0 hcl hn
  have HQN := hide hqn
  obtain ⟨i0, hi0, hz0, hz1, hz2⟩ := info_parts read_info
  have HI := hide hi0
  have HI0 := hide hz0
  have HI1 := hide hz1
  have HI2 := hide hz2
  clear h hv hla hqn hi0 hz0 hz1 hz2
  go_enter Try.func13, Try.ntmps13
  go_wp2_with fail
  go_loopw [7] (fun y7 wr => ∃ k : Nat, k ≤ qn ∧ y7 = .int .i64 k ∧ (∀ j, j < k → Q[j]? ≠ some (i, g)) ∧ wr = w) (fun y7 _ => qn - (intOf y7).toNat)
  case atStart => exact ⟨0, by omega, rfl, fun j hj => by omega, rfl⟩
  case round =>
    obtain ⟨k, hk, rfl, hno, rfl⟩ := hrel
    have HNO := hide hno
    clear hno
    by_cases hlt : k < qn
    · have hd : decide ((k : Int) < (qn : Int)) = true := by simp; omega
      have hdi : (k : Int) < (qn : Int) := by omega
      have hd0 : (0 : Int) ≤ (k : Int) := by omega
      obtain ⟨⟨x1, x2⟩, hx⟩ : ∃ x, Q[k]? = some x := ⟨_, List.getElem?_eq_getElem (by have := HQN.out; omega)⟩
      obtain ⟨b1, o1, rfl, hb1, hcells⟩ := (show ∃ b o, al = some ⟨b, o, none⟩ ∧ b < wr.heap.size ∧ ∀ (j : Nat) (y : Int × Int), Q[j]? = some y → wr.cell? ⟨b, o + j * 2, none⟩ = some (.int .i64 y.1) ∧ wr.cell? ⟨b, o + j * 2 + 1, none⟩ = some (.int .i64 y.2) by
        rcases HLA.out with q | ⟨b, o, e1, e2, e3⟩
        · rw [q] at hx; simp at hx
        · exact ⟨b, o, e1, e2, e3⟩)
      have d0 := (hcells k _ hx).1
      have d1 := (hcells k _ hx).2
      simp only at d0 d1
      have HX := hide hx
      by_cases q1 : x1 = i
      · have hq1 : (x1 == i) = true := by simpa using q1
        by_cases q2 : x2 = g
        · have hq2 : (x2 == g) = true := by simpa using q2
          have HD := hide (HH.out.below ((Below.refl _ wr).drew))
          have HER : Hid (Q.erase (i, g) = Q.take k ++ Q.drop (k + 1)) := erase_at (by rw [HX.out, q1, q2]) HNO.out
          have HPOS : Hid (¬ cnt Q (i, g) = 0) := fun e => cnt_pos.1 e (by rw [← q1, ← q2]; exact List.mem_of_getElem? HX.out)
          have hat : ∀ p u, (lcV Q)[p]? = some u → wr.cell? ⟨b1, o1 + p, none⟩ = some u := fun p u hp => by
            have hp2 : p < Q.length * 2 := by have := (List.getElem?_eq_some_iff.1 hp).1; rw [lcV_len] at this; exact this
            obtain ⟨y, hy⟩ : ∃ y, Q[p / 2]? = some y := ⟨_, List.getElem?_eq_getElem (by omega)⟩
            obtain ⟨e1, e2⟩ := lcV_at hy
            obtain ⟨c1, c2⟩ := hcells _ y hy
            by_cases hp0 : p % 2 = 0
            · rw [show p / 2 * 2 = p by omega] at e1 c1
              rw [e1] at hp; cases hp; exact c1
            · rw [show p / 2 * 2 + 1 = p by omega] at e2
              rw [Nat.add_assoc, show p / 2 * 2 + 1 = p by omega] at c2
              rw [e2] at hp; cases hp; exact c2
          have hsp : lcV Q = lcV (Q.take k) ++ [.int .i64 x1, .int .i64 x2] ++ lcV (Q.drop (k + 1)) := by
            have e : Q = Q.take k ++ (x1, x2) :: Q.drop (k + 1) := by
              have h1 := List.take_append_drop k Q
              have h2 : Q.drop k = (x1, x2) :: Q.drop (k + 1) := by
                rw [List.drop_eq_getElem_cons (by have := HQN.out; omega)]
                congr 1
                have := HX.out
                rw [List.getElem?_eq_getElem (by have := HQN.out; omega)] at this
                exact Option.some.inj this
              rw [← h2]; exact h1.symm
            have e3 : lcV Q = lcV (Q.take k ++ (x1, x2) :: Q.drop (k + 1)) := congrArg lcV e
            rw [e3]
            unfold lcV
            rw [List.flatMap_append, List.flatMap_cons]
            simp
          have hlt2 : (lcV (Q.take k)).length = k * 2 := by rw [lcV_len, List.length_take]; have := HQN.out; omega
          have HCT : Hid (∀ j u, (lcV (Q.take k))[j]? = some u → wr.drew.cell? ((⟨b1, o1, none⟩ : Addr).add j) = some u) := fun j u hj => by
            rw [add_plain]
            refine hat j u ?_
            rw [hsp, List.append_assoc, List.getElem?_append_left (by exact (List.getElem?_eq_some_iff.1 hj).1)]
            exact hj
          have HCD : Hid (∀ w1, Below wr.drew.heap.size wr.drew w1 → ∀ j u, (lcV (Q.drop (k + 1)))[j]? = some u → w1.cell? ((⟨b1, o1 + (k + 1) * 2, none⟩ : Addr).add j) = some u) := fun w1 hb j u hj => by
            rw [add_plain]
            refine (hb.cell (p := ⟨b1, o1 + (k + 1) * 2 + j, none⟩) hb1).trans ?_
            show wr.cell? _ = _
            rw [Nat.add_assoc]
            refine hat ((k + 1) * 2 + j) u ?_
            have hlen : (lcV (Q.take k) ++ [Value.int .i64 x1, Value.int .i64 x2]).length = (k + 1) * 2 := by rw [List.length_append, hlt2]; simp; omega
            rw [hsp, List.getElem?_append_right (by rw [hlen]; omega), hlen, show (k + 1) * 2 + j - (k + 1) * 2 = j by omega]
            exact hj
          have HCE : Hid (k + 1 = qn → ∀ w1, Below wr.drew.heap.size wr.drew w1 → ∀ j u, (lcV (Q.drop (k + 1)))[j]? = some u → w1.cell? ((⟨b1, o1, none⟩ : Addr).add j) = some u) := fun e w1 hb j u hj => by
            rw [List.drop_eq_nil_of_le (by have := HQN.out; omega)] at hj
            simp [lcV] at hj
          have hk1 : (k : Int) + 1 ≤ (qn : Int) := by omega
          have hk1n : k + 1 ≤ qn := by omega
          have hwk : IntKind.i64.wrap ((k : Int) + 1) = ((k + 1 : Nat) : Int) := by rw [IntKind.wrap_i64]; omega
          have hkc : (k : Int) ≤ (cl : Int) := by omega
          have hk2 : (k : Int) + 1 ≤ (cl : Int) := by omega
          have hk0 : (0 : Int) ≤ (k : Int) + 1 := by omega
          clear hat hsp hlt2 hcells hx q1 q2
          by_cases hcap : k + 1 < cl
          · have hkn : ¬ (k + 1 = cl) := by omega
            have hkn2 : ¬ (cl = k + 1) := by omega
            have hkn3 : ¬ (cl - (k + 1) = 0) := by omega
            go_wp2_with fail
            refine wp_region_noPanic ?_
            refine wp_region_held_drew (S := fun _ => True) (by kernel_rfl) trivial (fun hHeld => ?_)
            obtain ⟨W, hW⟩ : ∃ W, W = wr.drew := ⟨_, rfl⟩
            have H := hide (show KnAt B W Z Q M by rw [hW]; exact HD.out)
            have cK : W.cell? ⟨Z.kb, 0, none⟩ = some (.slice (some ⟨b1, o1, none⟩) qn cl) := by rw [hW]; exact c0
            have HBw := hide (show B ≤ W.heap.size by have := H.out.low; have := H.out.lt (.inl rfl); omega)
            have HN1 := hide (show ∀ j u, (lcV (Q.take k))[j]? = some u → W.cell? ((⟨b1, o1, none⟩ : Addr).add j) = some u by rw [hW]; exact HCT.out)
            have HN2 := hide (show ∀ w1, Below W.heap.size W w1 → ∀ j u, (lcV (Q.drop (k + 1)))[j]? = some u → w1.cell? ((⟨b1, o1 + (k + 1) * 2, none⟩ : Addr).add j) = some u by rw [hW]; exact HCD.out)
            have HMD0 := hide (show Mds B Z.own wr Z.own W by rw [hW]; exact Mds.of_below _ ((Below.refl _ _).drew) (by have := HBw.out; rw [hW] at this; exact this))
            rw [← hW]
            clear hW
            refine wpAnyH_take (i := 0) (v := ?v100) rfl (by kernel_rfl) (by kernel_rfl) (by kernel_rfl) (fun _ _ _ h => h) (Or.inl ⟨by rfl, ?hy100⟩) hHeld ?rest100
            case hy100 => (intro w' hSw; skip; go_simp; try with_reducible rfl)
            try simp [Act.put]
            refine wpAnyH_take (i := 1) (v := ?v101) rfl (by kernel_rfl) (by kernel_rfl) (by kernel_rfl) (fun _ _ _ h => h) (Or.inl ⟨by rfl, ?hy101⟩) hHeld ?rest101
            case hy101 => (intro w' hSw; skip; go_simp; try with_reducible rfl)
            try simp [Act.put]
            refine wpAnyH_take (i := 2) (v := ?v102) rfl (by kernel_rfl) (by kernel_rfl) (by kernel_rfl) (fun _ _ _ h => h) (Or.inl ⟨by rfl, ?hy102⟩) hHeld ?rest102
            case hy102 => (intro w' hSw; skip; go_simp; try with_reducible rfl)
            try simp [Act.put]
            refine wpAnyH_take (i := 3) (v := ?v103) rfl (by kernel_rfl) (by kernel_rfl) (by kernel_rfl) (fun _ _ _ h => h) (Or.inl ⟨by rfl, ?hy103⟩) hHeld ?rest103
            case hy103 => (intro w' hSw; skip; go_simp; try with_reducible rfl)
            try simp [Act.put]
            refine wpAnyH_take (i := 5) (v := ?v104) rfl (by kernel_rfl) (by kernel_rfl) (by kernel_rfl) (fun _ _ _ h => h) (Or.inl ⟨by rfl, ?hy104⟩) hHeld ?rest104
            case hy104 => (intro w' hSw; skip; go_simp; try with_reducible rfl)
            try simp [Act.put]
            refine wpAnyH_take (i := 8) (v := ?v105) rfl (by kernel_rfl) (by kernel_rfl) (by kernel_rfl) (fun _ _ _ h => h) (Or.inl ⟨by rfl, ?hy105⟩) hHeld ?rest105
            case hy105 => (intro w' hSw; skip; go_simp; try with_reducible rfl)
            try simp [Act.put]
            refine wpAnyH_take (i := 9) (v := ?v106) rfl (by kernel_rfl) (by kernel_rfl) (by kernel_rfl) (fun _ _ _ h => h) (Or.inl ⟨by rfl, ?hy106⟩) hHeld ?rest106
            case hy106 => (intro w' hSw; skip; go_simp; try with_reducible rfl)
            try simp [Act.put]
            refine wpAnyH_take (i := 10) (v := ?v107) rfl (by kernel_rfl) (by kernel_rfl) (by kernel_rfl) (fun _ _ _ h => h) (Or.inl ⟨by rfl, ?hy107⟩) hHeld ?rest107
            case hy107 => (intro w' hSw; skip; go_simp; try with_reducible rfl)
            try simp [Act.put]
            refine wpAnyH_take (i := 12) (v := ?v108) rfl (by kernel_rfl) (by kernel_rfl) (by kernel_rfl) (fun _ _ _ h => h) (Or.inl ⟨by rfl, ?hy108⟩) hHeld ?rest108
            case hy108 => (intro w' hSw; skip; go_simp; try with_reducible rfl)
            try simp [Act.put]
            refine wpAnyH_take (i := 13) (v := ?v109) rfl (by kernel_rfl) (by kernel_rfl) (by kernel_rfl) (fun _ _ _ h => h) (Or.inl ⟨by rfl, ?hy109⟩) hHeld ?rest109
            case hy109 => (intro w' hSw; skip; go_simp; try with_reducible rfl)
            try simp [Act.put]
            refine wpAnyH_ready (rs := [4, 11]) (by kernel_rfl) (by simp) ?_
            refine AllReadyH.cons rfl (fun K hK => ?first) (AllReadyH.cons rfl (fun K hK => ?second) AllReadyH.nil)
            case first =>
              go_simp
              refine hK.out _ _ trivial (fun hHeld => ?_)
              clear hK K
              try simp [Act.put]
              refine wpAnyH_take (i := 6) (v := ?v120) rfl (by kernel_rfl) (by kernel_rfl) (by kernel_rfl) (fun _ _ _ h => h) (Or.inl ⟨by rfl, ?hy120⟩) hHeld ?rest120
              case hy120 => (intro w' hSw; skip; go_simp; try with_reducible rfl)
              try simp [Act.put]
              refine wpAnyH_ready (rs := [7, 11]) (by kernel_rfl) (by simp) ?_
              refine AllReadyH.cons rfl (fun K hK => ?third) (AllReadyH.cons rfl (fun K hK => ?fourth) AllReadyH.nil)
              case third =>
                rw [if_pos (by simp [Region.wanted])]
                refine opw_append B (.const (.slice none 0 0)) (.tmp 45) 27 rfl 52 i0 (.agg #[.int .i64 0, .int .i64 0]) 2 16 Try.underlying27 HI.out HI0.out HI1.out HI2.out rfl (by decide) (.slice none 0 0) 0 [] (by simp [Act.eval]) (World.ownsRow_nil _ _ _ _) ⟨b1, o1, none⟩ k cl (lcV (Q.take k)) (by simp [Act.eval]) (by rw [lcV_len, List.length_take]; have := HQN.out; omega) HN1.out (lcV_one _) (by unfold maxLen; omega) (by omega) HBw.out ?_
                intro v1 w1 hown1 hgr1 hat1
                rw [Nat.zero_add, List.nil_append] at hown1
                have hbel1 : Below W.heap.size W w1 := ⟨hgr1.os, hgr1.tape, hgr1.output, hgr1.size, fun q hq => hgr1.block q hq (by simp [Value.ownBlock])⟩
                have hnew1 : ∀ q, v1.ownBlock = some q → q = W.heap.size := fun q hq => by rcases hat1 with e | e; (rw [hq] at e; cases e); (rw [e] at hq; cases hq; rfl)
                obtain ⟨a9, c9, rfl, -, -⟩ := own_slice hown1
                have HO1 := hide hown1
                have HBL1 := hide hbel1
                have HNW1 := hide hnew1
                have cK1 : w1.cell? ⟨Z.kb, 0, none⟩ = some (.slice (some ⟨b1, o1, none⟩) qn cl) := (hbel1.cell (p := ⟨Z.kb, 0, none⟩) (H.out.lt (.inl rfl))).trans cK
                clear hown1 hgr1 hat1 hbel1 hnew1
                refine hK.out _ _ trivial (fun hHeld => ?_)
                clear hK K
                try simp [Act.put]
                refine wpAnyH_ready (rs := [11]) (by kernel_rfl) (by simp) ?_
                refine AllReadyH.cons rfl (fun K hK => ?_) AllReadyH.nil
                go_simp
                refine hK.out _ _ trivial (fun hHeld => ?_)
                clear hK K
                try simp [Act.put]
                refine wpAnyH_take (i := 14) (v := ?v130) rfl (by kernel_rfl) (by kernel_rfl) (by kernel_rfl) (fun _ _ _ h => h) (Or.inl ⟨by rfl, ?hy130⟩) hHeld ?rest130
                case hy130 => (intro w' hSw; skip; go_simp; try with_reducible rfl)
                try simp [Act.put]
                refine wpAnyH_ready (rs := [15]) (by kernel_rfl) (by simp) ?_
                refine AllReadyH.cons rfl (fun K hK => ?_) AllReadyH.nil
                rw [if_pos (by simp [Region.wanted])]
                refine opw_append B (.tmp 46) (.tmp 53) 27 rfl 52 i0 (.agg #[.int .i64 0, .int .i64 0]) 2 16 Try.underlying27 HI.out HI0.out HI1.out HI2.out rfl (by decide) (.slice a9 k c9) k (lcV (Q.take k)) (by simp [Act.eval]) HO1.out ⟨b1, o1 + (k + 1) * 2, none⟩ (qn - (k + 1)) (cl - (k + 1)) (lcV (Q.drop (k + 1))) (by simp [Act.eval]) (by rw [lcV_len, List.length_drop]; have := HQN.out; omega) (HN2.out w1 HBL1.out) (lcV_one _) (by unfold maxLen; omega) (by omega) (Nat.le_trans HBw.out HBL1.out.size) ?_
                intro v2 w2 hown2 hgr2 hat2
                obtain ⟨a8, c8, rfl, -, -⟩ := own_slice hown2
                have hmd : Mds B (fun q => Z.vl.ownBlock = some q) W (fun q => Value.ownBlock (.slice a8 (k + (qn - (k + 1))) c8) = some q) w2 := by
                  have hb12 : Below W.heap.size W w2 := ⟨hgr2.os.trans HBL1.out.os, hgr2.tape.trans HBL1.out.tape, hgr2.output.trans HBL1.out.output, Nat.le_trans HBL1.out.size hgr2.size, fun q hq => (hgr2.block q (Nat.lt_of_lt_of_le hq HBL1.out.size) (fun e => by have := HNW1.out q e.symm; omega)).trans (HBL1.out.block q hq)⟩
                  refine ⟨hb12.mono HBw.out, hb12.size, fun q hq _ => hb12.block q hq, fun q cur fr hc => hb12.block q (lt_of_block hc), fun q hq => .inr ?_⟩
                  rcases hat2 with e | e
                  · have := HNW1.out q (e ▸ hq); omega
                  · have hq' : Value.ownBlock (.slice a8 (k + (qn - (k + 1))) c8) = some q := hq
                    rw [e] at hq'; cases hq'; exact HBL1.out.size
                have hS := H.out.set0 hmd (Q2 := Q.erase (i, g)) (by
                  have e : (Q.erase (i, g)).length = k + (qn - (k + 1)) := by rw [HER.out, List.length_append, List.length_take, List.length_drop]; have := HQN.out; omega
                  rw [e, HER.out]
                  have e2 : lcV (Q.take k ++ Q.drop (k + 1)) = lcV (Q.take k) ++ lcV (Q.drop (k + 1)) := by unfold lcV; rw [List.flatMap_append]
                  rw [e2]
                  exact hown2)
                have c1 := hS.1.1
                have f1 := hS.1.2
                have HN := hide hS.2
                clear hown2 hgr2 hat2 hS hmd
                refine hK.out _ _ trivial (fun hHeld => ?_)
                clear hK K
                try simp [Act.put]
                refine wpAnyH_take (i := 16) (v := ?v140) rfl (by kernel_rfl) (by kernel_rfl) (by kernel_rfl) (fun _ _ _ h => h) (Or.inl ⟨by rfl, ?hy140⟩) hHeld ?rest140
                case hy140 => (intro w' hSw; skip; go_simp; try with_reducible rfl)
                try simp [Act.put]
                refine wpAnyH_take (i := 17) (v := ?v141) rfl (by kernel_rfl) (by kernel_rfl) (by kernel_rfl) (fun _ _ _ h => h) (Or.inl ⟨by rfl, ?hy141⟩) hHeld ?rest141
                case hy141 => (intro w' hSw; skip; go_simp; try with_reducible rfl)
                try simp [Act.put]
                refine wpAnyH_ready (rs := [18]) (by kernel_rfl) (by simp) ?_
                refine AllReadyH.cons rfl (fun K hK => ?_) AllReadyH.nil
                go_simp
                refine hK.out _ _ trivial (fun hHeld => ?_)
                clear hK K
                try simp [Act.put]
                refine wpAnyH_done (by kernel_rfl) (NoPanic.normal ?_) _
                go_wp2_with fail
                try go_ret
                exact ⟨by unfold unE; rw [if_neg HPOS.out]; rfl, ⟨Z.kb, .slice a8 (k + (qn - (k + 1))) c8, Z.vw⟩, rfl, HN.out.1, HMD0.out.trans HN.out.2⟩
              case fourth =>
                go_simp
                refine hK.out _ _ trivial (fun hHeld => ?_)
                clear hK K
                try simp [Act.put]
                refine wpAnyH_take (i := 14) (v := ?v150) rfl (by kernel_rfl) (by kernel_rfl) (by kernel_rfl) (fun _ _ _ h => h) (Or.inl ⟨by rfl, ?hy150⟩) hHeld ?rest150
                case hy150 => (intro w' hSw; skip; go_simp; try with_reducible rfl)
                try simp [Act.put]
                refine wpAnyH_ready (rs := [7]) (by kernel_rfl) (by simp) ?_
                refine AllReadyH.cons rfl (fun K hK => ?_) AllReadyH.nil
                rw [if_pos (by simp [Region.wanted])]
                refine opw_append B (.const (.slice none 0 0)) (.tmp 45) 27 rfl 52 i0 (.agg #[.int .i64 0, .int .i64 0]) 2 16 Try.underlying27 HI.out HI0.out HI1.out HI2.out rfl (by decide) (.slice none 0 0) 0 [] (by simp [Act.eval]) (World.ownsRow_nil _ _ _ _) ⟨b1, o1, none⟩ k cl (lcV (Q.take k)) (by simp [Act.eval]) (by rw [lcV_len, List.length_take]; have := HQN.out; omega) HN1.out (lcV_one _) (by unfold maxLen; omega) (by omega) HBw.out ?_
                intro v1 w1 hown1 hgr1 hat1
                rw [Nat.zero_add, List.nil_append] at hown1
                have hbel1 : Below W.heap.size W w1 := ⟨hgr1.os, hgr1.tape, hgr1.output, hgr1.size, fun q hq => hgr1.block q hq (by simp [Value.ownBlock])⟩
                have hnew1 : ∀ q, v1.ownBlock = some q → q = W.heap.size := fun q hq => by rcases hat1 with e | e; (rw [hq] at e; cases e); (rw [e] at hq; cases hq; rfl)
                obtain ⟨a9, c9, rfl, -, -⟩ := own_slice hown1
                have HO1 := hide hown1
                have HBL1 := hide hbel1
                have HNW1 := hide hnew1
                have cK1 : w1.cell? ⟨Z.kb, 0, none⟩ = some (.slice (some ⟨b1, o1, none⟩) qn cl) := (hbel1.cell (p := ⟨Z.kb, 0, none⟩) (H.out.lt (.inl rfl))).trans cK
                clear hown1 hgr1 hat1 hbel1 hnew1
                refine hK.out _ _ trivial (fun hHeld => ?_)
                clear hK K
                try simp [Act.put]
                refine wpAnyH_ready (rs := [15]) (by kernel_rfl) (by simp) ?_
                refine AllReadyH.cons rfl (fun K hK => ?_) AllReadyH.nil
                rw [if_pos (by simp [Region.wanted])]
                refine opw_append B (.tmp 46) (.tmp 53) 27 rfl 52 i0 (.agg #[.int .i64 0, .int .i64 0]) 2 16 Try.underlying27 HI.out HI0.out HI1.out HI2.out rfl (by decide) (.slice a9 k c9) k (lcV (Q.take k)) (by simp [Act.eval]) HO1.out ⟨b1, o1 + (k + 1) * 2, none⟩ (qn - (k + 1)) (cl - (k + 1)) (lcV (Q.drop (k + 1))) (by simp [Act.eval]) (by rw [lcV_len, List.length_drop]; have := HQN.out; omega) (HN2.out w1 HBL1.out) (lcV_one _) (by unfold maxLen; omega) (by omega) (Nat.le_trans HBw.out HBL1.out.size) ?_
                intro v2 w2 hown2 hgr2 hat2
                obtain ⟨a8, c8, rfl, -, -⟩ := own_slice hown2
                have hmd : Mds B (fun q => Z.vl.ownBlock = some q) W (fun q => Value.ownBlock (.slice a8 (k + (qn - (k + 1))) c8) = some q) w2 := by
                  have hb12 : Below W.heap.size W w2 := ⟨hgr2.os.trans HBL1.out.os, hgr2.tape.trans HBL1.out.tape, hgr2.output.trans HBL1.out.output, Nat.le_trans HBL1.out.size hgr2.size, fun q hq => (hgr2.block q (Nat.lt_of_lt_of_le hq HBL1.out.size) (fun e => by have := HNW1.out q e.symm; omega)).trans (HBL1.out.block q hq)⟩
                  refine ⟨hb12.mono HBw.out, hb12.size, fun q hq _ => hb12.block q hq, fun q cur fr hc => hb12.block q (lt_of_block hc), fun q hq => .inr ?_⟩
                  rcases hat2 with e | e
                  · have := HNW1.out q (e ▸ hq); omega
                  · have hq' : Value.ownBlock (.slice a8 (k + (qn - (k + 1))) c8) = some q := hq
                    rw [e] at hq'; cases hq'; exact HBL1.out.size
                have hS := H.out.set0 hmd (Q2 := Q.erase (i, g)) (by
                  have e : (Q.erase (i, g)).length = k + (qn - (k + 1)) := by rw [HER.out, List.length_append, List.length_take, List.length_drop]; have := HQN.out; omega
                  rw [e, HER.out]
                  have e2 : lcV (Q.take k ++ Q.drop (k + 1)) = lcV (Q.take k) ++ lcV (Q.drop (k + 1)) := by unfold lcV; rw [List.flatMap_append]
                  rw [e2]
                  exact hown2)
                have c1 := hS.1.1
                have f1 := hS.1.2
                have HN := hide hS.2
                clear hown2 hgr2 hat2 hS hmd
                refine hK.out _ _ trivial (fun hHeld => ?_)
                clear hK K
                try simp [Act.put]
                refine wpAnyH_take (i := 16) (v := ?v160) rfl (by kernel_rfl) (by kernel_rfl) (by kernel_rfl) (fun _ _ _ h => h) (Or.inl ⟨by rfl, ?hy160⟩) hHeld ?rest160
                case hy160 => (intro w' hSw; skip; go_simp; try with_reducible rfl)
                try simp [Act.put]
                refine wpAnyH_take (i := 17) (v := ?v161) rfl (by kernel_rfl) (by kernel_rfl) (by kernel_rfl) (fun _ _ _ h => h) (Or.inl ⟨by rfl, ?hy161⟩) hHeld ?rest161
                case hy161 => (intro w' hSw; skip; go_simp; try with_reducible rfl)
                try simp [Act.put]
                refine wpAnyH_ready (rs := [18]) (by kernel_rfl) (by simp) ?_
                refine AllReadyH.cons rfl (fun K hK => ?_) AllReadyH.nil
                go_simp
                refine hK.out _ _ trivial (fun hHeld => ?_)
                clear hK K
                try simp [Act.put]
                refine wpAnyH_done (by kernel_rfl) (NoPanic.normal ?_) _
                go_wp2_with fail
                try go_ret
                exact ⟨by unfold unE; rw [if_neg HPOS.out]; rfl, ⟨Z.kb, .slice a8 (k + (qn - (k + 1))) c8, Z.vw⟩, rfl, HN.out.1, HMD0.out.trans HN.out.2⟩
            case second =>
              go_simp
              refine hK.out _ _ trivial (fun hHeld => ?_)
              clear hK K
              try simp [Act.put]
              refine wpAnyH_take (i := 14) (v := ?v170) rfl (by kernel_rfl) (by kernel_rfl) (by kernel_rfl) (fun _ _ _ h => h) (Or.inl ⟨by rfl, ?hy170⟩) hHeld ?rest170
              case hy170 => (intro w' hSw; skip; go_simp; try with_reducible rfl)
              try simp [Act.put]
              refine wpAnyH_ready (rs := [4]) (by kernel_rfl) (by simp) ?_
              refine AllReadyH.cons rfl (fun K hK => ?_) AllReadyH.nil
              go_simp
              refine hK.out _ _ trivial (fun hHeld => ?_)
              clear hK K
              try simp [Act.put]
              refine wpAnyH_take (i := 6) (v := ?v180) rfl (by kernel_rfl) (by kernel_rfl) (by kernel_rfl) (fun _ _ _ h => h) (Or.inl ⟨by rfl, ?hy180⟩) hHeld ?rest180
              case hy180 => (intro w' hSw; skip; go_simp; try with_reducible rfl)
              try simp [Act.put]
              refine wpAnyH_ready (rs := [7]) (by kernel_rfl) (by simp) ?_
              refine AllReadyH.cons rfl (fun K hK => ?_) AllReadyH.nil
              rw [if_pos (by simp [Region.wanted])]
              refine opw_append B (.const (.slice none 0 0)) (.tmp 45) 27 rfl 52 i0 (.agg #[.int .i64 0, .int .i64 0]) 2 16 Try.underlying27 HI.out HI0.out HI1.out HI2.out rfl (by decide) (.slice none 0 0) 0 [] (by simp [Act.eval]) (World.ownsRow_nil _ _ _ _) ⟨b1, o1, none⟩ k cl (lcV (Q.take k)) (by simp [Act.eval]) (by rw [lcV_len, List.length_take]; have := HQN.out; omega) HN1.out (lcV_one _) (by unfold maxLen; omega) (by omega) HBw.out ?_
              intro v1 w1 hown1 hgr1 hat1
              rw [Nat.zero_add, List.nil_append] at hown1
              have hbel1 : Below W.heap.size W w1 := ⟨hgr1.os, hgr1.tape, hgr1.output, hgr1.size, fun q hq => hgr1.block q hq (by simp [Value.ownBlock])⟩
              have hnew1 : ∀ q, v1.ownBlock = some q → q = W.heap.size := fun q hq => by rcases hat1 with e | e; (rw [hq] at e; cases e); (rw [e] at hq; cases hq; rfl)
              obtain ⟨a9, c9, rfl, -, -⟩ := own_slice hown1
              have HO1 := hide hown1
              have HBL1 := hide hbel1
              have HNW1 := hide hnew1
              have cK1 : w1.cell? ⟨Z.kb, 0, none⟩ = some (.slice (some ⟨b1, o1, none⟩) qn cl) := (hbel1.cell (p := ⟨Z.kb, 0, none⟩) (H.out.lt (.inl rfl))).trans cK
              clear hown1 hgr1 hat1 hbel1 hnew1
              refine hK.out _ _ trivial (fun hHeld => ?_)
              clear hK K
              try simp [Act.put]
              refine wpAnyH_ready (rs := [15]) (by kernel_rfl) (by simp) ?_
              refine AllReadyH.cons rfl (fun K hK => ?_) AllReadyH.nil
              rw [if_pos (by simp [Region.wanted])]
              refine opw_append B (.tmp 46) (.tmp 53) 27 rfl 52 i0 (.agg #[.int .i64 0, .int .i64 0]) 2 16 Try.underlying27 HI.out HI0.out HI1.out HI2.out rfl (by decide) (.slice a9 k c9) k (lcV (Q.take k)) (by simp [Act.eval]) HO1.out ⟨b1, o1 + (k + 1) * 2, none⟩ (qn - (k + 1)) (cl - (k + 1)) (lcV (Q.drop (k + 1))) (by simp [Act.eval]) (by rw [lcV_len, List.length_drop]; have := HQN.out; omega) (HN2.out w1 HBL1.out) (lcV_one _) (by unfold maxLen; omega) (by omega) (Nat.le_trans HBw.out HBL1.out.size) ?_
              intro v2 w2 hown2 hgr2 hat2
              obtain ⟨a8, c8, rfl, -, -⟩ := own_slice hown2
              have hmd : Mds B (fun q => Z.vl.ownBlock = some q) W (fun q => Value.ownBlock (.slice a8 (k + (qn - (k + 1))) c8) = some q) w2 := by
                have hb12 : Below W.heap.size W w2 := ⟨hgr2.os.trans HBL1.out.os, hgr2.tape.trans HBL1.out.tape, hgr2.output.trans HBL1.out.output, Nat.le_trans HBL1.out.size hgr2.size, fun q hq => (hgr2.block q (Nat.lt_of_lt_of_le hq HBL1.out.size) (fun e => by have := HNW1.out q e.symm; omega)).trans (HBL1.out.block q hq)⟩
                refine ⟨hb12.mono HBw.out, hb12.size, fun q hq _ => hb12.block q hq, fun q cur fr hc => hb12.block q (lt_of_block hc), fun q hq => .inr ?_⟩
                rcases hat2 with e | e
                · have := HNW1.out q (e ▸ hq); omega
                · have hq' : Value.ownBlock (.slice a8 (k + (qn - (k + 1))) c8) = some q := hq
                  rw [e] at hq'; cases hq'; exact HBL1.out.size
              have hS := H.out.set0 hmd (Q2 := Q.erase (i, g)) (by
                have e : (Q.erase (i, g)).length = k + (qn - (k + 1)) := by rw [HER.out, List.length_append, List.length_take, List.length_drop]; have := HQN.out; omega
                rw [e, HER.out]
                have e2 : lcV (Q.take k ++ Q.drop (k + 1)) = lcV (Q.take k) ++ lcV (Q.drop (k + 1)) := by unfold lcV; rw [List.flatMap_append]
                rw [e2]
                exact hown2)
              have c1 := hS.1.1
              have f1 := hS.1.2
              have HN := hide hS.2
              clear hown2 hgr2 hat2 hS hmd
              refine hK.out _ _ trivial (fun hHeld => ?_)
              clear hK K
              try simp [Act.put]
              refine wpAnyH_take (i := 16) (v := ?v190) rfl (by kernel_rfl) (by kernel_rfl) (by kernel_rfl) (fun _ _ _ h => h) (Or.inl ⟨by rfl, ?hy190⟩) hHeld ?rest190
              case hy190 => (intro w' hSw; skip; go_simp; try with_reducible rfl)
              try simp [Act.put]
              refine wpAnyH_take (i := 17) (v := ?v191) rfl (by kernel_rfl) (by kernel_rfl) (by kernel_rfl) (fun _ _ _ h => h) (Or.inl ⟨by rfl, ?hy191⟩) hHeld ?rest191
              case hy191 => (intro w' hSw; skip; go_simp; try with_reducible rfl)
              try simp [Act.put]
              refine wpAnyH_ready (rs := [18]) (by kernel_rfl) (by simp) ?_
              refine AllReadyH.cons rfl (fun K hK => ?_) AllReadyH.nil
              go_simp
              refine hK.out _ _ trivial (fun hHeld => ?_)
              clear hK K
              try simp [Act.put]
              refine wpAnyH_done (by kernel_rfl) (NoPanic.normal ?_) _
              go_wp2_with fail
              try go_ret
              exact ⟨by unfold unE; rw [if_neg HPOS.out]; rfl, ⟨Z.kb, .slice a8 (k + (qn - (k + 1))) c8, Z.vw⟩, rfl, HN.out.1, HMD0.out.trans HN.out.2⟩
          · have hcq : cl = k + 1 := by omega
            have hqk : k + 1 = qn := by omega
            have HCE2 := hide (HCE.out hqk)
            subst hcq
            have HQK := hide hqk
            clear hqk
            have hkc3 : (k : Int) ≤ (k : Int) + 1 := by omega
            go_wp2_with fail
            refine wp_region_noPanic ?_
            refine wp_region_held_drew (S := fun _ => True) (by kernel_rfl) trivial (fun hHeld => ?_)
            obtain ⟨W, hW⟩ : ∃ W, W = wr.drew := ⟨_, rfl⟩
            have H := hide (show KnAt B W Z Q M by rw [hW]; exact HD.out)
            have cK : W.cell? ⟨Z.kb, 0, none⟩ = some (.slice (some ⟨b1, o1, none⟩) qn (k + 1)) := by rw [hW]; exact c0
            have HBw := hide (show B ≤ W.heap.size by have := H.out.low; have := H.out.lt (.inl rfl); omega)
            have HN1 := hide (show ∀ j u, (lcV (Q.take k))[j]? = some u → W.cell? ((⟨b1, o1, none⟩ : Addr).add j) = some u by rw [hW]; exact HCT.out)
            have HN2 := hide (show ∀ w1, Below W.heap.size W w1 → ∀ j u, (lcV (Q.drop (k + 1)))[j]? = some u → w1.cell? ((⟨b1, o1, none⟩ : Addr).add j) = some u by rw [hW]; exact HCE2.out)
            have HMD0 := hide (show Mds B Z.own wr Z.own W by rw [hW]; exact Mds.of_below _ ((Below.refl _ _).drew) (by have := HBw.out; rw [hW] at this; exact this))
            rw [← hW]
            clear hW
            refine wpAnyH_take (i := 0) (v := ?v300) rfl (by kernel_rfl) (by kernel_rfl) (by kernel_rfl) (fun _ _ _ h => h) (Or.inl ⟨by rfl, ?hy300⟩) hHeld ?rest300
            case hy300 => (intro w' hSw; skip; go_simp; try with_reducible rfl)
            try simp [Act.put]
            refine wpAnyH_take (i := 1) (v := ?v301) rfl (by kernel_rfl) (by kernel_rfl) (by kernel_rfl) (fun _ _ _ h => h) (Or.inl ⟨by rfl, ?hy301⟩) hHeld ?rest301
            case hy301 => (intro w' hSw; skip; go_simp; try with_reducible rfl)
            try simp [Act.put]
            refine wpAnyH_take (i := 2) (v := ?v302) rfl (by kernel_rfl) (by kernel_rfl) (by kernel_rfl) (fun _ _ _ h => h) (Or.inl ⟨by rfl, ?hy302⟩) hHeld ?rest302
            case hy302 => (intro w' hSw; skip; go_simp; try with_reducible rfl)
            try simp [Act.put]
            refine wpAnyH_take (i := 3) (v := ?v303) rfl (by kernel_rfl) (by kernel_rfl) (by kernel_rfl) (fun _ _ _ h => h) (Or.inl ⟨by rfl, ?hy303⟩) hHeld ?rest303
            case hy303 => (intro w' hSw; skip; go_simp; try with_reducible rfl)
            try simp [Act.put]
            refine wpAnyH_take (i := 5) (v := ?v304) rfl (by kernel_rfl) (by kernel_rfl) (by kernel_rfl) (fun _ _ _ h => h) (Or.inl ⟨by rfl, ?hy304⟩) hHeld ?rest304
            case hy304 => (intro w' hSw; skip; go_simp; try with_reducible rfl)
            try simp [Act.put]
            refine wpAnyH_take (i := 8) (v := ?v305) rfl (by kernel_rfl) (by kernel_rfl) (by kernel_rfl) (fun _ _ _ h => h) (Or.inl ⟨by rfl, ?hy305⟩) hHeld ?rest305
            case hy305 => (intro w' hSw; skip; go_simp; try with_reducible rfl)
            try simp [Act.put]
            refine wpAnyH_take (i := 9) (v := ?v306) rfl (by kernel_rfl) (by kernel_rfl) (by kernel_rfl) (fun _ _ _ h => h) (Or.inl ⟨by rfl, ?hy306⟩) hHeld ?rest306
            case hy306 => (intro w' hSw; skip; go_simp; try with_reducible rfl)
            try simp [Act.put]
            refine wpAnyH_take (i := 10) (v := ?v307) rfl (by kernel_rfl) (by kernel_rfl) (by kernel_rfl) (fun _ _ _ h => h) (Or.inl ⟨by rfl, ?hy307⟩) hHeld ?rest307
            case hy307 => (intro w' hSw; skip; go_simp; try with_reducible rfl)
            try simp [Act.put]
            refine wpAnyH_take (i := 12) (v := ?v308) rfl (by kernel_rfl) (by kernel_rfl) (by kernel_rfl) (fun _ _ _ h => h) (Or.inl ⟨by rfl, ?hy308⟩) hHeld ?rest308
            case hy308 => (intro w' hSw; skip; go_simp; try with_reducible rfl)
            try simp [Act.put]
            refine wpAnyH_take (i := 13) (v := ?v309) rfl (by kernel_rfl) (by kernel_rfl) (by kernel_rfl) (fun _ _ _ h => h) (Or.inl ⟨by rfl, ?hy309⟩) hHeld ?rest309
            case hy309 => (intro w' hSw; skip; go_simp; try with_reducible rfl)
            try simp [Act.put]
            refine wpAnyH_ready (rs := [4, 11]) (by kernel_rfl) (by simp) ?_
            refine AllReadyH.cons rfl (fun K hK => ?first) (AllReadyH.cons rfl (fun K hK => ?second) AllReadyH.nil)
            case first =>
              go_simp
              refine hK.out _ _ trivial (fun hHeld => ?_)
              clear hK K
              try simp [Act.put]
              refine wpAnyH_take (i := 6) (v := ?v320) rfl (by kernel_rfl) (by kernel_rfl) (by kernel_rfl) (fun _ _ _ h => h) (Or.inl ⟨by rfl, ?hy320⟩) hHeld ?rest320
              case hy320 => (intro w' hSw; skip; go_simp; try with_reducible rfl)
              try simp [Act.put]
              refine wpAnyH_ready (rs := [7, 11]) (by kernel_rfl) (by simp) ?_
              refine AllReadyH.cons rfl (fun K hK => ?third) (AllReadyH.cons rfl (fun K hK => ?fourth) AllReadyH.nil)
              case third =>
                rw [if_pos (by simp [Region.wanted])]
                refine opw_append B (.const (.slice none 0 0)) (.tmp 45) 27 rfl 52 i0 (.agg #[.int .i64 0, .int .i64 0]) 2 16 Try.underlying27 HI.out HI0.out HI1.out HI2.out rfl (by decide) (.slice none 0 0) 0 [] (by simp [Act.eval]) (World.ownsRow_nil _ _ _ _) ⟨b1, o1, none⟩ k (k + 1) (lcV (Q.take k)) (by simp [Act.eval]) (by rw [lcV_len, List.length_take]; have := HQN.out; have := HQK.out; omega) HN1.out (lcV_one _) (by unfold maxLen; omega) (by omega) HBw.out ?_
                intro v1 w1 hown1 hgr1 hat1
                rw [Nat.zero_add, List.nil_append] at hown1
                have hbel1 : Below W.heap.size W w1 := ⟨hgr1.os, hgr1.tape, hgr1.output, hgr1.size, fun q hq => hgr1.block q hq (by simp [Value.ownBlock])⟩
                have hnew1 : ∀ q, v1.ownBlock = some q → q = W.heap.size := fun q hq => by rcases hat1 with e | e; (rw [hq] at e; cases e); (rw [e] at hq; cases hq; rfl)
                obtain ⟨a9, c9, rfl, -, -⟩ := own_slice hown1
                have HO1 := hide hown1
                have HBL1 := hide hbel1
                have HNW1 := hide hnew1
                have cK1 : w1.cell? ⟨Z.kb, 0, none⟩ = some (.slice (some ⟨b1, o1, none⟩) qn (k + 1)) := (hbel1.cell (p := ⟨Z.kb, 0, none⟩) (H.out.lt (.inl rfl))).trans cK
                clear hown1 hgr1 hat1 hbel1 hnew1
                refine hK.out _ _ trivial (fun hHeld => ?_)
                clear hK K
                try simp [Act.put]
                refine wpAnyH_ready (rs := [11]) (by kernel_rfl) (by simp) ?_
                refine AllReadyH.cons rfl (fun K hK => ?_) AllReadyH.nil
                go_simp
                refine hK.out _ _ trivial (fun hHeld => ?_)
                clear hK K
                try simp [Act.put]
                refine wpAnyH_take (i := 14) (v := ?v330) rfl (by kernel_rfl) (by kernel_rfl) (by kernel_rfl) (fun _ _ _ h => h) (Or.inl ⟨by rfl, ?hy330⟩) hHeld ?rest330
                case hy330 => (intro w' hSw; skip; go_simp; try with_reducible rfl)
                try simp [Act.put]
                refine wpAnyH_ready (rs := [15]) (by kernel_rfl) (by simp) ?_
                refine AllReadyH.cons rfl (fun K hK => ?_) AllReadyH.nil
                rw [if_pos (by simp [Region.wanted])]
                refine opw_append B (.tmp 46) (.tmp 53) 27 rfl 52 i0 (.agg #[.int .i64 0, .int .i64 0]) 2 16 Try.underlying27 HI.out HI0.out HI1.out HI2.out rfl (by decide) (.slice a9 k c9) k (lcV (Q.take k)) (by simp [Act.eval]) HO1.out ⟨b1, o1, none⟩ 0 ((k + 1) - (k + 1)) (lcV (Q.drop (k + 1))) (by simp [Act.eval]) (by rw [lcV_len, List.length_drop]; have := HQN.out; have := HQK.out; omega) (HN2.out w1 HBL1.out) (lcV_one _) (by unfold maxLen; omega) (by omega) (Nat.le_trans HBw.out HBL1.out.size) ?_
                intro v2 w2 hown2 hgr2 hat2; rw [Nat.add_zero] at hown2
                obtain ⟨a8, c8, rfl, -, -⟩ := own_slice hown2
                have hmd : Mds B (fun q => Z.vl.ownBlock = some q) W (fun q => Value.ownBlock (.slice a8 k c8) = some q) w2 := by
                  have hb12 : Below W.heap.size W w2 := ⟨hgr2.os.trans HBL1.out.os, hgr2.tape.trans HBL1.out.tape, hgr2.output.trans HBL1.out.output, Nat.le_trans HBL1.out.size hgr2.size, fun q hq => (hgr2.block q (Nat.lt_of_lt_of_le hq HBL1.out.size) (fun e => by have := HNW1.out q e.symm; omega)).trans (HBL1.out.block q hq)⟩
                  refine ⟨hb12.mono HBw.out, hb12.size, fun q hq _ => hb12.block q hq, fun q cur fr hc => hb12.block q (lt_of_block hc), fun q hq => .inr ?_⟩
                  rcases hat2 with e | e
                  · have := HNW1.out q (e ▸ hq); omega
                  · have hq' : Value.ownBlock (.slice a8 k c8) = some q := hq
                    rw [e] at hq'; cases hq'; exact HBL1.out.size
                have hS := H.out.set0 hmd (Q2 := Q.erase (i, g)) (by
                  have e : (Q.erase (i, g)).length = k := by rw [HER.out, List.length_append, List.length_take, List.length_drop]; have := HQN.out; have := HQK.out; omega
                  rw [e, HER.out]
                  have e2 : lcV (Q.take k ++ Q.drop (k + 1)) = lcV (Q.take k) ++ lcV (Q.drop (k + 1)) := by unfold lcV; rw [List.flatMap_append]
                  rw [e2]
                  exact hown2)
                have c1 := hS.1.1
                have f1 := hS.1.2
                have HN := hide hS.2
                clear hown2 hgr2 hat2 hS hmd
                refine hK.out _ _ trivial (fun hHeld => ?_)
                clear hK K
                try simp [Act.put]
                refine wpAnyH_take (i := 16) (v := ?v340) rfl (by kernel_rfl) (by kernel_rfl) (by kernel_rfl) (fun _ _ _ h => h) (Or.inl ⟨by rfl, ?hy340⟩) hHeld ?rest340
                case hy340 => (intro w' hSw; skip; go_simp; try with_reducible rfl)
                try simp [Act.put]
                refine wpAnyH_take (i := 17) (v := ?v341) rfl (by kernel_rfl) (by kernel_rfl) (by kernel_rfl) (fun _ _ _ h => h) (Or.inl ⟨by rfl, ?hy341⟩) hHeld ?rest341
                case hy341 => (intro w' hSw; skip; go_simp; try with_reducible rfl)
                try simp [Act.put]
                refine wpAnyH_ready (rs := [18]) (by kernel_rfl) (by simp) ?_
                refine AllReadyH.cons rfl (fun K hK => ?_) AllReadyH.nil
                go_simp
                refine hK.out _ _ trivial (fun hHeld => ?_)
                clear hK K
                try simp [Act.put]
                refine wpAnyH_done (by kernel_rfl) (NoPanic.normal ?_) _
                go_wp2_with fail
                try go_ret
                exact ⟨by unfold unE; rw [if_neg HPOS.out]; rfl, ⟨Z.kb, .slice a8 k c8, Z.vw⟩, rfl, HN.out.1, HMD0.out.trans HN.out.2⟩
              case fourth =>
                go_simp
                refine hK.out _ _ trivial (fun hHeld => ?_)
                clear hK K
                try simp [Act.put]
                refine wpAnyH_take (i := 14) (v := ?v350) rfl (by kernel_rfl) (by kernel_rfl) (by kernel_rfl) (fun _ _ _ h => h) (Or.inl ⟨by rfl, ?hy350⟩) hHeld ?rest350
                case hy350 => (intro w' hSw; skip; go_simp; try with_reducible rfl)
                try simp [Act.put]
                refine wpAnyH_ready (rs := [7]) (by kernel_rfl) (by simp) ?_
                refine AllReadyH.cons rfl (fun K hK => ?_) AllReadyH.nil
                rw [if_pos (by simp [Region.wanted])]
                refine opw_append B (.const (.slice none 0 0)) (.tmp 45) 27 rfl 52 i0 (.agg #[.int .i64 0, .int .i64 0]) 2 16 Try.underlying27 HI.out HI0.out HI1.out HI2.out rfl (by decide) (.slice none 0 0) 0 [] (by simp [Act.eval]) (World.ownsRow_nil _ _ _ _) ⟨b1, o1, none⟩ k (k + 1) (lcV (Q.take k)) (by simp [Act.eval]) (by rw [lcV_len, List.length_take]; have := HQN.out; have := HQK.out; omega) HN1.out (lcV_one _) (by unfold maxLen; omega) (by omega) HBw.out ?_
                intro v1 w1 hown1 hgr1 hat1
                rw [Nat.zero_add, List.nil_append] at hown1
                have hbel1 : Below W.heap.size W w1 := ⟨hgr1.os, hgr1.tape, hgr1.output, hgr1.size, fun q hq => hgr1.block q hq (by simp [Value.ownBlock])⟩
                have hnew1 : ∀ q, v1.ownBlock = some q → q = W.heap.size := fun q hq => by rcases hat1 with e | e; (rw [hq] at e; cases e); (rw [e] at hq; cases hq; rfl)
                obtain ⟨a9, c9, rfl, -, -⟩ := own_slice hown1
                have HO1 := hide hown1
                have HBL1 := hide hbel1
                have HNW1 := hide hnew1
                have cK1 : w1.cell? ⟨Z.kb, 0, none⟩ = some (.slice (some ⟨b1, o1, none⟩) qn (k + 1)) := (hbel1.cell (p := ⟨Z.kb, 0, none⟩) (H.out.lt (.inl rfl))).trans cK
                clear hown1 hgr1 hat1 hbel1 hnew1
                refine hK.out _ _ trivial (fun hHeld => ?_)
                clear hK K
                try simp [Act.put]
                refine wpAnyH_ready (rs := [15]) (by kernel_rfl) (by simp) ?_
                refine AllReadyH.cons rfl (fun K hK => ?_) AllReadyH.nil
                rw [if_pos (by simp [Region.wanted])]
                refine opw_append B (.tmp 46) (.tmp 53) 27 rfl 52 i0 (.agg #[.int .i64 0, .int .i64 0]) 2 16 Try.underlying27 HI.out HI0.out HI1.out HI2.out rfl (by decide) (.slice a9 k c9) k (lcV (Q.take k)) (by simp [Act.eval]) HO1.out ⟨b1, o1, none⟩ 0 ((k + 1) - (k + 1)) (lcV (Q.drop (k + 1))) (by simp [Act.eval]) (by rw [lcV_len, List.length_drop]; have := HQN.out; have := HQK.out; omega) (HN2.out w1 HBL1.out) (lcV_one _) (by unfold maxLen; omega) (by omega) (Nat.le_trans HBw.out HBL1.out.size) ?_
                intro v2 w2 hown2 hgr2 hat2; rw [Nat.add_zero] at hown2
                obtain ⟨a8, c8, rfl, -, -⟩ := own_slice hown2
                have hmd : Mds B (fun q => Z.vl.ownBlock = some q) W (fun q => Value.ownBlock (.slice a8 k c8) = some q) w2 := by
                  have hb12 : Below W.heap.size W w2 := ⟨hgr2.os.trans HBL1.out.os, hgr2.tape.trans HBL1.out.tape, hgr2.output.trans HBL1.out.output, Nat.le_trans HBL1.out.size hgr2.size, fun q hq => (hgr2.block q (Nat.lt_of_lt_of_le hq HBL1.out.size) (fun e => by have := HNW1.out q e.symm; omega)).trans (HBL1.out.block q hq)⟩
                  refine ⟨hb12.mono HBw.out, hb12.size, fun q hq _ => hb12.block q hq, fun q cur fr hc => hb12.block q (lt_of_block hc), fun q hq => .inr ?_⟩
                  rcases hat2 with e | e
                  · have := HNW1.out q (e ▸ hq); omega
                  · have hq' : Value.ownBlock (.slice a8 k c8) = some q := hq
                    rw [e] at hq'; cases hq'; exact HBL1.out.size
                have hS := H.out.set0 hmd (Q2 := Q.erase (i, g)) (by
                  have e : (Q.erase (i, g)).length = k := by rw [HER.out, List.length_append, List.length_take, List.length_drop]; have := HQN.out; have := HQK.out; omega
                  rw [e, HER.out]
                  have e2 : lcV (Q.take k ++ Q.drop (k + 1)) = lcV (Q.take k) ++ lcV (Q.drop (k + 1)) := by unfold lcV; rw [List.flatMap_append]
                  rw [e2]
                  exact hown2)
                have c1 := hS.1.1
                have f1 := hS.1.2
                have HN := hide hS.2
                clear hown2 hgr2 hat2 hS hmd
                refine hK.out _ _ trivial (fun hHeld => ?_)
                clear hK K
                try simp [Act.put]
                refine wpAnyH_take (i := 16) (v := ?v360) rfl (by kernel_rfl) (by kernel_rfl) (by kernel_rfl) (fun _ _ _ h => h) (Or.inl ⟨by rfl, ?hy360⟩) hHeld ?rest360
                case hy360 => (intro w' hSw; skip; go_simp; try with_reducible rfl)
                try simp [Act.put]
                refine wpAnyH_take (i := 17) (v := ?v361) rfl (by kernel_rfl) (by kernel_rfl) (by kernel_rfl) (fun _ _ _ h => h) (Or.inl ⟨by rfl, ?hy361⟩) hHeld ?rest361
                case hy361 => (intro w' hSw; skip; go_simp; try with_reducible rfl)
                try simp [Act.put]
                refine wpAnyH_ready (rs := [18]) (by kernel_rfl) (by simp) ?_
                refine AllReadyH.cons rfl (fun K hK => ?_) AllReadyH.nil
                go_simp
                refine hK.out _ _ trivial (fun hHeld => ?_)
                clear hK K
                try simp [Act.put]
                refine wpAnyH_done (by kernel_rfl) (NoPanic.normal ?_) _
                go_wp2_with fail
                try go_ret
                exact ⟨by unfold unE; rw [if_neg HPOS.out]; rfl, ⟨Z.kb, .slice a8 k c8, Z.vw⟩, rfl, HN.out.1, HMD0.out.trans HN.out.2⟩
            case second =>
              go_simp
              refine hK.out _ _ trivial (fun hHeld => ?_)
              clear hK K
              try simp [Act.put]
              refine wpAnyH_take (i := 14) (v := ?v370) rfl (by kernel_rfl) (by kernel_rfl) (by kernel_rfl) (fun _ _ _ h => h) (Or.inl ⟨by rfl, ?hy370⟩) hHeld ?rest370
              case hy370 => (intro w' hSw; skip; go_simp; try with_reducible rfl)
              try simp [Act.put]
              refine wpAnyH_ready (rs := [4]) (by kernel_rfl) (by simp) ?_
              refine AllReadyH.cons rfl (fun K hK => ?_) AllReadyH.nil
              go_simp
              refine hK.out _ _ trivial (fun hHeld => ?_)
              clear hK K
              try simp [Act.put]
              refine wpAnyH_take (i := 6) (v := ?v380) rfl (by kernel_rfl) (by kernel_rfl) (by kernel_rfl) (fun _ _ _ h => h) (Or.inl ⟨by rfl, ?hy380⟩) hHeld ?rest380
              case hy380 => (intro w' hSw; skip; go_simp; try with_reducible rfl)
              try simp [Act.put]
              refine wpAnyH_ready (rs := [7]) (by kernel_rfl) (by simp) ?_
              refine AllReadyH.cons rfl (fun K hK => ?_) AllReadyH.nil
              rw [if_pos (by simp [Region.wanted])]
              refine opw_append B (.const (.slice none 0 0)) (.tmp 45) 27 rfl 52 i0 (.agg #[.int .i64 0, .int .i64 0]) 2 16 Try.underlying27 HI.out HI0.out HI1.out HI2.out rfl (by decide) (.slice none 0 0) 0 [] (by simp [Act.eval]) (World.ownsRow_nil _ _ _ _) ⟨b1, o1, none⟩ k (k + 1) (lcV (Q.take k)) (by simp [Act.eval]) (by rw [lcV_len, List.length_take]; have := HQN.out; have := HQK.out; omega) HN1.out (lcV_one _) (by unfold maxLen; omega) (by omega) HBw.out ?_
              intro v1 w1 hown1 hgr1 hat1
              rw [Nat.zero_add, List.nil_append] at hown1
              have hbel1 : Below W.heap.size W w1 := ⟨hgr1.os, hgr1.tape, hgr1.output, hgr1.size, fun q hq => hgr1.block q hq (by simp [Value.ownBlock])⟩
              have hnew1 : ∀ q, v1.ownBlock = some q → q = W.heap.size := fun q hq => by rcases hat1 with e | e; (rw [hq] at e; cases e); (rw [e] at hq; cases hq; rfl)
              obtain ⟨a9, c9, rfl, -, -⟩ := own_slice hown1
              have HO1 := hide hown1
              have HBL1 := hide hbel1
              have HNW1 := hide hnew1
              have cK1 : w1.cell? ⟨Z.kb, 0, none⟩ = some (.slice (some ⟨b1, o1, none⟩) qn (k + 1)) := (hbel1.cell (p := ⟨Z.kb, 0, none⟩) (H.out.lt (.inl rfl))).trans cK
              clear hown1 hgr1 hat1 hbel1 hnew1
              refine hK.out _ _ trivial (fun hHeld => ?_)
              clear hK K
              try simp [Act.put]
              refine wpAnyH_ready (rs := [15]) (by kernel_rfl) (by simp) ?_
              refine AllReadyH.cons rfl (fun K hK => ?_) AllReadyH.nil
              rw [if_pos (by simp [Region.wanted])]
              refine opw_append B (.tmp 46) (.tmp 53) 27 rfl 52 i0 (.agg #[.int .i64 0, .int .i64 0]) 2 16 Try.underlying27 HI.out HI0.out HI1.out HI2.out rfl (by decide) (.slice a9 k c9) k (lcV (Q.take k)) (by simp [Act.eval]) HO1.out ⟨b1, o1, none⟩ 0 ((k + 1) - (k + 1)) (lcV (Q.drop (k + 1))) (by simp [Act.eval]) (by rw [lcV_len, List.length_drop]; have := HQN.out; have := HQK.out; omega) (HN2.out w1 HBL1.out) (lcV_one _) (by unfold maxLen; omega) (by omega) (Nat.le_trans HBw.out HBL1.out.size) ?_
              intro v2 w2 hown2 hgr2 hat2; rw [Nat.add_zero] at hown2
              obtain ⟨a8, c8, rfl, -, -⟩ := own_slice hown2
              have hmd : Mds B (fun q => Z.vl.ownBlock = some q) W (fun q => Value.ownBlock (.slice a8 k c8) = some q) w2 := by
                have hb12 : Below W.heap.size W w2 := ⟨hgr2.os.trans HBL1.out.os, hgr2.tape.trans HBL1.out.tape, hgr2.output.trans HBL1.out.output, Nat.le_trans HBL1.out.size hgr2.size, fun q hq => (hgr2.block q (Nat.lt_of_lt_of_le hq HBL1.out.size) (fun e => by have := HNW1.out q e.symm; omega)).trans (HBL1.out.block q hq)⟩
                refine ⟨hb12.mono HBw.out, hb12.size, fun q hq _ => hb12.block q hq, fun q cur fr hc => hb12.block q (lt_of_block hc), fun q hq => .inr ?_⟩
                rcases hat2 with e | e
                · have := HNW1.out q (e ▸ hq); omega
                · have hq' : Value.ownBlock (.slice a8 k c8) = some q := hq
                  rw [e] at hq'; cases hq'; exact HBL1.out.size
              have hS := H.out.set0 hmd (Q2 := Q.erase (i, g)) (by
                have e : (Q.erase (i, g)).length = k := by rw [HER.out, List.length_append, List.length_take, List.length_drop]; have := HQN.out; have := HQK.out; omega
                rw [e, HER.out]
                have e2 : lcV (Q.take k ++ Q.drop (k + 1)) = lcV (Q.take k) ++ lcV (Q.drop (k + 1)) := by unfold lcV; rw [List.flatMap_append]
                rw [e2]
                exact hown2)
              have c1 := hS.1.1
              have f1 := hS.1.2
              have HN := hide hS.2
              clear hown2 hgr2 hat2 hS hmd
              refine hK.out _ _ trivial (fun hHeld => ?_)
              clear hK K
              try simp [Act.put]
              refine wpAnyH_take (i := 16) (v := ?v390) rfl (by kernel_rfl) (by kernel_rfl) (by kernel_rfl) (fun _ _ _ h => h) (Or.inl ⟨by rfl, ?hy390⟩) hHeld ?rest390
              case hy390 => (intro w' hSw; skip; go_simp; try with_reducible rfl)
              try simp [Act.put]
              refine wpAnyH_take (i := 17) (v := ?v391) rfl (by kernel_rfl) (by kernel_rfl) (by kernel_rfl) (fun _ _ _ h => h) (Or.inl ⟨by rfl, ?hy391⟩) hHeld ?rest391
              case hy391 => (intro w' hSw; skip; go_simp; try with_reducible rfl)
              try simp [Act.put]
              refine wpAnyH_ready (rs := [18]) (by kernel_rfl) (by simp) ?_
              refine AllReadyH.cons rfl (fun K hK => ?_) AllReadyH.nil
              go_simp
              refine hK.out _ _ trivial (fun hHeld => ?_)
              clear hK K
              try simp [Act.put]
              refine wpAnyH_done (by kernel_rfl) (NoPanic.normal ?_) _
              go_wp2_with fail
              try go_ret
              exact ⟨by unfold unE; rw [if_neg HPOS.out]; rfl, ⟨Z.kb, .slice a8 k c8, Z.vw⟩, rfl, HN.out.1, HMD0.out.trans HN.out.2⟩
        · have hq2 : (x2 == g) = false := by simpa using q2
          have HN : Hid (∀ j, j < k + 1 → Q[j]? ≠ some (i, g)) := fun j hj => by
            by_cases e : j = k
            · subst e; rw [HX.out]; intro q; exact q2 (congrArg Prod.snd (Option.some.inj q))
            · exact HNO.out j (by omega)
          clear q1 q2 hx hcells
          go_wp2_with fail
          all_goals exact ⟨⟨k + 1, by omega, by go_num, HN.out, trivial⟩, by simp [intOf]; omega⟩
      · have hq1 : (x1 == i) = false := by simpa using q1
        have HN : Hid (∀ j, j < k + 1 → Q[j]? ≠ some (i, g)) := fun j hj => by
          by_cases e : j = k
          · subst e; rw [HX.out]; intro q; exact q1 (congrArg Prod.fst (Option.some.inj q))
          · exact HNO.out j (by omega)
        clear q1 hx hcells
        go_wp2_with fail
        all_goals exact ⟨⟨k + 1, by omega, by go_num, HN.out, trivial⟩, by simp [intOf]; omega⟩
    · have hd : decide ((k : Int) < (qn : Int)) = false := by simp; omega
      have HZ : Hid (cnt Q (i, g) = 0) := cnt_pos.2 fun hm => by
        obtain ⟨j, hj⟩ := List.getElem?_of_mem hm
        exact HNO.out j (by have := (List.getElem?_eq_some_iff.1 hj).1; have := HQN.out; omega) hj
      have HE : Hid (Q.erase (i, g) = Q) := List.erase_of_not_mem (cnt_pos.1 HZ.out)
      go_wp2_with fail
      try go_ret
      exact ⟨by unfold unE; rw [if_pos HZ.out]; rfl, Z, rfl, by rw [HE.out]; exact HH.out, Mds.refl _ _ _⟩
end Go.Proofs.Ytghcekhlohgkaaa
