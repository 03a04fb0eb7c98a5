/- The document's pins in memory; what its Pin and Count answer. -/
import Derived.Test.YtghcekhlohgkaaaPnLive
import Derived.Test.YtghcekhlohgkaaaPnMathB
namespace Go.Proofs.Ytghcekhlohgkaaa
open Go.RowKit
set_option linter.unusedVariables false
structure Kn where
  kb : Nat
  vl : Value
  vw : Value
def Kn.own (K : Kn) (i : Nat) : Prop := i = K.kb ∨ K.vl.ownBlock = some i ∨ K.vw.ownBlock = some i
structure KnAt (B : Nat) (w : World) (K : Kn) (Q : List (Int × Int)) (M : List VD) : Prop where
  box : w.heap[K.kb]? = some (.cells #[K.vl, K.vw] 30 (0, 0))
  rl : w.ownsRow B 52 2 K.vl Q.length (lcV Q)
  rw : RowV B w K.vw M
  low : B ≤ K.kb
theorem read_info : (Try.prog.info? 52).map (fun i => (i.zero, i.size, i.bytes)) = some (some (.agg #[.int .i64 0, .int .i64 0]), 2, 16) := by kernel_rfl
section
variable {B : Nat} {w w' : World} {K : Kn} {Q : List (Int × Int)} {M : List VD}
theorem KnAt.lt (h : KnAt B w K Q M) {i : Nat} (hi : K.own i) : i < w.heap.size := by
  rcases hi with rfl | hi | hi
  · exact lt_of_block h.box
  · exact (own_at h.rl hi).2.1
  · exact (h.rw.at hi).2.1
theorem KnAt.lowb (h : KnAt B w K Q M) {i : Nat} (hi : K.own i) : B ≤ i := by
  rcases hi with rfl | hi | hi
  · exact h.low
  · exact (own_at h.rl hi).1
  · exact (h.rw.at hi).1
theorem KnAt.ne (h : KnAt B w K Q M) : (∀ i, K.vl.ownBlock = some i → i ≠ K.kb ∧ K.vw.ownBlock ≠ some i) ∧ (∀ i, K.vw.ownBlock = some i → i ≠ K.kb) := by
  refine ⟨fun i hi => ⟨fun e => ?_, fun e => ?_⟩, fun i hi e => ?_⟩
  · obtain ⟨_, _, cur, hc⟩ := own_at h.rl hi
    rw [e, h.box] at hc; injection hc with hc; injection hc with _ q; exact absurd q (by decide)
  · obtain ⟨_, _, cur, hc⟩ := own_at h.rl hi
    obtain ⟨_, _, cur2, hc2⟩ := h.rw.at e
    rw [hc] at hc2; injection hc2 with hc2; injection hc2 with _ q; exact absurd q (by decide)
  · obtain ⟨_, _, cur, hc⟩ := h.rw.at hi
    rw [e, h.box] at hc; injection hc with hc; injection hc with _ q; exact absurd q (by decide)
theorem KnAt.mod {A A' : Nat → Prop} (h : KnAt B w K Q M) (m : Mds B A w A' w') (hs : ∀ i, K.own i → ¬ A i) : KnAt B w' K Q M :=
  ⟨(m.blk _ (h.lt (.inl rfl)) (hs _ (.inl rfl))).trans h.box, row_keep h.rl fun i hi => m.blk i (own_at h.rl hi).2.1 (hs i (.inr (.inl hi))), h.rw.mod m fun i hi => hs i (.inr (.inr hi)), h.low⟩
theorem KnAt.below (h : KnAt B w K Q M) (hb : Below w.heap.size w w') : KnAt B w' K Q M :=
  ⟨(hb.block _ (h.lt (.inl rfl))).trans h.box, own_below h.rl hb, h.rw.below hb, h.low⟩
/-- the row of those that read is another one now -/
theorem KnAt.set0 (h : KnAt B w K Q M) {w1 : World} {v : Value} {Q2 : List (Int × Int)} (hM : Mds B (fun i => K.vl.ownBlock = some i) w (fun i => v.ownBlock = some i) w1) (hr : w1.ownsRow B 52 2 v Q2.length (lcV Q2)) :
    (w1.cell? ⟨K.kb, 0, none⟩ = some K.vl ∧ w1.frozen? ⟨K.kb, 0, none⟩ = false) ∧ KnAt B (w1.setCell ⟨K.kb, 0, none⟩ v) ⟨K.kb, v, K.vw⟩ Q2 M ∧ Mds B K.own w (Kn.own ⟨K.kb, v, K.vw⟩) (w1.setCell ⟨K.kb, 0, none⟩ v) := by
  have hkl := h.lt (.inl rfl)
  have hne := h.ne
  have hkb : w1.heap[K.kb]? = some (.cells #[K.vl, K.vw] 30 (0, 0)) := (hM.blk _ hkl (fun e => (hne.1 _ e).1 rfl)).trans h.box
  have hset : ∀ k, k ≠ K.kb → (w1.setCell ⟨K.kb, 0, none⟩ v).heap[k]? = w1.heap[k]? := fun k hk => Below.heap_setCell _ _ _ _ hk
  have hvne : ∀ i, v.ownBlock = some i → i ≠ K.kb := fun i hi e => by
    obtain ⟨_, _, cur, hc⟩ := own_at hr hi
    rw [e, hkb] at hc; injection hc with hc; injection hc with _ q; exact absurd q (by decide)
  have hM2 : Mds B K.own w (Kn.own ⟨K.kb, v, K.vw⟩) (w1.setCell ⟨K.kb, 0, none⟩ v) := by
    refine ⟨⟨hM.bel.os, hM.bel.tape, hM.bel.output, by simp [World.setCell]; exact hM.size, fun k hk => (hset k (by have := h.low; omega)).trans (hM.bel.block k hk)⟩, by simp [World.setCell]; exact hM.size, fun i hi hn => (hset i (fun e => hn (.inl e))).trans (hM.blk i hi (fun e => hn (.inr (.inl e)))), fun i cur fr hc => (hset i (fun e => ?_)).trans (hM.loc i cur fr hc), fun i hi => ?_⟩
    · rw [e, h.box] at hc; injection hc with hc; injection hc with _ q; exact absurd q (by decide)
    · rcases hi with e | e | e
      · exact .inl (.inl e)
      · rcases hM.own i e with q | q
        · exact .inl (.inr (.inl q))
        · exact .inr q
      · exact .inl (.inr (.inr e))
  obtain ⟨vs, q1, q2, q3⟩ := h.rw
  refine ⟨⟨cell_of_block hkb, free_of_block hkb⟩, ⟨block_setCell (c := #[K.vl, K.vw]) v hkb, row_keep hr fun i hi => hset i (hvne i hi), ⟨vs, q1, row_keep q2 fun i hi => (hset i (hne.2 i hi)).trans (hM.blk i (own_at q2 hi).2.1 (fun e => (hne.1 i e).2 hi)), fun x hx => (q3 x hx).mod hM2⟩, h.low⟩, hM2⟩
/-- what waits is another row now -/
theorem KnAt.set1 (h : KnAt B w K Q M) {w1 : World} {v : Value} {M2 : List VD} (hM : Mds B (fun i => K.vw.ownBlock = some i) w (fun i => v.ownBlock = some i) w1) (hr : RowV B w1 v M2) :
    (w1.cell? ⟨K.kb, 1, none⟩ = some K.vw ∧ w1.frozen? ⟨K.kb, 1, none⟩ = false) ∧ KnAt B (w1.setCell ⟨K.kb, 1, none⟩ v) ⟨K.kb, K.vl, v⟩ Q M2 ∧ Mds B K.own w (Kn.own ⟨K.kb, K.vl, v⟩) (w1.setCell ⟨K.kb, 1, none⟩ v) := by
  have hkl := h.lt (.inl rfl)
  have hne := h.ne
  have hkb : w1.heap[K.kb]? = some (.cells #[K.vl, K.vw] 30 (0, 0)) := (hM.blk _ hkl (fun e => hne.2 _ e rfl)).trans h.box
  have hset : ∀ k, k ≠ K.kb → (w1.setCell ⟨K.kb, 1, none⟩ v).heap[k]? = w1.heap[k]? := fun k hk => Below.heap_setCell _ _ _ _ hk
  have hvne : ∀ i, v.ownBlock = some i → i ≠ K.kb := fun i hi e => by
    obtain ⟨_, _, cur, hc⟩ := hr.at hi
    rw [e, hkb] at hc; injection hc with hc; injection hc with _ q; exact absurd q (by decide)
  have hM2 : Mds B K.own w (Kn.own ⟨K.kb, K.vl, v⟩) (w1.setCell ⟨K.kb, 1, none⟩ v) := by
    refine ⟨⟨hM.bel.os, hM.bel.tape, hM.bel.output, by simp [World.setCell]; exact hM.size, fun k hk => (hset k (by have := h.low; omega)).trans (hM.bel.block k hk)⟩, by simp [World.setCell]; exact hM.size, fun i hi hn => (hset i (fun e => hn (.inl e))).trans (hM.blk i hi (fun e => hn (.inr (.inr e)))), fun i cur fr hc => (hset i (fun e => ?_)).trans (hM.loc i cur fr hc), fun i hi => ?_⟩
    · rw [e, h.box] at hc; injection hc with hc; injection hc with _ q; exact absurd q (by decide)
    · rcases hi with e | e | e
      · exact .inl (.inl e)
      · exact .inl (.inr (.inl e))
      · rcases hM.own i e with q | q
        · exact .inl (.inr (.inr q))
        · exact .inr q
  obtain ⟨vs, q1, q2, q3⟩ := hr
  have hlk : ∀ {a l}, LocsK B w1 a l → LocsK B (w1.setCell ⟨K.kb, 1, none⟩ v) a l := fun {a l} hq => by
    rcases hq with q | ⟨b, o', e1, e2, e3, e4⟩
    · exact .inl q
    · have hbn : b ≠ K.kb := fun e => by
        rcases e3 with q | ⟨cur, fr, q⟩
        · have := h.low; omega
        · rw [e, hkb] at q; injection q with q; injection q with _ q; exact absurd q (by decide)
      have hc : ∀ p, (w1.setCell ⟨K.kb, 1, none⟩ v).cell? ⟨b, p, none⟩ = w1.cell? ⟨b, p, none⟩ := fun p => by unfold World.cell?; rw [hset b hbn]
      refine .inr ⟨b, o', e1, by simp [World.setCell]; omega, ?_, fun i z hz => ⟨(hc _).trans (e4 i z hz).1, (hc _).trans (e4 i z hz).2⟩⟩
      rcases e3 with q | ⟨cur, fr, q⟩
      · exact .inl q
      · exact .inr ⟨cur, fr, (hset b hbn).trans q⟩
  refine ⟨⟨cell_of_block hkb, free_of_block hkb⟩, ⟨block_setCell (c := #[K.vl, K.vw]) v hkb, row_keep h.rl fun i hi => (hset i (hne.1 i hi).1).trans (hM.blk i (own_at h.rl hi).2.1 (hne.1 i hi).2), ⟨vs, q1, row_keep q2 fun i hi => hset i (hvne i hi), fun x hx => hlk (q3 x hx)⟩, h.low⟩, hM2⟩
theorem KnAt.new (w : World) : KnAt w.heap.size (w.alloc (.cells #[.slice none 0 0, .slice none 0 0] 30)) ⟨w.heap.size, .slice none 0 0, .slice none 0 0⟩ [] [] :=
  ⟨heap_alloc_new _ _, World.ownsRow_nil _ _ _ _, RowV.nil _ _, Nat.le_refl _⟩
/-- who reads, wherever it lies -/
theorem row_locs {B' : Nat} {v : Value} (h : w.ownsRow B' 52 2 v Q.length (lcV Q)) : ∃ a c, v = .slice a Q.length c ∧ Q.length ≤ c ∧ c ≤ 9223372036854775807 ∧ LocsAt w a Q := by
  obtain ⟨hl2, ⟨rfl, h2⟩ | ⟨g, cap, cur, rfl, hB, hg, hc, hm, hs, ht⟩⟩ := h
  · exact ⟨none, 0, by rw [h2], by omega, by omega, .inl (List.length_eq_zero_iff.1 h2)⟩
  · unfold maxLen at hm
    have key : ∀ j v, (lcV Q)[j]? = some v → w.cell? ⟨g, 0 + j, none⟩ = some v := fun j v hv => by
      rw [Nat.zero_add, cell_of_block hg]
      rw [← ht, List.getElem?_take] at hv
      split at hv
      · rw [← hv, Array.getElem?_toList]
      · cases hv
    exact ⟨_, cap, rfl, hc, hm, .inr ⟨g, 0, rfl, lt_of_block hg, fun i y hy => ⟨key _ _ (lcV_at hy).1, by rw [Nat.add_assoc]; exact key _ _ (lcV_at hy).2⟩⟩⟩
end
/-- an append leaves what it leaves -/
theorem app_mdsE {B z : Nat} {E : TypeId} (hE : E ≠ 58) {W w1 : World} {v v' : Value} {n : Nat} {xs : List Value} {o : Obj} (hB : B ≤ W.heap.size) (hrow : W.ownsRow B E z v n xs) (hgr : (W.alloc o).grownBy w1 v.ownBlock) (hat : v'.ownBlock = v.ownBlock ∨ v'.ownBlock = some (W.alloc o).heap.size) :
    Mds B (fun i => v.ownBlock = some i) W (fun i => v'.ownBlock = some i) w1 := by
  have hb : ∀ i, i < W.heap.size → v.ownBlock ≠ some i → w1.heap[i]? = W.heap[i]? := fun i hi hn => (hgr.block i (by rw [World.size_alloc]; omega) (fun e => hn e.symm)).trans (Below.heap_alloc _ _ _ hi)
  have hsz : W.heap.size ≤ w1.heap.size := by have := hgr.size; rw [World.size_alloc] at this; omega
  refine ⟨⟨hgr.os, hgr.tape, hgr.output, hsz, fun k hk => hb k (by omega) (fun e => by have := (own_at hrow e).1; omega)⟩, hsz, fun i hi hn => hb i hi hn, fun i cur fr hc => hb i (lt_of_block hc) (fun e => ?_), fun i hi => ?_⟩
  · obtain ⟨_, _, cur2, hc2⟩ := own_at hrow e
    rw [hc2] at hc; injection hc with hc; injection hc with _ q; exact absurd q hE
  · rcases hat with q | q
    · exact .inl (q ▸ hi)
    · have e' : v'.ownBlock = some i := hi
      rw [q] at e'; cases e'; right; rw [World.size_alloc]; omega
theorem cell_two2 (w : World) (x y : Int) (t : TypeId) : ∀ j u, ([.int .i64 x, .int .i64 y] : List Value)[j]? = some u → (w.alloc (.cells #[.int .i64 x, .int .i64 y] t)).cell? ((⟨w.heap.size, 0, none⟩ : Addr).add j) = some u := cell_two_new w _ _ t
set_option maxRecDepth 100000 in
set_option maxHeartbeats 4000000 in
theorem kn_pin {B : Nat} {K : Kn} {Q : List (Int × Int)} {M : List VD} {w : World} (h : KnAt B w K Q M) (i g : Int) (hn : Q.length ≤ 1000000) : Calls Try.prog 11 #[.pointer (some ⟨K.kb, 0, none⟩), .int .i64 i, .int .i64 g] w fun e w' => e = .returned (.int .i64 0) ∧ ∃ K', K'.kb = K.kb ∧ KnAt B w' K' (Q ++ [(i, g)]) M ∧ Mds B K.own w K'.own w' := by
  have c0 : w.cell? ⟨K.kb, 0, none⟩ = some K.vl := cell_of_block h.box
  have H := hide h
  have HBw : Hid (B ≤ w.heap.size) := by have := h.low; have := h.lt (.inl rfl); show _ ≤ _; omega
  obtain ⟨i0, hi0, hz0, hz1, hz2⟩ := info_parts read_info
  have HI := hide hi0
  have HI0 := hide hz0
  have HI1 := hide hz1
  have HI2 := hide hz2
  have hbd : ∀ w : World, (Instr.build 52 #[(0, .int .i64 i), (1, .int .i64 g)]).run Try.prog w = .ok (.agg #[.int .i64 i, .int .i64 g]) w := fun w => run_build w 52 _ _ (by kernel_rfl)
  clear h hi0 hz0 hz1 hz2
  go_enter Try.func11, Try.ntmps11
  go_wp2_with (first | (at_builtin; refine wpList_append_own_at _ rfl (.tmp 11) (.tmp 15) 27 rfl B 52 i0 (.agg #[.int .i64 0, .int .i64 0]) 2 16 Try.underlying27 HI.out HI0.out HI1.out HI2.out rfl (by decide) _ _ _ rfl (H.out.rl.alloc _) ⟨w.heap.size, 0, none⟩ 1 1 [.int .i64 i, .int .i64 g] rfl rfl (cell_two_new _ _ _ _) (by simp [Value.oneCell']) (by unfold maxLen; omega) (by omega) (by rw [World.size_alloc]; have := HBw.out; omega) ?_; intro v' w3 hown hgr hnil hat; clear hnil; obtain ⟨a9, c9, rfl, -, -⟩ := own_slice hown; have hS := H.out.set0 (app_mdsE (by decide) HBw.out H.out.rl hgr hat) (Q2 := Q ++ [(i, g)]) (by rw [lcV_snoc, List.length_append]; exact hown); have c1 := hS.1.1; have f1 := hS.1.2; have HN := hide hS.2; clear hown hgr hat hS))
  try go_ret
  exact ⟨rfl, ⟨K.kb, .slice a9 (Q.length + 1) c9, K.vw⟩, rfl, HN.out.1, HN.out.2⟩
set_option maxRecDepth 100000 in
set_option maxHeartbeats 4000000 in
theorem kn_count {B : Nat} {K : Kn} {Q : List (Int × Int)} {M : List VD} {w : World} (h : KnAt B w K Q M) (i g : Int) (hn : Q.length ≤ 1000000) : Calls Try.prog 21 #[.pointer (some ⟨K.kb, 0, none⟩), .int .i64 i, .int .i64 g] w fun e w' => e = .returned (.int .i64 (cnt Q (i, g) : Nat)) ∧ w' = w := by
  obtain ⟨al, cl, hv, hcl, hcm, hla⟩ := row_locs h.rl
  have c0 : w.cell? ⟨K.kb, 0, none⟩ = some (.slice al Q.length cl) := by rw [← hv]; exact cell_of_block h.box
  have HLA := hide hla
  obtain ⟨qn, hqn⟩ : ∃ qn, Q.length = qn := ⟨_, rfl⟩
  rw [hqn] at c0 hcl hn
  have HQN := hide hqn
  clear h hv hla hqn
  go_enter Try.func21, Try.ntmps21
  go_wp2_with fail
  go_loopw [7, 8] (fun y7 y8 wr => ∃ k : Nat, k ≤ qn ∧ y8 = .int .i64 k ∧ y7 = .int .i64 (cnt (Q.take k) (i, g) : Nat) ∧ wr = w) (fun y7 y8 _ => qn - (intOf y8).toNat)
  case atStart => exact ⟨0, by omega, rfl, by simp [cnt], rfl⟩
  case round =>
    obtain ⟨k, hk, rfl, rfl, rfl⟩ := hrel
    by_cases hlt : k < qn
    · have hd : decide ((k : Int) < (qn : Int)) = true := by simp; omega
      have hdi : (k : Int) < (qn : Int) := by omega
      have hd0 : (0 : Int) ≤ (k : Int) := by omega
      obtain ⟨⟨x1, x2⟩, hx⟩ : ∃ x, Q[k]? = some x := ⟨_, List.getElem?_eq_getElem (by have := HQN.out; omega)⟩
      obtain ⟨b1, o1, rfl, hb1, d0, d1⟩ := (show ∃ b o, al = some ⟨b, o, none⟩ ∧ b < wr.heap.size ∧ wr.cell? ⟨b, o + k * 2, none⟩ = some (.int .i64 x1) ∧ wr.cell? ⟨b, o + k * 2 + 1, none⟩ = some (.int .i64 x2) by
        rcases HLA.out with q | ⟨b, o, e1, e2, e3⟩
        · rw [q] at hx; simp at hx
        · exact ⟨b, o, e1, e2, e3 k _ hx⟩)
      have HTK : Hid (Q.take (k + 1) = Q.take k ++ [(x1, x2)]) := by unfold Hid; rw [List.take_add_one, hx]; rfl
      have hle := cnt_len (Q.take k) (i, g)
      rw [List.length_take] at hle
      have HC : Hid (cnt (Q.take (k + 1)) (i, g) = if (x1, x2) = (i, g) then cnt (Q.take k) (i, g) + 1 else cnt (Q.take k) (i, g)) := by
        unfold Hid
        rw [HTK.out, cnt_snoc]
        by_cases e : (x1, x2) = (i, g)
        · rw [if_pos e, ← e, inc_same]
        · rw [if_neg e, inc_other (fun q => e q.symm)]
      generalize cnt (Q.take k) (i, g) = c9 at *
      clear hx
      by_cases q1 : x1 = i
      · have hq1 : (x1 == i) = true := by simpa using q1
        by_cases q2 : x2 = g
        · have hq2 : (x2 == g) = true := by simpa using q2
          rw [if_pos (by rw [q1, q2])] at HC
          clear q1 q2
          go_wp2_with fail
          all_goals exact ⟨⟨k + 1, by omega, by go_num, by rw [HC.out]; go_num, trivial⟩, by simp [intOf]; omega⟩
        · have hq2 : (x2 == g) = false := by simpa using q2
          rw [if_neg (fun e => q2 (congrArg Prod.snd e))] at HC
          clear q1 q2
          go_wp2_with fail
          all_goals exact ⟨⟨k + 1, by omega, by go_num, by rw [HC.out], trivial⟩, by simp [intOf]; omega⟩
      · have hq1 : (x1 == i) = false := by simpa using q1
        rw [if_neg (fun e => q1 (congrArg Prod.fst e))] at HC
        clear q1
        go_wp2_with fail
        all_goals exact ⟨⟨k + 1, by omega, by go_num, by rw [HC.out], trivial⟩, by simp [intOf]; omega⟩
    · have hd : decide ((k : Int) < (qn : Int)) = false := by simp; omega
      have hkk : Q.take k = Q := List.take_of_length_le (by have := HQN.out; omega)
      rw [hkk]
      go_wp2_with fail
      try go_ret
      exact ⟨rfl, rfl⟩
end Go.Proofs.Ytghcekhlohgkaaa
