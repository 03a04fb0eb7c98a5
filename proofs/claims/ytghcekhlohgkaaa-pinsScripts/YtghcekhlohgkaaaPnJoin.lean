/- The code's pins and the document's, side by side. -/
import Derived.Test.YtghcekhlohgkaaaKnReap
import Derived.Test.YtghcekhlohgkaaaCamePn
import Derived.Test.YtghcekhlohgkaaaVoSame
namespace Go.Proofs.Ytghcekhlohgkaaa
open Go.RowKit
set_option linter.unusedVariables false
def Jn (o : Option Nat) (B b kb n : Nat) (R : Int × Int → Nat) (L : List VD) (Q : List (Int × Int)) (M : List VD) (Ks : List (Value × List VD)) (w : World) : Prop :=
  ∃ (P : Pn) (Z : Kn), P.pb = b ∧ P.n ≤ n ∧ Z.kb = kb ∧ PnAt B w P R L ∧ KnAt B w Z Q M ∧ (∀ i, P.own i → ¬ Z.own i) ∧ (∀ x ∈ Ks, RowV B w x.1 x.2 ∧ ∀ i, x.1.ownBlock = some i → ¬ P.own i ∧ ¬ Z.own i) ∧ ∀ i, o = some i → i < w.heap.size ∧ ¬ P.own i ∧ ¬ Z.own i
section
variable {o : Option Nat} {B b kb n : Nat} {R : Int × Int → Nat} {L M : List VD} {Q : List (Int × Int)} {Ks : List (Value × List VD)} {w w' : World}
theorem Jn.below (h : Jn o B b kb n R L Q M Ks w) (hb : Below w.heap.size w w') : Jn o B b kb n R L Q M Ks w' := by
  obtain ⟨P, Z, h1, h2, h3, h4, h5, h6, h7, h8⟩ := h
  exact ⟨P, Z, h1, h2, h3, h4.below hb, h5.below hb, h6, fun x hx => ⟨(h7 x hx).1.below hb, (h7 x hx).2⟩, fun i hi => ⟨Nat.lt_of_lt_of_le (h8 i hi).1 hb.size, (h8 i hi).2⟩⟩
theorem Jn.mono (h : Jn o B b kb n R L Q M Ks w) {m : Nat} (hm : n ≤ m) : Jn o B b kb m R L Q M Ks w := by
  obtain ⟨P, Z, h1, h2, h3⟩ := h
  exact ⟨P, Z, h1, by omega, h3⟩
theorem Jn.drop (h : Jn o B b kb n R L Q M Ks w) : Jn o B b kb n R L Q M [] w := by
  obtain ⟨P, Z, h1, h2, h3, h4, h5, h6, h7, h8⟩ := h
  exact ⟨P, Z, h1, h2, h3, h4, h5, h6, fun x hx => by simp at hx, h8⟩
/-- the pins were called -/
theorem jp {P P' : Pn} {Z : Kn} {R2 : Int × Int → Nat} {L2 : List VD} (hP : PnAt B w' P' R2 L2) (hZ : KnAt B w Z Q M) (hs : ∀ i, P.own i → ¬ Z.own i) (hk : ∀ x ∈ Ks, RowV B w x.1 x.2 ∧ ∀ i, x.1.ownBlock = some i → ¬ P.own i ∧ ¬ Z.own i) (ho : ∀ i, o = some i → i < w.heap.size ∧ ¬ P.own i ∧ ¬ Z.own i) (m : Mds B P.own w P'.own w') (h1 : P'.pb = b) (h2 : P'.n ≤ n) (h3 : Z.kb = kb) : Jn o B b kb n R2 L2 Q M Ks w' ∧ ∀ i, o = some i → w'.heap[i]? = w.heap[i]? := by
  refine ⟨⟨P', Z, h1, h2, h3, hP, hZ.mod m (fun i hi q => hs i q hi), fun i hi q => ?_, fun x hx => ?_, fun i hi => ⟨Nat.lt_of_lt_of_le (ho i hi).1 m.size, fun q => ?_, (ho i hi).2.2⟩⟩, fun i hi => m.blk i (ho i hi).1 (ho i hi).2.1⟩
  · rcases m.own i hi with e | e
    · exact hs i e q
    · have := hZ.lt q; omega
  · obtain ⟨k1, k2⟩ := hk x hx
    refine ⟨k1.mod m (fun i hi => (k2 i hi).1), fun i hi => ⟨fun q => ?_, (k2 i hi).2⟩⟩
    rcases m.own i q with e | e
    · exact (k2 i hi).1 e
    · have := (k1.at hi).2.1; omega
  · rcases m.own i q with e | e
    · exact (ho i hi).2.1 e
    · have := (ho i hi).1; omega
/-- the document's were called -/
theorem jz {P : Pn} {Z Z' : Kn} {Q2 : List (Int × Int)} {M2 : List VD} (hZ : KnAt B w' Z' Q2 M2) (hP : PnAt B w P R L) (hs : ∀ i, P.own i → ¬ Z.own i) (hk : ∀ x ∈ Ks, RowV B w x.1 x.2 ∧ ∀ i, x.1.ownBlock = some i → ¬ P.own i ∧ ¬ Z.own i) (ho : ∀ i, o = some i → i < w.heap.size ∧ ¬ P.own i ∧ ¬ Z.own i) (m : Mds B Z.own w Z'.own w') (h1 : P.pb = b) (h2 : P.n ≤ n) (h3 : Z'.kb = kb) : Jn o B b kb n R L Q2 M2 Ks w' ∧ ∀ i, o = some i → w'.heap[i]? = w.heap[i]? := by
  refine ⟨⟨P, Z', h1, h2, h3, hP.mod m hs, hZ, fun i hi q => ?_, fun x hx => ?_, fun i hi => ⟨Nat.lt_of_lt_of_le (ho i hi).1 m.size, (ho i hi).2.1, fun q => ?_⟩⟩, fun i hi => m.blk i (ho i hi).1 (ho i hi).2.2⟩
  · rcases m.own i q with e | e
    · exact hs i hi e
    · have := hP.lt hi; omega
  · obtain ⟨k1, k2⟩ := hk x hx
    refine ⟨k1.mod m (fun i hi => (k2 i hi).2), fun i hi => ⟨(k2 i hi).1, fun q => ?_⟩⟩
    rcases m.own i q with e | e
    · exact (k2 i hi).2 e
    · have := (k1.at hi).2.1; omega
  · rcases m.own i q with e | e
    · exact (ho i hi).2.2 e
    · have := (ho i hi).1; omega
theorem j_pin (h : Jn o B b kb n R L Q M Ks w) (i g : Int) (hk : OkP (i, g)) (hn : n ≤ 1000000) : Calls Try.prog 10 #[.pointer (some ⟨b, 0, none⟩), .int .i64 i, .int .i64 g] w fun e w' => e = .returned (.int .i64 0) ∧ Jn o B b kb (n + 1) (inc R (i, g)) L Q M Ks w' ∧ Below B w w' ∧ ∀ i, o = some i → w'.heap[i]? = w.heap[i]? := by
  obtain ⟨P, Z, rfl, h2, h3, h4, h5, h6, h7, h8⟩ := h
  exact (pn_pin h4 i g hk (by omega)).mono fun e w' ⟨q1, P', q2, q3, q4, q5⟩ => (fun t => ⟨q1, t.1, q5.bel, t.2⟩) (jp (n := n + 1) q4 h5 h6 h7 h8 q5 q2 (by omega) h3)
theorem j_unpin (h : Jn o B b kb n R L Q M Ks w) (i g : Int) (hk : OkP (i, g)) (hn : n ≤ 1000000) : Calls Try.prog 12 #[.pointer (some ⟨b, 0, none⟩), .int .i64 i, .int .i64 g] w fun e w' => e = .returned (.int .i64 (unE R (i, g))) ∧ Jn o B b kb (n + 1) (dec R (i, g)) L Q M Ks w' ∧ Below B w w' ∧ ∀ i, o = some i → w'.heap[i]? = w.heap[i]? := by
  obtain ⟨P, Z, rfl, h2, h3, h4, h5, h6, h7, h8⟩ := h
  exact (pn_unpin h4 i g hk (by omega)).mono fun e w' ⟨q1, P', q2, q3, q4, q5⟩ => (fun t => ⟨q1, t.1, q5.bel, t.2⟩) (jp (n := n + 1) q4 h5 h6 h7 h8 q5 q2 (by omega) h3)
theorem j_count (h : Jn o B b kb n R L Q M Ks w) (i g : Int) (hk : OkP (i, g)) : Calls Try.prog 20 #[.pointer (some ⟨b, 0, none⟩), .int .i64 i, .int .i64 g] w fun e w' => e = .returned (.int .i64 (R (i, g))) ∧ w = w' := by
  obtain ⟨P, Z, rfl, h2, h3, h4, h5, h6, h7, h8⟩ := h
  exact pn_count h4 i g hk
theorem j_retire (h : Jn o B b kb n R L Q M Ks w) (x : VD) (a : Option Addr) (m c : Nat) (hm : x.ls.length = m) (hm2 : m ≤ 8796093022208) (hx : LocsAt w a x.ls) (hL : L.length ≤ 1000000) : Calls Try.prog 14 #[.pointer (some ⟨b, 0, none⟩), .agg #[.int .i64 x.id, .int .i64 x.gen, .int .i64 x.len, .slice a m c]] w fun e w' => e = .returned (.int .i64 (reE L x)) ∧ Jn o B b kb n R (reL L x) Q M Ks w' ∧ Below B w w' ∧ ∀ i, o = some i → w'.heap[i]? = w.heap[i]? := by
  obtain ⟨P, Z, rfl, h2, h3, h4, h5, h6, h7, h8⟩ := h
  exact (pn_retire h4 x a m c hm hm2 hx hL).mono fun e w' ⟨q1, P', q2, q3, q4, q5⟩ => (fun t => ⟨q1, t.1, q5.bel, t.2⟩) (jp (n := n) q4 h5 h6 h7 h8 q5 q2 (by omega) h3)
theorem j_reap (h : Jn o B b kb n R L Q M Ks w) (hL : L.length ≤ 1000000) (hok : ∀ x ∈ L, OkP x.pin) : Calls Try.prog 17 #[.pointer (some ⟨b, 0, none⟩)] w fun e w' => ∃ a c, e = .returned (.slice a (rpO R L).length c) ∧ (rpO R L).length ≤ c ∧ Jn o B b kb n R (rpL R L) Q M ((.slice a (rpO R L).length c, rpO R L) :: Ks) w' ∧ Below B w w' ∧ ∀ i, o = some i → w'.heap[i]? = w.heap[i]? := by
  obtain ⟨P, Z, rfl, h2, h3, h4, h5, h6, h7, h8⟩ := h
  refine (pn_reap h4 hL hok).mono fun e w' ⟨v, P', q1, q2, q3, q4, q5, q6, q7⟩ => ?_
  obtain ⟨a, c, rfl, hc, _, _⟩ := q6.form
  have t0 := jp (n := n) q4 h5 h6 h7 h8 q5 q2 (by omega) h3
  have hJ := jp (Ks := (Value.slice a (rpO R L).length c, rpO R L) :: Ks) (n := n) q4 (h5.mod q5 (fun i hi q => h6 i q hi)) (P := P') (w := w') (fun i hi q => by
    rcases q5.own i hi with e | e
    · exact h6 i e q
    · have := h5.lt q; omega) (fun x hx => by
      rcases List.mem_cons.1 hx with rfl | hx
      · exact ⟨q6, fun i hi => ⟨(q7 i hi).2, fun q => by have := h5.lt q; have := (q7 i hi).1; omega⟩⟩
      · obtain ⟨k1, k2⟩ := h7 x hx
        refine ⟨k1.mod q5 (fun i hi => (k2 i hi).1), fun i hi => ⟨fun q => ?_, (k2 i hi).2⟩⟩
        rcases q5.own i q with e | e
        · exact (k2 i hi).1 e
        · have := (k1.at hi).2.1; omega) (fun i hi => ⟨Nat.lt_of_lt_of_le (h8 i hi).1 q5.size, fun q => (by
      rcases q5.own i q with e | e
      · exact (h8 i hi).2.1 e
      · have := (h8 i hi).1; omega), (h8 i hi).2.2⟩) (Mds.refl _ _ _) q2 (by omega) h3
  exact ⟨a, c, q1, hc, hJ.1, q5.bel, t0.2⟩
theorem j_waits (h : Jn o B b kb n R L Q M Ks w) (hls : ∀ x ∈ L, x.ls.length ≤ 8796093022208) (hL : L.length ≤ 1000000) : Calls Try.prog 19 #[.pointer (some ⟨b, 0, none⟩)] w fun e w' => ∃ a c, e = .returned (.slice a L.length c) ∧ VosAt B w' a L ∧ Below w.heap.size w w' := by
  obtain ⟨P, Z, rfl, h2, h3, h4, h5, h6, h7, h8⟩ := h
  refine (pn_waits h4 hls hL).mono fun e w' ⟨v, q1, q2, q3⟩ => ?_
  obtain ⟨a, c, rfl, _, _, hv⟩ := q2.row.form
  exact ⟨a, c, q1, hv, q3⟩
theorem jk_pin (h : Jn o B b kb n R L Q M Ks w) (i g : Int) (hn : Q.length ≤ 1000000) : Calls Try.prog 11 #[.pointer (some ⟨kb, 0, none⟩), .int .i64 i, .int .i64 g] w fun e w' => e = .returned (.int .i64 0) ∧ Jn o B b kb n R L (Q ++ [(i, g)]) M Ks w' ∧ Below B w w' ∧ ∀ i, o = some i → w'.heap[i]? = w.heap[i]? := by
  obtain ⟨P, Z, h1, h2, rfl, h4, h5, h6, h7, h8⟩ := h
  exact (kn_pin h5 i g hn).mono fun e w' ⟨q1, Z', q2, q3, q4⟩ => (fun t => ⟨q1, t.1, q4.bel, t.2⟩) (jz q3 h4 h6 h7 h8 q4 h1 h2 q2)
theorem jk_unpin (h : Jn o B b kb n R L Q M Ks w) (i g : Int) (hn : Q.length ≤ 1000000) : Calls Try.prog 13 #[.pointer (some ⟨kb, 0, none⟩), .int .i64 i, .int .i64 g] w fun e w' => e = .returned (.int .i64 (unE (cnt Q) (i, g))) ∧ Jn o B b kb n R L (Q.erase (i, g)) M Ks w' ∧ Below B w w' ∧ ∀ i, o = some i → w'.heap[i]? = w.heap[i]? := by
  obtain ⟨P, Z, h1, h2, rfl, h4, h5, h6, h7, h8⟩ := h
  exact (kn_unpin h5 i g hn).mono fun e w' ⟨q1, Z', q2, q3, q4⟩ => (fun t => ⟨q1, t.1, q4.bel, t.2⟩) (jz q3 h4 h6 h7 h8 q4 h1 h2 q2)
theorem jk_count (h : Jn o B b kb n R L Q M Ks w) (i g : Int) (hn : Q.length ≤ 1000000) : Calls Try.prog 21 #[.pointer (some ⟨kb, 0, none⟩), .int .i64 i, .int .i64 g] w fun e w' => e = .returned (.int .i64 (cnt Q (i, g) : Nat)) ∧ w' = w := by
  obtain ⟨P, Z, h1, h2, rfl, h4, h5, h6, h7, h8⟩ := h
  exact kn_count h5 i g hn
theorem jk_retire (h : Jn o B b kb n R L Q M Ks w) (x : VD) (a : Option Addr) (m c : Nat) (hm : x.ls.length = m) (hx : LocsK B w a x.ls) (hL : M.length ≤ 1000000) : Calls Try.prog 15 #[.pointer (some ⟨kb, 0, none⟩), .agg #[.int .i64 x.id, .int .i64 x.gen, .int .i64 x.len, .slice a m c]] w fun e w' => e = .returned (.int .i64 (reE M x)) ∧ Jn o B b kb n R L Q (reL M x) Ks w' ∧ Below B w w' ∧ ∀ i, o = some i → w'.heap[i]? = w.heap[i]? := by
  obtain ⟨P, Z, h1, h2, rfl, h4, h5, h6, h7, h8⟩ := h
  exact (kn_retire h5 x a m c hm hx hL).mono fun e w' ⟨q1, Z', q2, q3, q4⟩ => (fun t => ⟨q1, t.1, q4.bel, t.2⟩) (jz q3 h4 h6 h7 h8 q4 h1 h2 q2)
theorem jk_reap (h : Jn o B b kb n R L Q M Ks w) (hL : M.length ≤ 1000000) (hQ : Q.length ≤ 1000000) : Calls Try.prog 18 #[.pointer (some ⟨kb, 0, none⟩)] w fun e w' => ∃ a c, e = .returned (.slice a (rpO (cnt Q) M).length c) ∧ VosAt B w' a (rpO (cnt Q) M) ∧ Jn o B b kb n R L Q (rpL (cnt Q) M) Ks w' ∧ Below B w w' ∧ ∀ i, o = some i → w'.heap[i]? = w.heap[i]? := by
  obtain ⟨P, Z, h1, h2, rfl, h4, h5, h6, h7, h8⟩ := h
  refine (kn_reap h5 hL hQ).mono fun e w' ⟨v, Z', q1, q2, q3, q4, q5, q6⟩ => ?_
  obtain ⟨a, c, rfl, _, _, hv⟩ := q5.form
  have t := jz q3 h4 h6 h7 h8 q4 h1 h2 q2
  exact ⟨a, c, q1, hv, t.1, q4.bel, t.2⟩
theorem Jn.at0 (h : Jn o B b kb n R L Q M Ks w) {a : Option Addr} {m c : Nat} {N : List VD} (hm : (.slice a m c, N) ∈ Ks) : VosAt B w a N := by
  obtain ⟨P, Z, h1, h2, h3, h4, h5, h6, h7, h8⟩ := h
  obtain ⟨a', c', e, _, _, hv⟩ := (h7 _ hm).1.form
  simp only at e
  injection e with e
  rw [e]; exact hv
theorem Jn.cw (h : Jn o B b kb n R L Q M Ks w) : ∃ a c, w.cell? ⟨kb, 1, none⟩ = some (.slice a M.length c) ∧ VosAt B w a M ∧ kb < w.heap.size := by
  obtain ⟨P, Z, h1, h2, rfl, h4, h5, h6, h7, h8⟩ := h
  obtain ⟨a, c, e, _, _, hv⟩ := h5.rw.form
  exact ⟨a, c, by rw [← e]; exact cell_of_block h5.box, hv, h5.lt (.inl rfl)⟩
/-- both are new -/
theorem Jn.start {w0 : World} (h : Pl w0.heap.size b 0 R L [] w) (hb : Below w0.heap.size w0 w) : Jn none w0.heap.size b w.heap.size 0 R L [] [] [] (w.alloc (.cells #[.slice none 0 0, .slice none 0 0] 30)) := by
  obtain ⟨P, h1, h2, h3, h4⟩ := h
  have hba : Below w.heap.size w (w.alloc (.cells #[.slice none 0 0, .slice none 0 0] 30)) := (Below.refl _ _).alloc (Nat.le_refl _) _
  refine ⟨P, ⟨w.heap.size, .slice none 0 0, .slice none 0 0⟩, h1, h2, rfl, h3.below hba, ⟨heap_alloc_new _ _, World.ownsRow_nil _ _ _ _, RowV.nil _ _, hb.size⟩, fun i hi q => ?_, fun x hx => by simp at hx, fun i hi => by cases hi⟩
  have := h3.lt hi
  rcases q with q | q | q
  · simp only at q; omega
  · cases q
  · cases q
/-- a block that is new is nobody's -/
theorem Jn.guard (h : Jn none B b kb n R L Q M Ks w) (hb : Below w.heap.size w w') (i : Nat) (hi : w.heap.size ≤ i) (hi2 : i < w'.heap.size) : Jn (some i) B b kb n R L Q M Ks w' := by
  obtain ⟨P, Z, h1, h2, h3, h4, h5, h6, h7, h8⟩ := h
  exact ⟨P, Z, h1, h2, h3, h4.below hb, h5.below hb, h6, fun x hx => ⟨(h7 x hx).1.below hb, (h7 x hx).2⟩, fun j hj => by
    cases hj
    exact ⟨hi2, fun q => by have := h4.lt q; omega, fun q => by have := h5.lt q; omega⟩⟩
theorem Jn.free (h : Jn o B b kb n R L Q M Ks w) : Jn none B b kb n R L Q M Ks w := by
  obtain ⟨P, Z, h1, h2, h3, h4, h5, h6, h7, h8⟩ := h
  exact ⟨P, Z, h1, h2, h3, h4, h5, h6, h7, fun i hi => by cases hi⟩
theorem op7 {W : World} {b : Nat} {v0 v1 v2 v3 v4 v5 v6 : Value} (h : W.heap[b]? = some (.cells #[v0, v1, v2, v3, v4, v5, v6] 35 (0, 0))) : W.cell? ⟨b, 0, none⟩ = some v0 ∧ W.cell? ⟨b, 1, none⟩ = some v1 ∧ W.cell? ⟨b, 2, none⟩ = some v2 ∧ W.cell? ⟨b, 3, none⟩ = some v3 ∧ W.cell? ⟨b, 4, none⟩ = some v4 ∧ W.cell? ⟨b, 5, none⟩ = some v5 ∧ W.cell? ⟨b, 6, none⟩ = some v6 :=
  ⟨cell_of_block h, cell_of_block h, cell_of_block h, cell_of_block h, cell_of_block h, cell_of_block h, cell_of_block h⟩
end
end Go.Proofs.Ytghcekhlohgkaaa
