/- The calls on pins in the laws' words (what is kept beside them); what layer 14's live answers: true. -/
import Derived.Test.YtghcekhlohgkaaaPnWaits
import Derived.Test.YtghcekhlohgkaaaPnReap
namespace Go.Proofs.Ytghcekhlohgkaaa
open Go.RowKit
set_option linter.unusedVariables false
/-- pins, and rows of volumes that they do not hold any more -/
def Pl (B b n : Nat) (R : Int × Int → Nat) (L : List VD) (Ks : List (Value × List VD)) (w : World) : Prop :=
  ∃ P : Pn, P.pb = b ∧ P.n ≤ n ∧ PnAt B w P R L ∧ ∀ x ∈ Ks, RowV B w x.1 x.2 ∧ ∀ i, x.1.ownBlock = some i → ¬ P.own i
theorem Pl.below {B b n : Nat} {R : Int × Int → Nat} {L : List VD} {Ks : List (Value × List VD)} {w w' : World} (h : Pl B b n R L Ks w) (hb : Below w.heap.size w w') : Pl B b n R L Ks w' := by
  obtain ⟨P, h1, h2, h3, h4⟩ := h
  exact ⟨P, h1, h2, h3.below hb, fun x hx => ⟨(h4 x hx).1.below hb, (h4 x hx).2⟩⟩
theorem Pl.mono {B b n m : Nat} {R : Int × Int → Nat} {L : List VD} {Ks : List (Value × List VD)} {w : World} (h : Pl B b n R L Ks w) (hm : n ≤ m) : Pl B b m R L Ks w := by
  obtain ⟨P, h1, h2, h3, h4⟩ := h
  exact ⟨P, h1, by omega, h3, h4⟩
theorem Pl.few {B b n : Nat} {R : Int × Int → Nat} {L : List VD} {Ks : List (Value × List VD)} {w : World} (h : Pl B b n R L Ks w) (k : Int × Int) : R k ≤ n := by
  obtain ⟨P, h1, h2, h3, h4⟩ := h
  exact Nat.le_trans (h3.few k) h2
theorem ks_step {B : Nat} {w w' : World} {P P' : Pn} {R R2 : Int × Int → Nat} {L L2 : List VD} {Ks : List (Value × List VD)} (m : Mds B P.own w P'.own w') (h : ∀ x ∈ Ks, RowV B w x.1 x.2 ∧ ∀ i, x.1.ownBlock = some i → ¬ P.own i) :
    ∀ x ∈ Ks, RowV B w' x.1 x.2 ∧ ∀ i, x.1.ownBlock = some i → ¬ P'.own i := fun x hx => by
  obtain ⟨h1, h2⟩ := h x hx
  refine ⟨h1.mod m h2, fun i hi q => ?_⟩
  rcases m.own i q with e | e
  · exact h2 i hi e
  · have := (h1.at hi).2.1; omega
section
variable {B b n : Nat} {R : Int × Int → Nat} {L : List VD} {Ks : List (Value × List VD)} {w : World}
theorem l_new (w : World) : Calls Try.prog 9 #[] w fun e w' => ∃ b, e = .returned (.pointer (some ⟨b, 0, none⟩)) ∧ Pl w.heap.size b 0 (fun _ => 0) [] [] w' ∧ Below w.heap.size w w' :=
  (pn_new w).mono fun e w' ⟨P, h1, h2, h3, h4⟩ => ⟨P.pb, h1, ⟨P, rfl, by omega, h2, fun x hx => by simp at hx⟩, h4⟩
theorem l_pin (h : Pl B b n R L Ks w) (i g : Int) (hk : OkP (i, g)) (hn : n ≤ 1000000) : Calls Try.prog 10 #[.pointer (some ⟨b, 0, none⟩), .int .i64 i, .int .i64 g] w fun e w' => e = .returned (.int .i64 0) ∧ Pl B b (n + 1) (inc R (i, g)) L Ks w' ∧ Below B w w' := by
  obtain ⟨P, rfl, h2, h3, h4⟩ := h
  exact (pn_pin h3 i g hk (by omega)).mono fun e w' ⟨q1, P', q2, q3, q4, q5⟩ => ⟨q1, ⟨P', q2, by omega, q4, ks_step (R := R) (R2 := R) (L := L) (L2 := L) q5 h4⟩, q5.bel⟩
theorem l_unpin (h : Pl B b n R L Ks w) (i g : Int) (hk : OkP (i, g)) (hn : n ≤ 1000000) : Calls Try.prog 12 #[.pointer (some ⟨b, 0, none⟩), .int .i64 i, .int .i64 g] w fun e w' => e = .returned (.int .i64 (unE R (i, g))) ∧ Pl B b (n + 1) (dec R (i, g)) L Ks w' ∧ Below B w w' := by
  obtain ⟨P, rfl, h2, h3, h4⟩ := h
  exact (pn_unpin h3 i g hk (by omega)).mono fun e w' ⟨q1, P', q2, q3, q4, q5⟩ => ⟨q1, ⟨P', q2, by omega, q4, ks_step (R := R) (R2 := R) (L := L) (L2 := L) q5 h4⟩, q5.bel⟩
theorem l_count (h : Pl B b n R L Ks w) (i g : Int) (hk : OkP (i, g)) : Calls Try.prog 20 #[.pointer (some ⟨b, 0, none⟩), .int .i64 i, .int .i64 g] w fun e w' => e = .returned (.int .i64 (R (i, g))) ∧ w = w' := by
  obtain ⟨P, rfl, h2, h3, h4⟩ := h
  exact pn_count h3 i g hk
theorem l_retire (h : Pl B b n R L Ks w) (x : VD) (a : Option Addr) (m c : Nat) (hm : x.ls.length = m) (hm2 : m ≤ 8796093022208) (hx : LocsAt w a x.ls) (hL : L.length ≤ 1000000) : Calls Try.prog 14 #[.pointer (some ⟨b, 0, none⟩), .agg #[.int .i64 x.id, .int .i64 x.gen, .int .i64 x.len, .slice a m c]] w fun e w' => e = .returned (.int .i64 (reE L x)) ∧ Pl B b n R (reL L x) Ks w' ∧ Below B w w' := by
  obtain ⟨P, rfl, h2, h3, h4⟩ := h
  exact (pn_retire h3 x a m c hm hm2 hx hL).mono fun e w' ⟨q1, P', q2, q3, q4, q5⟩ => ⟨q1, ⟨P', q2, by omega, q4, ks_step (R := R) (R2 := R) (L := L) (L2 := L) q5 h4⟩, q5.bel⟩
theorem l_reap (h : Pl B b n R L Ks w) (hL : L.length ≤ 1000000) (hok : ∀ x ∈ L, OkP x.pin) : Calls Try.prog 17 #[.pointer (some ⟨b, 0, none⟩)] w fun e w' => ∃ a c, e = .returned (.slice a (rpO R L).length c) ∧ (rpO R L).length ≤ c ∧ Pl B b n R (rpL R L) ((.slice a (rpO R L).length c, rpO R L) :: Ks) w' ∧ Below B w w' := by
  obtain ⟨P, rfl, h2, h3, h4⟩ := h
  refine (pn_reap h3 hL hok).mono fun e w' ⟨v, P', q1, q2, q3, q4, q5, q6, q7⟩ => ?_
  obtain ⟨a, c, rfl, hc, _, _⟩ := q6.form
  refine ⟨a, c, q1, hc, ⟨P', q2, by omega, q4, fun x hx => ?_⟩, q5.bel⟩
  rcases List.mem_cons.1 hx with rfl | hx
  · exact ⟨q6, fun i hi => (q7 i hi).2⟩
  · exact ks_step (R := R) (R2 := R) (L := L) (L2 := L) q5 h4 x hx
theorem l_waits (h : Pl B b n R L Ks w) (hls : ∀ x ∈ L, x.ls.length ≤ 8796093022208) (hL : L.length ≤ 1000000) : Calls Try.prog 19 #[.pointer (some ⟨b, 0, none⟩)] w fun e w' => ∃ a c, e = .returned (.slice a L.length c) ∧ VosAt B w' a L ∧ Below w.heap.size w w' := by
  obtain ⟨P, rfl, h2, h3, h4⟩ := h
  refine (pn_waits h3 hls hL).mono fun e w' ⟨v, q1, q2, q3⟩ => ?_
  obtain ⟨a, c, rfl, _, _, hv⟩ := q2.row.form
  exact ⟨a, c, q1, hv, q3⟩
theorem Pl.at0 (h : Pl B b n R L Ks w) {a : Option Addr} {m c : Nat} {M : List VD} (hm : (.slice a m c, M) ∈ Ks) : VosAt B w a M := by
  obtain ⟨P, h1, h2, h3, h4⟩ := h
  obtain ⟨a', c', e, _, _, hv⟩ := (h4 _ hm).1.form
  simp only at e
  injection e with e
  rw [e]; exact hv
end
/-! on no pins at all -/
set_option maxRecDepth 100000 in
set_option maxHeartbeats 4000000 in
theorem nil_calls (i g : Int) (v : Value) (cs : Array Value) (w : World) :
    Calls Try.prog 10 #[.pointer none, .int .i64 i, .int .i64 g] w (fun e w' => e = .returned (.int .i64 1) ∧ w = w') ∧
    Calls Try.prog 12 #[.pointer none, .int .i64 i, .int .i64 g] w (fun e w' => e = .returned (.int .i64 1) ∧ w = w') ∧
    Calls Try.prog 20 #[.pointer none, .int .i64 i, .int .i64 g] w (fun e w' => e = .returned (.int .i64 0) ∧ w = w') ∧
    Calls Try.prog 17 #[.pointer none] w (fun e w' => e = .returned (.slice none 0 0) ∧ w = w') ∧
    Calls Try.prog 19 #[.pointer none] w (fun e w' => e = .returned (.slice none 0 0) ∧ w = w') := by
  refine ⟨?_, ?_, ?_, ?_, ?_⟩
  · go_enter Try.func10, Try.ntmps10
    go_wp2_with fail
    try go_ret
    exact ⟨rfl, rfl⟩
  · go_enter Try.func12, Try.ntmps12
    go_wp2_with fail
    try go_ret
    exact ⟨rfl, rfl⟩
  · go_enter Try.func20, Try.ntmps20
    go_wp2_with fail
    try go_ret
    exact ⟨rfl, rfl⟩
  · go_enter Try.func17, Try.ntmps17
    go_wp2_with fail
    try go_ret
    exact ⟨rfl, rfl⟩
  · go_enter Try.func19, Try.ntmps19
    go_wp2_with fail
    try go_ret
    exact ⟨rfl, rfl⟩
set_option maxRecDepth 100000 in
set_option maxHeartbeats 4000000 in
theorem nil_retire (i g n : Int) (v : Value) (w : World) : Calls Try.prog 14 #[.pointer none, .agg #[.int .i64 i, .int .i64 g, .int .i64 n, v]] w (fun e w' => e = .returned (.int .i64 1) ∧ Below w.heap.size w w') := by
  go_enter Try.func14, Try.ntmps14
  go_wp2_with fail
  try go_ret
  exact ⟨rfl, (Below.refl _ _).alloc (Nat.le_refl _) _⟩
def vA : VD := ⟨1, 2, 9, []⟩
def vB : VD := ⟨1, 2, 0, []⟩
def vC : VD := ⟨1, 3, 0, []⟩
def R1 : Int × Int → Nat := inc (fun _ => 0) (1, 2)
set_option maxRecDepth 100000 in
set_option maxHeartbeats 8000000 in
theorem live_any (w : World) : Calls Try.prog 8 #[] w fun e w' => e = .returned (.bool true) ∧ Below w.heap.size w w' := by
  have ok2 : OkP (1, 2) := ⟨⟨by decide, by decide⟩, ⟨by decide, by decide⟩⟩
  have HOK := hide ok2
  have hb0 : ∀ i g n : Int, ∀ w : World, (Instr.build 33 #[(0, .int .i64 i), (1, .int .i64 g), (2, .int .i64 n)]).run Try.prog w = .ok (.agg #[.int .i64 i, .int .i64 g, .int .i64 n, .slice none 0 0]) w := fun i g n w => run_build w 33 _ _ (by kernel_rfl)
  have hb2 : ∀ i g : Int, ∀ w : World, (Instr.build 33 #[(0, .int .i64 i), (1, .int .i64 g)]).run Try.prog w = .ok (.agg #[.int .i64 i, .int .i64 g, .int .i64 0, .slice none 0 0]) w := fun i g w => run_build w 33 _ _ (by kernel_rfl)
  clear ok2
  go_enter Try.func8, Try.ntmps8
  go_wp2_with fail
  refine (l_new w).mono ?_
  rintro e w1 ⟨b, rfl, hp, hb⟩
  have HP1 := hide hp
  have HB1 := hide hb
  clear hp hb
  go_wp2_with fail
  refine (l_pin HP1.out 1 2 HOK.out (by omega)).mono ?_
  rintro e w2 ⟨rfl, hp, hb⟩
  have HP2 : Hid (Pl w.heap.size b 1 R1 [] [] w2) := hp
  have HB2 := hide (HB1.out.trans hb)
  clear hp hb HP1 HB1
  go_wp2_with fail
  refine (l_retire HP2.out vA none 0 0 rfl (by omega) (.inl rfl) (by decide)).mono ?_
  rintro e w3 ⟨rfl, hp, hb⟩
  have HP3 : Hid (Pl w.heap.size b 1 R1 [vA] [] w3) := hp
  have HB3 := hide (HB2.out.trans hb)
  have q3 : reE [] vA = 0 := by decide
  rw [q3]
  clear hp hb HP2 HB2 q3
  go_wp2_with fail
  refine (l_retire HP3.out vB none 0 0 rfl (by omega) (.inl rfl) (by decide)).mono ?_
  rintro e w4 ⟨rfl, hp, hb⟩
  have HP4 : Hid (Pl w.heap.size b 1 R1 [vA] [] w4) := hp
  have HB4 := hide (HB3.out.trans hb)
  have q4 : reE [vA] vB = 13 := by decide
  rw [q4]
  clear hp hb HP3 HB3 q4
  go_wp2_with fail
  refine (l_retire HP4.out vC none 0 0 rfl (by omega) (.inl rfl) (by decide)).mono ?_
  rintro e w5 ⟨rfl, hp, hb⟩
  have HP5 : Hid (Pl w.heap.size b 1 R1 [vA, vC] [] w5) := hp
  have HB5 := hide (HB4.out.trans hb)
  have q5 : reE [vA] vC = 0 := by decide
  rw [q5]
  clear hp hb HP4 HB4 q5
  go_wp2_with fail
  refine (l_reap HP5.out (by decide) (by intro x hx; simp at hx; rcases hx with rfl | rfl <;> exact ⟨⟨by decide, by decide⟩, ⟨by decide, by decide⟩⟩)).mono ?_
  rintro e w6 ⟨a6, c6, rfl, hc6, hp, hb⟩
  have HP6 : Hid (Pl w.heap.size b 1 R1 [vA] [(.slice a6 1 c6, [vC])] w6) := hp
  have HB6 := hide (HB5.out.trans hb)
  have q6 : (rpO R1 [vA, vC]).length = 1 := by decide
  rw [q6]
  clear hp hb HP5 HB5 hc6 q6
  go_wp2_with fail
  refine (l_unpin HP6.out 1 2 HOK.out (by omega)).mono ?_
  rintro e w7 ⟨rfl, hp, hb⟩
  have HP7 : Hid (Pl w.heap.size b 2 (dec R1 (1, 2)) [vA] [(.slice a6 1 c6, [vC])] w7) := hp
  have HB7 := hide (HB6.out.trans hb)
  have q7 : unE R1 (1, 2) = 0 := by decide
  rw [q7]
  clear hp hb HP6 HB6 q7
  go_wp2_with fail
  refine (l_unpin HP7.out 1 2 HOK.out (by omega)).mono ?_
  rintro e w8 ⟨rfl, hp, hb⟩
  have HP8 : Hid (Pl w.heap.size b 3 (dec (dec R1 (1, 2)) (1, 2)) [vA] [(.slice a6 1 c6, [vC])] w8) := hp
  have HB8 := hide (HB7.out.trans hb)
  have q8 : unE (dec R1 (1, 2)) (1, 2) = 9 := by decide
  rw [q8]
  clear hp hb HP7 HB7 q8
  go_wp2_with fail
  refine (l_reap HP8.out (by decide) (by intro x hx; simp at hx; rcases hx with rfl; exact ⟨⟨by decide, by decide⟩, ⟨by decide, by decide⟩⟩)).mono ?_
  rintro e w9 ⟨a9, c9, rfl, hc9, hp, hb⟩
  have HP9 : Hid (Pl w.heap.size b 3 (dec (dec R1 (1, 2)) (1, 2)) [] [(.slice a9 1 c9, [vA]), (.slice a6 1 c6, [vC])] w9) := hp
  have HB9 := hide (HB8.out.trans hb)
  have q9 : (rpO (dec (dec R1 (1, 2)) (1, 2)) [vA]).length = 1 := by decide
  rw [q9]
  clear hp hb HP8 HB8 hc9 q9
  obtain ⟨b1, o1, x1, y1, rfl, hl1, p1, _⟩ := (HP9.out.at0 (a := a6) (m := 1) (c := c6) (M := [vC]) (by simp)).nth (k := 0) (x := vC) rfl
  obtain ⟨b2, o2, x2, y2, rfl, hl2, p2, _⟩ := (HP9.out.at0 (a := a9) (m := 1) (c := c9) (M := [vA]) (by simp)).nth (k := 0) (x := vA) rfl
  have e1 : w9.cell? ⟨b1, o1 + 1, none⟩ = some (.int .i64 3) := by have := p1.c1; simpa [vC] using this
  have e2 : w9.cell? ⟨b2, o2 + 2, none⟩ = some (.int .i64 9) := by have := p2.c2; simpa [vA] using this
  clear p1 p2
  go_wp2_with fail
  refine (l_waits HP9.out (by simp) (by decide)).mono ?_
  rintro e w10 ⟨a10, c10, rfl, -, hb⟩
  have HB10 := hide (HB9.out.trans (hb.mono HB9.out.size))
  have HP10 := hide (HP9.out.below hb)
  clear hb
  go_wp2_with fail
  refine (l_count HP10.out 1 2 HOK.out).mono ?_
  rintro e w11 ⟨rfl, rfl⟩
  have q11 : dec (dec R1 (1, 2)) (1, 2) (1, 2) = 0 := by decide
  rw [q11]
  go_wp2_with fail
  try go_ret
  exact ⟨rfl, HB10.out⟩
end Go.Proofs.Ytghcekhlohgkaaa
