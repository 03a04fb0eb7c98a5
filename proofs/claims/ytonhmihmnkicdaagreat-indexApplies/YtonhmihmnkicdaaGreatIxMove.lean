/- What an index is behind one more record, by functions. What end, lay and put of the index do. What lay and put of the index do. (Written by genxl.py.) What move of the index does. -/
import Derived.Test.YtonhmihmnkicdaaGreatIxGet
import Derived.Test.YtonhmihmnkicdaaGreatIxMayV
namespace Go.Proofs.YtonhmihmnkicdaaGreat
open Go.RowKit
set_option linter.unusedVariables false
def FX.put (X : FX) (r : Rc) : FX := ⟨tset X.T r.ek (some (rEn r)), X.G, vset X.V r.vid (some (rVD r)), hset X.H r.vid⟩
/-- an entry is in a volume -/
def livT (T : ByteArray → Option En) (id : Int) : Prop := ∃ k e, T k = some e ∧ e.vol = id
def FX.volOf (X : FX) (k : ByteArray) : Int := ((X.T k).getD ⟨ByteArray.empty, 0, 0, 0, ByteArray.empty⟩).vol
def FX.del (X : FX) (k : ByteArray) : FX := ⟨tset X.T k none, gset X.G k, X.V, X.H⟩
open Classical in
noncomputable def FX.rem (X : FX) (k : ByteArray) : FX := if livT (X.del k).T (X.volOf k) then X.del k else (X.del k).end (X.volOf k)
def FX.vol (X : FX) (id : Int) : VD := (X.V id).getD vd0
open Classical in
noncomputable def FX.remO (X : FX) (k : ByteArray) : List VD := if livT (X.del k).T (X.volOf k) then [] else [X.vol (X.volOf k)]
def FX.mov (X : FX) (r : Rc) : FX := (X.end r.vid).lay (rVD r)
def FX.carry (X : FX) (f t d : Int) : FX := ⟨carryT X.T f t d, X.G, X.V, X.H⟩
def FX.mrg (X : FX) (r : Rc) : FX := ((((X.end r.f).end r.t).lay (rVD r)).carry (X.vol r.f).id r.vid 0).carry ((X.end r.f).vol r.t).id r.vid (X.vol r.f).len
def FX.mrgO (X : FX) (r : Rc) : List VD := [X.vol r.f, (X.end r.f).vol r.t]
/-- what is done, and what is no more -/
noncomputable def FX.doR (X : FX) (r : Rc) : FX := if r.kind = 0 then X.put r else if r.kind = 1 then X.rem r.k else if r.kind = 2 then X.mov r else X.mrg r
noncomputable def FX.doO (X : FX) (r : Rc) : List VD := if r.kind = 0 then [] else if r.kind = 1 then X.remO r.k else if r.kind = 2 then [X.vol r.vid] else X.mrgO r
noncomputable def FX.app (X : FX) (r : Rc) : FX := if X.may r = 0 then X.doR r else X
noncomputable def FX.appO (X : FX) (r : Rc) : List VD := if X.may r = 0 then X.doO r else []
end Go.Proofs.YtonhmihmnkicdaaGreat
namespace Go.Proofs.YtonhmihmnkicdaaGreat
open Go.RowKit
set_option linter.unusedVariables false
def fset (f : Int → Option Vo) (k : Int) (o : Option Vo) : Int → Option Vo := fun x => if x = k then o else f x
theorem v_set (f : Int → Option Vo) (k : Int) (o : Option Vo) : mset (fun id => (f id).map voF) k (o.map voF) = fun id => (fset f k o id).map voF := by
  funext x; unfold mset fset; by_cases h : x = k <;> simp [h]
theorem v_dset {f : Int → Option Vo} {V : Int → Option VD} (h : ∀ id, (f id).map Vo.d = V id) (k : Int) (o : Option Vo) : ∀ id, (fset f k o id).map Vo.d = vset V k (o.map Vo.d) id := by
  intro id; unfold fset vset; by_cases e : id = k <;> simp [e, h]
/-- a volume is taken from the map, or laid in it -/
theorem IxAt.vturn {B n : Nat} {w w' : World} {I : Ix} {X : FX} (h : IxAt B w I n X) (ht : w.mapTurned w' I.mv) {f : Int → Option Vo} (hf : ∀ id, (f id).map Vo.d = X.V id) (hk : ∀ id x, f id = some x → LocsK B w x.a x.d.ls) (k : Int) (o : Option Vo) (ho : ∀ x, o = some x → LocsK B w x.a x.d.ls)
    (hm : MAt w' 3 I.mv (n + 1) lInt OkI (mset (fun id => (f id).map voF) k (o.map voF))) : IxAt B w' I (n + 1) ⟨X.T, X.G, vset X.V k (o.map Vo.d), X.H⟩ ∧ Mds B I.own w I.own w' := by
  have m := (h.turn (.inr (.inr (.inl rfl))) ht).1
  rw [v_set] at hm
  refine h.set_v ht ⟨fset f k o, v_dset hf k o, hm, fun id x hx => ?_⟩
  unfold fset at hx
  split at hx
  · exact (ho x hx).mod m
  · exact (hk id x hx).mod m
theorem turned_blk {w w' : World} {b i : Nat} (ht : w.mapTurned w' b) (hi : i < w.heap.size) (hn : i ≠ b) : w'.heap[i]? = w.heap[i]? := ht.grown.block i hi (by simpa using hn)
theorem mds_row1 {B : Nat} {w : World} {g : Nat} {old : Array Value} (cs : Array Value) (hg : w.heap[g]? = some (.cells old 36 (0, 0))) (hB : B ≤ g) : Mds B (fun i => i = g) w (fun i => i = g) (w.setRow g cs) :=
  ⟨below_setRow (Below.refl _ _) hB _, by rw [setRow_size]; exact Nat.le_refl _, fun i _ hn => setRow_other _ _ _ _ hn, fun i cur fr hc => setRow_other _ _ _ _ (fun e => by rw [e, hg] at hc; injection hc with hc; injection hc with _ q; exact absurd q (by decide)), fun _ h => .inl h⟩
theorem mds_row {B : Nat} {A A' : Nat → Prop} {w w' : World} {g : Nat} (cs : Array Value) (m : Mds B A w A' w') (h0 : w.heap.size ≤ g) (hB : B ≤ w.heap.size) : Mds B A w A' (w'.setRow g cs) :=
  ⟨below_setRow m.bel (by omega) _, by rw [setRow_size]; exact m.size, fun i hi hn => (setRow_other _ _ _ _ (by omega)).trans (m.blk i hi hn), fun i cur fr hc => (setRow_other _ _ _ _ (by have := lt_of_block hc; omega)).trans (m.loc i cur fr hc), m.own⟩
set_option maxRecDepth 100000 in
set_option maxHeartbeats 8000000 in
theorem ix_end {B n : Nat} {I : Ix} {X : FX} {w : World} (h : IxAt B w I n X) (id : Int) (hk : OkI id) : Calls Tryz.prog 71 #[.pointer (some ⟨I.xb, 0, none⟩), .int .i64 id] w fun e w' => ∃ x : Vo, e = .returned (voF x) ∧ x.d = (X.V id).getD vd0 ∧ LocsK B w' x.a x.d.ls ∧ IxAt B w' I (n + 1) (X.end id) ∧ Mds B I.own w I.own w' := by
  obtain ⟨f, h1, h2, h3⟩ := h.v
  have HX : Hid (((f id).getD vo0).d = (X.V id).getD vd0 ∧ LocsK B w ((f id).getD vo0).a ((f id).getD vo0).d.ls) := by
    refine ⟨by rw [← h1]; cases f id <;> rfl, ?_⟩
    cases hf : f id with
    | none => exact .inl rfl
    | some x => exact h3 id x hf
  have HVG := hide (vo_get (f id))
  obtain ⟨⟨⟨q1, q2, q3, ql⟩, qa, qc⟩, hx⟩ : ∃ x, (f id).getD vo0 = x := ⟨_, rfl⟩
  rw [hx] at HVG HX
  obtain ⟨m, hm⟩ : ∃ m, ql.length = m := ⟨_, rfl⟩
  simp only [voF, hm] at HVG
  have HMM := hide hm
  have hb1 : Below w.heap.size w (w.alloc (.cells #[.int .i64 0, .int .i64 0, .int .i64 0, .slice none 0 0] 36)) := (Below.refl _ _).alloc (Nat.le_refl _) _
  have hb2 := hb1.alloc hb1.size (.cells #[.int .i64 q1, .int .i64 q2, .int .i64 q3, .slice qa m qc] 36)
  have c1 := (h.below hb1).cells.2.2.1
  have c2 := (h.below hb2).cells.2.2.1
  have HM1 := hide (h2.below hb1)
  have HM2 := hide (h2.below hb2)
  have HX2 := hide (h.below hb2)
  have HB2 := hide hb2
  have HF := hide h1
  have HL := hide (fun i x hx => (h3 i x hx).below hb2)
  have HK := hide hk
  have HW := hide (And.intro (h.lt (.inr (.inr (.inr (.inl rfl))))) h.Bw)
  have HLT := hide (fun i (hi : I.own i) => h.lt hi)
  have hz := vol_zero
  have HG1 : Hid (((w.alloc (.cells #[.int .i64 0, .int .i64 0, .int .i64 0, .slice none 0 0] 36)).alloc (.cells #[.int .i64 q1, .int .i64 q2, .int .i64 q3, .slice qa m qc] 36)).heap[w.heap.size]? = some (.cells #[.int .i64 0, .int .i64 0, .int .i64 0, .slice none 0 0] 36 (0, 0))) := (Below.heap_alloc _ _ _ (by rw [World.size_alloc]; omega)).trans (heap_alloc_new _ _)
  have HG2 : Hid (((w.alloc (.cells #[.int .i64 0, .int .i64 0, .int .i64 0, .slice none 0 0] 36)).alloc (.cells #[.int .i64 q1, .int .i64 q2, .int .i64 q3, .slice qa m qc] 36)).heap[w.heap.size + 1]? = some (.cells #[.int .i64 q1, .int .i64 q2, .int .i64 q3, .slice qa m qc] 36 (0, 0))) := by
    have := heap_alloc_new (w.alloc (.cells #[.int .i64 0, .int .i64 0, .int .i64 0, .slice none 0 0] 36)) (.cells #[.int .i64 q1, .int .i64 q2, .int .i64 q3, .slice qa m qc] 36)
    rw [World.size_alloc] at this
    exact this
  clear h h1 h2 h3 hk hb1 hb2 hx hm
  go_enter Tryz.func71, Tryz.ntmps71
  go_upto_region 2 with (first | (at_lookup; refine wp_mlook1 rfl _ _ 67 rfl 36 ke_int Tryz.underlying67 (hz _) id HK.out rfl HM1.out rfl ?_; rw [HVG.out]))
  generalize (w.alloc (.cells #[.int .i64 0, .int .i64 0, .int .i64 0, .slice none 0 0] 36)).alloc (.cells #[.int .i64 q1, .int .i64 q2, .int .i64 q3, .slice qa m qc] 36) = W2 at *
  clear c1
  go_wp2_with (first | (refine wp_mdel rfl (.tmp 15) (.tmp 16) 67 rfl 36 ke_int Tryz.underlying67 id HK.out rfl HM2.out rfl ?_; intro w4 hm4 ht4; have hv := HX2.out.vturn ht4 HF.out HL.out id none (fun _ q => by cases q) (by exact hm4.mono (Nat.le_succ n)); have g1 := (turned_blk ht4 (lt_of_block HG1.out) (by have := HW.out.1; omega)).trans HG1.out; have g2 := (turned_blk ht4 (lt_of_block HG2.out) (by have := HW.out.1; omega)).trans HG2.out; have HV := hide hv; have G1 := hide g1; have G2 := hide g2; clear hm4 ht4 hv g1 g2) | (refine wpList_load_row rfl 36 (.tmp 5) rfl (w.heap.size + 1) rfl 36 #[.int .i64 q1, .int .i64 q2, .int .i64 q3, .slice qa m qc] (0, 0) _ G2.out Tryz.underlying36 rfl vol_size4 ?_) | (refine wpList_store_row rfl 36 (.tmp 4) (.tmp 17) rfl w.heap.size #[.int .i64 q1, .int .i64 q2, .int .i64 q3, .slice qa m qc] rfl rfl 36 _ G1.out vol_size4 rfl (vol_one _ _ _ _ _ _) ?_))
  refine bodyPost_ret (res_vol rfl _ _ w.heap.size _ _ _ _ rfl (setRow_heap _ _ _ _ _ _ G1.out)) rfl ?_
  have hw := HW.out
  have m1 := (Mds.of_below (B := B) I.own HB2.out hw.2).trans HV.out.2
  refine ⟨⟨⟨q1, q2, q3, ql⟩, qa, qc⟩, by simp only [voF, HMM.out], HX.out.1, (HX.out.2.mod m1).mod (mds_row1 _ G1.out hw.2), HV.out.1.mod (mds_row1 _ G1.out hw.2) (fun i hi e => ?_), mds_row _ m1 (Nat.le_refl _) hw.2⟩
  have := HLT.out i hi
  omega
end Go.Proofs.YtonhmihmnkicdaaGreat
namespace Go.Proofs.YtonhmihmnkicdaaGreat
open Go.RowKit
set_option linter.unusedVariables false
theorem opw_mupd {o : Oper} {a : Act} {w w1 : World} {K : Act → World → Prop} {Q : Exit → Act → World → Prop} (t : TypeId) (m s x : Operand) (ho : o.op = .mapUpdate t m s x) (M S X : Value) (hm : a.eval m = M) (hs : a.eval s = S) (hx : a.eval x = X)
    (hr : (Instr.mapUpdate t M S X).run Tryz.prog w = .ok () w1) (h : K (a.put o.dst undef) w1) : o.wp Tryz.prog a w K Q := by
  unfold Oper.wp execOp
  simp [ho, hm, hs, hx, hr, Result.andThen]
  exact h
set_option maxRecDepth 100000 in
set_option maxHeartbeats 8000000 in
theorem ix_lay {B n : Nat} {I : Ix} {X : FX} {w : World} (h : IxAt B w I n X) (hn : n ≤ 1000000) (v1 v2 v3 : Int) (ls : List (Int × Int)) (a : Option Addr) (m c : Nat) (hm : ls.length = m) (hm2 : m ≤ 8796093022208) (hl : LocsAt w a ls) (hv : OkI v1) : Calls Tryz.prog 69 #[.pointer (some ⟨I.xb, 0, none⟩), .agg #[.int .i64 v1, .int .i64 v2, .int .i64 v3, .slice a m c]] w fun e w' => e = .returned (.tuple #[]) ∧ IxAt B w' I (n + 2) (X.lay ⟨v1, v2, v3, ls⟩) ∧ Mds B I.own w I.own w' := by
  have hb1 : Below w.heap.size w (w.alloc (.cells #[.int .i64 v1, .int .i64 v2, .int .i64 v3, .slice a m c] 36)) := (Below.refl _ _).alloc (Nat.le_refl _) _
  have hk1 : (w.alloc (.cells #[.int .i64 v1, .int .i64 v2, .int .i64 v3, .slice a m c] 36)).heap[w.heap.size]? = some (.cells #[.int .i64 v1, .int .i64 v2, .int .i64 v3, .slice a m c] 36 (0, 0)) := heap_alloc_new _ _
  obtain ⟨W1d, hW⟩ : ∃ W, W = (w.alloc (.cells #[.int .i64 v1, .int .i64 v2, .int .i64 v3, .slice a m c] 36)).drew := ⟨_, rfl⟩
  have hbd : Below w.heap.size w W1d := by rw [hW]; exact hb1.drew
  have hk2 : W1d.heap[w.heap.size]? = some (.cells #[.int .i64 v1, .int .i64 v2, .int .i64 v3, .slice a m c] 36 (0, 0)) := by rw [hW]; exact hk1
  have HX := hide (h.below hbd)
  have HM := hide (Mds.of_below (B := B) I.own hbd h.Bw)
  have HS0 := hide (And.intro (h.below hbd).cells.2.2.1 (vcs hk2))
  have HK := hide hk2
  have HC := hide (copied_any v1 v2 v3 a m c ls W1d hm hm2 (hl.below hbd))
  have HWD := hide hW
  have HLT := hide (fun i (hi : I.own i) => h.lt hi)
  have HV := hide hv
  have HMM := hide hm
  have HN : Hid (n < maxLen) := by unfold Hid maxLen; omega
  have HN1 : Hid (n + 1 < maxLen) := by unfold Hid maxLen; omega
  clear h hb1 hk1 hW hbd hk2 hl hv hm hm2 hn
  go_enter Tryz.func69, Tryz.ntmps69
  go_upto_region 1 with fail
  refine wp_region_noPanic ?_
  refine wp_region_held_drew (S := fun w' => w'.cell? ⟨I.xb, 2, none⟩ = some (.map (some I.mv)) ∧ w'.cell? ⟨w.heap.size, 0, none⟩ = some (.int .i64 v1) ∧ w'.cell? ⟨w.heap.size, 1, none⟩ = some (.int .i64 v2) ∧ w'.cell? ⟨w.heap.size, 2, none⟩ = some (.int .i64 v3) ∧ w'.cell? ⟨w.heap.size, 3, none⟩ = some (.slice a m c)) (by kernel_rfl) (by rw [← HWD.out]; exact HS0.out) (fun hHeld => ?_)
  rw [← HWD.out] at hHeld ⊢
  refine wpAnyH_take (i := 0) (v := ?v1) rfl (by kernel_rfl) (by kernel_rfl) (by kernel_rfl) (fun _ _ _ h => h) (Or.inl ⟨by rfl, ?hy1⟩) hHeld ?rest1
  case hy1 => (intro w' hSw; obtain ⟨s0, s1, s2, s3, s4⟩ := hSw; go_simp; try with_reducible rfl)
  try simp [Act.put]
  refine wpAnyH_take (i := 1) (v := ?v2) rfl (by kernel_rfl) (by kernel_rfl) (by kernel_rfl) (fun _ _ _ h => h) (Or.inl ⟨by rfl, ?hy2⟩) hHeld ?rest2
  case hy2 => (intro w' hSw; obtain ⟨s0, s1, s2, s3, s4⟩ := hSw; go_simp; try with_reducible rfl)
  try simp [Act.put]
  refine wpAnyH_take (i := 2) (v := ?v3) rfl (by kernel_rfl) (by kernel_rfl) (by kernel_rfl) (fun _ _ _ h => h) (Or.inl ⟨by rfl, ?hy3⟩) hHeld ?rest3
  case hy3 => (intro w' hSw; obtain ⟨s0, s1, s2, s3, s4⟩ := hSw; go_simp; try with_reducible rfl)
  try simp [Act.put]
  refine wpAnyH_take (i := 3) (v := ?v4) rfl (by kernel_rfl) (by kernel_rfl) (by kernel_rfl) (fun _ _ _ h => h) (Or.inl ⟨by rfl, ?hy4⟩) hHeld ?rest4
  case hy4 => (intro w' hSw; obtain ⟨s0, s1, s2, s3, s4⟩ := hSw; go_simp; try with_reducible rfl)
  try simp [Act.put]
  refine wpAnyH_take (i := 4) (v := ?v5) rfl (by kernel_rfl) (by kernel_rfl) (by kernel_rfl) (fun _ _ _ h => h) (Or.inl ⟨by rfl, ?hy5⟩) hHeld ?rest5
  case hy5 => (intro w' hSw; obtain ⟨s0, s1, s2, s3, s4⟩ := hSw; go_simp; try with_reducible rfl)
  try simp [Act.put]
  refine wpAnyH_take (i := 5) (v := ?v6) rfl (by kernel_rfl) (by kernel_rfl) (by kernel_rfl) (fun _ _ _ h => h) (Or.inl ⟨by rfl, ?hy6⟩) hHeld ?rest6
  case hy6 => (intro w' hSw; obtain ⟨s0, s1, s2, s3, s4⟩ := hSw; go_simp; try with_reducible rfl)
  try simp [Act.put]
  refine wpAnyH_ready (rs := [6]) (by kernel_rfl) (by simp) ?_
  refine AllReadyH.cons rfl (fun K hK => ?_) AllReadyH.nil
  obtain ⟨s0, s1, s2, s3, s4⟩ := HS0.out
  go_simp
  refine hK.out _ _ HS0.out (fun hHeld => ?_)
  clear hK K
  try simp [Act.put]
  refine wpAnyH_ready (rs := [7]) (by kernel_rfl) (by simp) ?_
  refine AllReadyH.cons rfl (fun K hK => ?_) AllReadyH.nil
  go_simp
  refine HC.out.mono ?_
  rintro e W3 ⟨a', c', rfl, hlk, hb3⟩
  have hX3 := HX.out.below hb3
  have hk3 := (hb3.block _ (lt_of_block HK.out)).trans HK.out
  have hM3 := HM.out.trans (Mds.of_below (B := B) I.own hb3 HX.out.Bw)
  obtain ⟨f, q1, q2, q3⟩ := hX3.v
  obtain ⟨w4, hr4, hm4, ht4⟩ := q2.put ke_int Tryz.underlying67 HN.out HV.out (voF ⟨⟨v1, v2, v3, ls⟩, a', c'⟩)
  obtain ⟨hX4, hM4⟩ := hX3.vturn ht4 q1 q3 v1 (some ⟨⟨v1, v2, v3, ls⟩, a', c'⟩) (fun _ q => by cases q; exact hlk B) hm4
  have hlt := hX3.lt (.inr (.inr (.inr (.inl rfl))))
  have hk4 := (turned_blk ht4 (lt_of_block hk3) (by have := HLT.out _ (.inr (.inr (.inr (.inl rfl)))); omega)).trans hk3
  have HS3 := hide (And.intro hX3.cells.2.2.1 (vcs hk3))
  have HS4 := hide (And.intro hX4.cells.2.2.1 (vcs hk4))
  have HR4 := hide hr4
  have HX4 := hide hX4
  have HM4 := hide (hM3.trans hM4)
  have HK4 := hide hk4
  clear hX3 hk3 hM3 q1 q2 q3 hm4 ht4 hX4 hM4 hlt hk4 hr4 hlk hb3 HC
  refine hK.out _ _ HS3.out (fun hHeld => ?_)
  clear hK K
  try simp [Act.put]
  refine wpAnyH_ready (rs := [8]) (by kernel_rfl) (by simp) ?_
  refine AllReadyH.cons rfl (fun K hK => ?_) AllReadyH.nil
  rw [if_pos (by simp [Region.wanted])]
  refine opw_mupd 67 (.tmp 7) (.tmp 9) (.tmp 11) rfl (.map (some I.mv)) (.int .i64 v1) (voF ⟨⟨v1, v2, v3, ls⟩, a', c'⟩) (by simp [Act.eval]) (by simp [Act.eval]) (by simp [Act.eval, voF, HMM.out]) HR4.out ?_
  refine hK.out _ _ HS4.out (fun hHeld => ?_)
  clear hK K
  try simp [Act.put]
  refine wpAnyH_done (by kernel_rfl) (NoPanic.normal ?_) _
  clear HS0 HS3 HS4 HR4 HX HM HK HWD
  obtain ⟨W5, hW5⟩ : ∃ W, W = w4.drew := ⟨_, rfl⟩
  have hbd : Below w4.heap.size w4 W5 := by rw [hW5]; exact (Below.refl _ _).drew
  have hX5 := HX4.out.below hbd
  have hk5 := (hbd.block _ (lt_of_block HK4.out)).trans HK4.out
  have hM5 := HM4.out.trans (Mds.of_below (B := B) I.own hbd HX4.out.Bw)
  obtain ⟨w6, hr6, hm6, ht6⟩ := hX5.i.put ke_int Tryz.underlying68 HN1.out HV.out (.agg #[])
  rw [u_set] at hm6
  obtain ⟨hX6, hM6⟩ := hX5.set_i ht6 hm6
  have hk6 := (turned_blk ht6 (lt_of_block hk5) (by have := HLT.out _ (.inr (.inr (.inr (.inr rfl)))); omega)).trans hk5
  have HS5 := hide (And.intro hX5.cells.2.2.2 (vcs hk5).1)
  have HS6 := hide (And.intro hX6.cells.2.2.2 (vcs hk6).1)
  have HR6 := hide hr6
  have HX6 := hide hX6
  have HM6 := hide (hM5.trans hM6)
  have HWE := hide hW5
  clear hW5 hbd hX5 hk5 hM5 hr6 hm6 ht6 hX6 hM6 hk6
  go_upto_region 2 with fail
  refine wp_region_noPanic ?_
  refine wp_region_held_drew (S := fun w' => w'.cell? ⟨I.xb, 3, none⟩ = some (.map (some I.mi)) ∧ w'.cell? ⟨w.heap.size, 0, none⟩ = some (.int .i64 v1)) (by kernel_rfl) (by rw [← HWE.out]; exact HS5.out) (fun hHeld => ?_)
  rw [← HWE.out] at hHeld ⊢
  refine wpAnyH_take (i := 0) (v := ?v101) rfl (by kernel_rfl) (by kernel_rfl) (by kernel_rfl) (fun _ _ _ h => h) (Or.inl ⟨by rfl, ?hy101⟩) hHeld ?rest101
  case hy101 => (intro w' hSw; obtain ⟨s0, s1⟩ := hSw; go_simp; try with_reducible rfl)
  try simp [Act.put]
  refine wpAnyH_take (i := 1) (v := ?v102) rfl (by kernel_rfl) (by kernel_rfl) (by kernel_rfl) (fun _ _ _ h => h) (Or.inl ⟨by rfl, ?hy102⟩) hHeld ?rest102
  case hy102 => (intro w' hSw; obtain ⟨s0, s1⟩ := hSw; go_simp; try with_reducible rfl)
  try simp [Act.put]
  refine wpAnyH_take (i := 2) (v := ?v103) rfl (by kernel_rfl) (by kernel_rfl) (by kernel_rfl) (fun _ _ _ h => h) (Or.inl ⟨by rfl, ?hy103⟩) hHeld ?rest103
  case hy103 => (intro w' hSw; obtain ⟨s0, s1⟩ := hSw; go_simp; try with_reducible rfl)
  try simp [Act.put]
  refine wpAnyH_take (i := 3) (v := ?v104) rfl (by kernel_rfl) (by kernel_rfl) (by kernel_rfl) (fun _ _ _ h => h) (Or.inl ⟨by rfl, ?hy104⟩) hHeld ?rest104
  case hy104 => (intro w' hSw; obtain ⟨s0, s1⟩ := hSw; go_simp; try with_reducible rfl)
  try simp [Act.put]
  refine wpAnyH_take (i := 4) (v := ?v105) rfl (by kernel_rfl) (by kernel_rfl) (by kernel_rfl) (fun _ _ _ h => h) (Or.inl ⟨by rfl, ?hy105⟩) hHeld ?rest105
  case hy105 => (intro w' hSw; obtain ⟨s0, s1⟩ := hSw; go_simp; try with_reducible rfl)
  try simp [Act.put]
  refine wpAnyH_take (i := 5) (v := ?v106) rfl (by kernel_rfl) (by kernel_rfl) (by kernel_rfl) (fun _ _ _ h => h) (Or.inl ⟨by rfl, ?hy106⟩) hHeld ?rest106
  case hy106 => (intro w' hSw; obtain ⟨s0, s1⟩ := hSw; go_simp; try with_reducible rfl)
  try simp [Act.put]
  refine wpAnyH_take (i := 6) (v := ?v107) rfl (by kernel_rfl) (by kernel_rfl) (by kernel_rfl) (fun _ _ _ h => h) (Or.inl ⟨by rfl, ?hy107⟩) hHeld ?rest107
  case hy107 => (intro w' hSw; obtain ⟨s0, s1⟩ := hSw; go_simp; try with_reducible rfl)
  try simp [Act.put]
  refine wpAnyH_ready (rs := [7]) (by kernel_rfl) (by simp) ?_
  refine AllReadyH.cons rfl (fun K hK => ?_) AllReadyH.nil
  rw [if_pos (by simp [Region.wanted])]
  refine opw_mupd 68 (.tmp 15) (.tmp 17) (.tmp 18) rfl (.map (some I.mi)) (.int .i64 v1) (.agg #[]) (by simp [Act.eval]) (by simp [Act.eval]) (by simp [Act.eval]) HR6.out ?_
  refine hK.out _ _ HS6.out (fun hHeld => ?_)
  clear hK K
  try simp [Act.put]
  refine wpAnyH_done (by kernel_rfl) (NoPanic.normal ?_) _
  go_wp2_with fail
  go_end0
  exact ⟨rfl, HX6.out, HM6.out⟩
set_option maxRecDepth 100000 in
set_option maxHeartbeats 8000000 in
theorem ix_put {B n : Nat} {I : Ix} {X : FX} {w : World} (h : IxAt B w I n X) (hn : n ≤ 1000000) (r : Rc) (a : Option Addr) (c : Nat) (hm2 : r.ls.length ≤ 8796093022208) (hl : LocsAt w a r.ls) (hv : OkI r.vid) (hk : okS r.ek) : Calls Tryz.prog 35 #[.pointer (some ⟨I.xb, 0, none⟩), .agg (rcs r a c)] w fun e w' => e = .returned (.slice none 0 0) ∧ IxAt B w' I (n + 3) (X.put r) ∧ Mds B I.own w I.own w' := by
  have HRW := hide (rbx_new 43 r a c w)
  have hb1 : Below w.heap.size w (w.alloc (.cells (rcs r a c) 43)) := (Below.refl _ _).alloc (Nat.le_refl _) _
  have HM := hide (Mds.of_below (B := B) I.own hb1 h.Bw)
  have HC := hide (ix_lay (h.below hb1) hn r.vid r.vgen r.vlen r.ls a r.ls.length c rfl hm2 (hl.below hb1) hv)
  have HLT := hide (fun i (hi : I.own i) => h.lt hi)
  have HK := hide hk
  have HN : Hid (n + 2 < maxLen) := by unfold Hid maxLen; omega
  clear h hb1 hn hm2 hl hv hk
  go_enter Tryz.func35, Tryz.ntmps35
  go_upto_region 1 with fail
  generalize w.alloc (.cells (rcs r a c) 43) = W1 at *
  obtain ⟨c0, c1, c2, c3, c4, c5, c6, c7, c8, c9, c10, c11, c12, c13⟩ := HRW.out.cells
  clear c0 c1 c6 c7 c8 c9 c10 c11 c12 c13
  go_wp2_with fail
  refine HC.out.mono ?_
  rintro e w2 ⟨rfl, hX, hM⟩
  obtain ⟨W3, hW3⟩ : ∃ W, W = w2.drew := ⟨_, rfl⟩
  have hbd : Below w2.heap.size w2 W3 := by rw [hW3]; exact (Below.refl _ _).drew
  have hno : ¬ I.own w.heap.size := fun q => by have := HLT.out _ q; omega
  have hk3 := (hbd.block _ (by have := hM.size; have := HRW.out.lt; omega)).trans ((hM.blk _ HRW.out.lt hno).trans HRW.out)
  have hX3 := hX.below hbd
  have hM3 := (HM.out.trans hM).trans (Mds.of_below (B := B) I.own hbd hX.Bw)
  obtain ⟨w6, hr6, hm6, ht6⟩ := hX3.t.put ke_str Tryz.underlying65 HN.out HK.out (enV (rEn r))
  obtain ⟨hX6, hM6⟩ := hX3.set_t (T2 := tset X.T r.ek (some (rEn r))) ht6 (by rw [← t_set]; exact hm6)
  have hk6 := (turned_blk ht6 (lt_of_block hk3) (by have := HLT.out _ (.inr (.inl rfl)); omega)).trans hk3
  have HS5 := hide (And.intro hX3.cells.1 hk3)
  have HS6 := hide (And.intro hX6.cells.1 hk6)
  have HR6 := hide hr6
  have HX6 := hide hX6
  have HM6 := hide (hM3.trans hM6)
  have HWE := hide hW3
  clear hX hM hW3 hbd hno hk3 hX3 hM3 hr6 hm6 ht6 hX6 hM6 hk6 c2 c3 c4 c5 HC HM HRW
  go_upto_region 2 with fail
  refine wp_region_noPanic ?_
  refine wp_region_held_drew (S := fun w' => w'.cell? ⟨I.xb, 0, none⟩ = some (.map (some I.mt)) ∧ w'.heap[w.heap.size]? = some (.cells (rcs r a c) 43 (0, 0))) (by kernel_rfl) (by rw [← HWE.out]; exact HS5.out) (fun hHeld => ?_)
  rw [← HWE.out] at hHeld ⊢
  refine wpAnyH_take (i := 0) (v := ?v1) rfl (by kernel_rfl) (by kernel_rfl) (by kernel_rfl) (fun _ _ _ h => h) (Or.inl ⟨by rfl, ?hy1⟩) hHeld ?rest1
  case hy1 => (intro w' hSw; obtain ⟨s0, s1⟩ := hSw; obtain ⟨x0, x1, x2, x3, x4, x5, x6, x7, x8, x9, x10, x11, x12, x13⟩ := RBx.cells s1; go_simp; try with_reducible rfl)
  try simp [Act.put]
  refine wpAnyH_take (i := 1) (v := ?v2) rfl (by kernel_rfl) (by kernel_rfl) (by kernel_rfl) (fun _ _ _ h => h) (Or.inl ⟨by rfl, ?hy2⟩) hHeld ?rest2
  case hy2 => (intro w' hSw; obtain ⟨s0, s1⟩ := hSw; obtain ⟨x0, x1, x2, x3, x4, x5, x6, x7, x8, x9, x10, x11, x12, x13⟩ := RBx.cells s1; go_simp; try with_reducible rfl)
  try simp [Act.put]
  refine wpAnyH_take (i := 2) (v := ?v3) rfl (by kernel_rfl) (by kernel_rfl) (by kernel_rfl) (fun _ _ _ h => h) (Or.inl ⟨by rfl, ?hy3⟩) hHeld ?rest3
  case hy3 => (intro w' hSw; obtain ⟨s0, s1⟩ := hSw; obtain ⟨x0, x1, x2, x3, x4, x5, x6, x7, x8, x9, x10, x11, x12, x13⟩ := RBx.cells s1; go_simp; try with_reducible rfl)
  try simp [Act.put]
  refine wpAnyH_take (i := 3) (v := ?v4) rfl (by kernel_rfl) (by kernel_rfl) (by kernel_rfl) (fun _ _ _ h => h) (Or.inl ⟨by rfl, ?hy4⟩) hHeld ?rest4
  case hy4 => (intro w' hSw; obtain ⟨s0, s1⟩ := hSw; obtain ⟨x0, x1, x2, x3, x4, x5, x6, x7, x8, x9, x10, x11, x12, x13⟩ := RBx.cells s1; go_simp; try with_reducible rfl)
  try simp [Act.put]
  refine wpAnyH_take (i := 4) (v := ?v5) rfl (by kernel_rfl) (by kernel_rfl) (by kernel_rfl) (fun _ _ _ h => h) (Or.inl ⟨by rfl, ?hy5⟩) hHeld ?rest5
  case hy5 => (intro w' hSw; obtain ⟨s0, s1⟩ := hSw; obtain ⟨x0, x1, x2, x3, x4, x5, x6, x7, x8, x9, x10, x11, x12, x13⟩ := RBx.cells s1; go_simp; try with_reducible rfl)
  try simp [Act.put]
  refine wpAnyH_take (i := 5) (v := ?v6) rfl (by kernel_rfl) (by kernel_rfl) (by kernel_rfl) (fun _ _ _ h => h) (Or.inl ⟨by rfl, ?hy6⟩) hHeld ?rest6
  case hy6 => (intro w' hSw; obtain ⟨s0, s1⟩ := hSw; obtain ⟨x0, x1, x2, x3, x4, x5, x6, x7, x8, x9, x10, x11, x12, x13⟩ := RBx.cells s1; go_simp; try with_reducible rfl)
  try simp [Act.put]
  refine wpAnyH_take (i := 6) (v := ?v7) rfl (by kernel_rfl) (by kernel_rfl) (by kernel_rfl) (fun _ _ _ h => h) (Or.inl ⟨by rfl, ?hy7⟩) hHeld ?rest7
  case hy7 => (intro w' hSw; obtain ⟨s0, s1⟩ := hSw; obtain ⟨x0, x1, x2, x3, x4, x5, x6, x7, x8, x9, x10, x11, x12, x13⟩ := RBx.cells s1; go_simp; try with_reducible rfl)
  try simp [Act.put]
  refine wpAnyH_take (i := 7) (v := ?v8) rfl (by kernel_rfl) (by kernel_rfl) (by kernel_rfl) (fun _ _ _ h => h) (Or.inl ⟨by rfl, ?hy8⟩) hHeld ?rest8
  case hy8 => (intro w' hSw; obtain ⟨s0, s1⟩ := hSw; obtain ⟨x0, x1, x2, x3, x4, x5, x6, x7, x8, x9, x10, x11, x12, x13⟩ := RBx.cells s1; go_simp; try with_reducible rfl)
  try simp [Act.put]
  refine wpAnyH_ready (rs := [8]) (by kernel_rfl) (by simp) ?_
  refine AllReadyH.cons rfl (fun K hK => ?_) AllReadyH.nil
  obtain ⟨s0, s1⟩ := HS5.out
  obtain ⟨x0, x1, x2, x3, x4, x5, x6, x7, x8, x9, x10, x11, x12, x13⟩ := RBx.cells s1
  go_simp
  refine hK.out _ _ HS5.out (fun hHeld => ?_)
  clear hK K
  try simp [Act.put]
  refine wpAnyH_ready (rs := [9]) (by kernel_rfl) (by simp) ?_
  refine AllReadyH.cons rfl (fun K hK => ?_) AllReadyH.nil
  rw [if_pos (by simp [Region.wanted])]
  refine opw_mupd 65 (.tmp 12) (.tmp 15) (.tmp 17) rfl (.map (some I.mt)) (.string r.ek) (enV (rEn r)) (by simp [Act.eval]) (by simp [Act.eval]) (by simp [Act.eval, enV, rEn]) HR6.out ?_
  refine hK.out _ _ HS6.out (fun hHeld => ?_)
  clear hK K
  try simp [Act.put]
  refine wpAnyH_done (by kernel_rfl) (NoPanic.normal ?_) _
  go_wp2_with fail
  try go_ret
  exact ⟨rfl, HX6.out, HM6.out⟩
end Go.Proofs.YtonhmihmnkicdaaGreat
namespace Go.Proofs.YtonhmihmnkicdaaGreat
open Go.RowKit
set_option linter.unusedVariables false
/-- a list of volumes lies in a block of volumes -/
def VoT (w : World) (a : Option Addr) : Prop := ∀ b o, a = some ⟨b, o, none⟩ → ∃ cur fr, w.heap[b]? = some (.cells cur 36 fr)
theorem vot_new (w : World) (cs : Array Value) : VoT (w.alloc (.cells cs 36)) (some ⟨w.heap.size, 0, none⟩) := fun b o e => by cases e; exact ⟨_, _, heap_alloc_new _ _⟩
theorem vot_none (w : World) : VoT w none := fun b o e => by cases e
/-- one volume, written into a new block -/
theorem one_vos {B : Nat} {w : World} {q1 q2 q3 : Int} {ql : List (Int × Int)} {qa : Option Addr} {m c : Nat} (hm : ql.length = m) (hk : LocsK B w qa ql) : VosAt B (w.alloc (.cells #[.int .i64 q1, .int .i64 q2, .int .i64 q3, .slice qa m c] 36)) (some ⟨w.heap.size, 0, none⟩) [⟨q1, q2, q3, ql⟩] := by
  subst hm
  have hb : Below w.heap.size w (w.alloc (.cells #[.int .i64 q1, .int .i64 q2, .int .i64 q3, .slice qa ql.length c] 36)) := (Below.refl _ _).alloc (Nat.le_refl _) _
  have hn : (w.alloc (.cells #[.int .i64 q1, .int .i64 q2, .int .i64 q3, .slice qa ql.length c] 36)).heap[w.heap.size]? = some (.cells #[.int .i64 q1, .int .i64 q2, .int .i64 q3, .slice qa ql.length c] 36 (0, 0)) := heap_alloc_new _ _
  refine .inr ⟨w.heap.size, 0, rfl, by rw [World.size_alloc]; omega, [⟨⟨q1, q2, q3, ql⟩, qa, c⟩], rfl, fun i x hx => ?_⟩
  cases i with
  | zero =>
    simp at hx
    subst hx
    exact ⟨⟨cell_of_block hn, cell_of_block hn, cell_of_block hn, cell_of_block hn⟩, hk.below hb⟩
  | succ i => simp at hx
set_option maxRecDepth 100000 in
set_option maxHeartbeats 8000000 in
theorem ix_move {B n : Nat} {I : Ix} {X : FX} {w : World} (h : IxAt B w I n X) (hn : n ≤ 900000) (r : Rc) (a : Option Addr) (c : Nat) (hm2 : r.ls.length ≤ 8796093022208) (hl : LocsK B w a r.ls) (hv : OkI r.vid) : Calls Tryz.prog 37 #[.pointer (some ⟨I.xb, 0, none⟩), .agg (rcs r a c)] w fun e w' => ∃ p, e = .returned (.slice (some p) 1 1) ∧ (VosAt B w' (some p) [X.vol r.vid] ∧ VoT w' (some p)) ∧ IxAt B w' I (n + 3) (X.mov r) ∧ Mds B I.own w I.own w' := by
  have HRW := hide (rbx_new 43 r a c w)
  have hb1 : Below w.heap.size w (w.alloc (.cells (rcs r a c) 43)) := (Below.refl _ _).alloc (Nat.le_refl _) _
  have HM := hide (Mds.of_below (B := B) I.own hb1 h.Bw)
  have HC := hide (ix_end (h.below hb1) r.vid hv)
  have HL := hide (hl.below hb1)
  have HLT := hide (fun i (hi : I.own i) => h.lt hi)
  have HV := hide hv
  have HN := hide hn
  have HM2 := hide hm2
  clear h hb1 hn hm2 hl hv
  go_enter Tryz.func37, Tryz.ntmps37
  go_upto_region 1 with fail
  generalize w.alloc (.cells (rcs r a c) 43) = W1 at *
  have c2 := HRW.out.c2
  go_wp2_with fail
  refine HC.out.mono ?_
  rintro e w2 ⟨⟨⟨q1, q2, q3, ql⟩, qa, qc⟩, rfl, hd, hlk, hX, hM⟩
  obtain ⟨m, hmm⟩ : ∃ m, ql.length = m := ⟨_, rfl⟩
  simp only [voF, hmm]
  have hno : ¬ I.own w.heap.size := fun q => by have := HLT.out _ q; omega
  have hk2 := (hM.blk _ HRW.out.lt hno).trans HRW.out
  have hsz : W1.heap.size ≤ w2.heap.size := hM.size
  have hb3 : Below w2.heap.size w2 (w2.alloc (.cells #[.int .i64 q1, .int .i64 q2, .int .i64 q3, .slice qa m qc] 36)) := (Below.refl _ _).alloc (Nat.le_refl _) _
  have hk3 := (hb3.block _ (lt_of_block hk2)).trans hk2
  have HV3 : Hid ((w2.alloc (.cells #[.int .i64 q1, .int .i64 q2, .int .i64 q3, .slice qa m qc] 36)).heap[w2.heap.size]? = some (.cells #[.int .i64 q1, .int .i64 q2, .int .i64 q3, .slice qa m qc] 36 (0, 0))) := heap_alloc_new _ _
  have HLY := hide (ix_lay (hX.below hb3) (by have := HN.out; omega) r.vid r.vgen r.vlen r.ls a r.ls.length c rfl HM2.out (((HL.out.mod hM).below hb3).at) HV.out)
  have HM3 := hide ((HM.out.trans hM).trans (Mds.of_below (B := B) I.own hb3 hX.Bw))
  have HK3 := hide (RBx.cells (show RBx w.heap.size 43 r a c _ from hk3))
  have HLK := hide (hlk.below hb3)
  have HDD := hide hd
  have HMM := hide hmm
  have HSZ : Hid (¬ I.own w2.heap.size) := fun q => by have := HLT.out _ q; have := HRW.out.lt; omega
  clear hd hlk hX hM hno hk2 hsz hb3 hk3 hmm c2 HC
  go_upto_region 2 with fail
  generalize w2.alloc (.cells #[.int .i64 q1, .int .i64 q2, .int .i64 q3, .slice qa m qc] 36) = W3 at *
  generalize w2.heap.size = g5 at *
  obtain ⟨c0, c1, c2, c3, c4, c5, c6, c7, c8, c9, c10, c11, c12, c13⟩ := HK3.out
  clear c0 c1 c6 c7 c8 c9 c10 c11 c12 c13
  go_wp2_with fail
  refine HLY.out.mono ?_
  rintro e w4 ⟨rfl, hX4, hM4⟩
  have hk4 := (hM4.blk _ (lt_of_block HV3.out) HSZ.out).trans HV3.out
  obtain ⟨f0, f1, f2, f3⟩ := vcs hk4
  have HX4 := hide hX4
  have HM4 := hide (HM3.out.trans hM4)
  have HL4 := hide (HLK.out.mod hM4)
  clear c2 c3 c4 c5 hX4 hM4 hk4 HLY
  go_wp2_with fail
  try go_ret
  have hb5 : Below w4.heap.size w4 (w4.alloc (.cells #[.int .i64 q1, .int .i64 q2, .int .i64 q3, .slice qa m qc] 36)) := (Below.refl _ _).alloc (Nat.le_refl _) _
  refine ⟨⟨w4.heap.size, 0, none⟩, rfl, ?_, HX4.out.below hb5, HM4.out.trans (Mds.of_below (B := B) I.own hb5 HX4.out.Bw)⟩
  have e : X.vol r.vid = ⟨q1, q2, q3, ql⟩ := HDD.out.symm
  rw [e]
  exact ⟨one_vos HMM.out HL4.out, vot_new _ _⟩
end Go.Proofs.YtonhmihmnkicdaaGreat
