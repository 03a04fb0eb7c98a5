/- An index as it is told: what is where, by functions. What slices.Clone of places and index.copied answer. An index in memory: four maps behind a struct. What New and ready of the index do. What Get, Known, was and Volume of the index answer. -/
import Derived.Test.YtonhmihmnkicdaaGreatPnVol
import Derived.Test.YtonhmihmnkicdaaGreatRcSmall
import Derived.Test.YtonhmihmnkicdaaGreatRcMem
import Derived.Lib.SliceRun
import Derived.WalkSpells
import Derived.Deep.Cut
namespace Go.Proofs.YtonhmihmnkicdaaGreat
open Go.RowKit
set_option linter.unusedVariables false
structure En where
  key : ByteArray
  vol : Int
  off : Int
  len : Int
  dig : ByteArray
structure FX where
  T : ByteArray → Option En
  G : ByteArray → Bool
  V : Int → Option VD
  H : Int → Bool
def FX.nil : FX := ⟨fun _ => none, fun _ => false, fun _ => none, fun _ => false⟩
def FX.known (X : FX) (k : ByteArray) : Bool := (X.T k).isSome || X.G k
/-- a record's entry, and its volume -/
def rEn (r : Rc) : En := ⟨r.ek, r.ev, r.eo, r.el, r.ed⟩
def rVD (r : Rc) : VD := ⟨r.vid, r.vgen, r.vlen, r.ls⟩
def tset (T : ByteArray → Option En) (k : ByteArray) (o : Option En) : ByteArray → Option En := fun x => if x = k then o else T x
def vset (V : Int → Option VD) (k : Int) (o : Option VD) : Int → Option VD := fun x => if x = k then o else V x
def gset (G : ByteArray → Bool) (k : ByteArray) : ByteArray → Bool := fun x => if x = k then true else G x
def hset (H : Int → Bool) (k : Int) : Int → Bool := fun x => if x = k then true else H x
def FX.lay (X : FX) (v : VD) : FX := ⟨X.T, X.G, vset X.V v.id (some v), hset X.H v.id⟩
def vd0 : VD := ⟨0, 0, 0, []⟩
def FX.end (X : FX) (id : Int) : FX := ⟨X.T, X.G, vset X.V id none, X.H⟩
/-- entries that are in one volume are in another one, further behind -/
def carryT (T : ByteArray → Option En) (f t d : Int) : ByteArray → Option En := fun k => (T k).map fun e => if e.vol = f then ⟨e.key, t, e.off + d, e.len, e.dig⟩ else e
/-- what may be done -/
def FX.putE (X : FX) (r : Rc) : Int := if X.known r.ek || X.H r.vid then 13 else 0
def FX.getE (X : FX) (k : ByteArray) : Int := if (X.T k).isSome then 0 else 9
def FX.movE (X : FX) (r : Rc) : Int := match X.V r.vid with
  | none => 9
  | some o => if r.vgen ≤ o.gen ∨ r.vlen ≠ o.len then 1 else 0
def FX.mrgE (X : FX) (r : Rc) : Int := match X.V r.f, X.V r.t with
  | some a, some b => if X.H r.vid then 13 else if r.vlen ≠ a.len + b.len then 1 else 0
  | _, _ => 9
noncomputable def FX.may (X : FX) (r : Rc) : Int :=
  if ckR r ≠ 0 then ckR r else if r.kind = 0 then X.putE r else if r.kind = 1 then X.getE r.k else if r.kind = 2 then X.movE r else X.mrgE r
end Go.Proofs.YtonhmihmnkicdaaGreat
namespace Go.Proofs.YtonhmihmnkicdaaGreat
open Go.RowKit
set_option linter.unusedVariables false
theorem loc_empty (w : World) (base : Nat) (hb : base ≤ w.heap.size) : (w.alloc (.cells #[] 84)).ownsRow base 84 2 (.slice (some ⟨w.heap.size, 0, none⟩) 0 0) 0 [] :=
  ⟨rfl, .inr ⟨w.heap.size, 0, #[], rfl, hb, heap_alloc_new _ _, Nat.le_refl _, Nat.zero_le _, rfl, rfl⟩⟩
theorem lcV_one (l : List (Int × Int)) : ∀ u ∈ lcV l, u.oneCell' = true := by
  intro u hu
  unfold lcV at hu
  obtain ⟨x, _, hx⟩ := List.mem_flatMap.1 hu
  simp at hx
  rcases hx with rfl | rfl <;> rfl
theorem lcV_len (l : List (Int × Int)) : (lcV l).length = l.length * 2 := by
  induction l with
  | nil => rfl
  | cons x l ih => simp [lcV] at ih ⊢; omega
set_option maxRecDepth 100000 in
set_option maxHeartbeats 4000000 in
theorem clone_locs (a : Option Addr) (n c : Nat) (l : List (Int × Int)) (w : World) (hl : l.length = n) (hn : n ≤ 8796093022208) (h : LocsAt w a l) :
    Calls Tryz.prog 80 #[.slice a n c] w fun e w' => ∃ v', e = .returned v' ∧ w'.ownsRow w.heap.size 84 2 v' n (lcV l) ∧ Below w.heap.size w w' := by
  have HO := hide (lcV_one l)
  have qN : ∀ (w : World) (n c : Nat), (binOp .eql 34 (.slice none n c) (.slice none 0 0)).run Tryz.prog w = .ok (.bool true) w := fun w n c => Lib.run_eql_slice_nil w _ _ none n c 0 0 Tryz.underlying34
  have qS : ∀ (w : World) (a : Addr) (n c : Nat), (binOp .eql 34 (.slice (some a) n c) (.slice none 0 0)).run Tryz.prog w = .ok (.bool false) w := fun w a n c => Lib.run_eql_slice_nil w _ _ (some a) n c 0 0 Tryz.underlying34
  cases a with
  | none =>
    have hx : l = [] := by
      rcases h with q | ⟨b, o, ha, _⟩
      · exact q
      · cases ha
    subst hx
    simp at hl
    subst hl
    clear h
    go_enter Tryz.func80, Tryz.ntmps80
    go_wp2_with fail
    try go_ret
    exact ⟨_, rfl, World.ownsRow_nil _ _ _ _, Below.refl _ _⟩
  | some ad =>
    obtain ⟨i0, hi0, hz0, hz1, hz2⟩ := info_parts loc_info
    have HI := hide hi0
    have HI0 := hide hz0
    have HI1 := hide hz1
    have HI2 := hide hz2
    have HLL : Hid ((lcV l).length = n * 2) := by unfold Hid; rw [lcV_len, hl]
    have HC : Hid (∀ j u, (lcV l)[j]? = some u → (w.alloc (.cells #[] 84)).cell? (ad.add j) = some u) := fun j u hj => by
      have hb1 : Below w.heap.size w (w.alloc (.cells #[] 84)) := (Below.refl _ _).alloc (Nat.le_refl _) _
      rcases h with q | ⟨b, o, ha, hlt, hc⟩
      · subst q; simp [lcV] at hj
      · cases ha
        have ha : (⟨b, o, none⟩ : Addr).add j = ⟨b, o + j, none⟩ := by unfold Addr.add; split <;> simp_all
        rw [ha]
        refine (hb1.cell (p := ⟨b, o + j, none⟩) hlt).trans ?_
        have hj2 : j < l.length * 2 := by have := (List.getElem?_eq_some_iff.1 hj).1; rw [lcV_len] at this; exact this
        obtain ⟨x, hx⟩ : ∃ x, l[j / 2]? = some x := ⟨_, List.getElem?_eq_getElem (by omega)⟩
        obtain ⟨e1, e2⟩ := lcV_at hx
        obtain ⟨c1, c2⟩ := hc _ x hx
        by_cases hj0 : j % 2 = 0
        · rw [show j / 2 * 2 = j by omega] at e1 c1
          rw [e1] at hj; cases hj; exact c1
        · rw [show j / 2 * 2 + 1 = j by omega] at e2
          rw [Nat.add_assoc, show j / 2 * 2 + 1 = j by omega] at c2
          rw [e2] at hj; cases hj; exact c2
    clear h hi0 hz0 hz1 hz2 hl
    go_enter Tryz.func80, Tryz.ntmps80
    go_wp2_with (first | (at_builtin; refine wpList_append_own _ rfl (.tmp 5) (.tmp 6) 34 rfl w.heap.size 84 i0 (.agg #[.int .i64 0, .int .i64 0]) 2 16 Tryz.underlying34 HI.out HI0.out HI1.out HI2.out rfl (by decide) _ 0 [] rfl (loc_empty _ _ (Nat.le_refl _)) ad n c (lcV l) rfl HLL.out HC.out HO.out (by unfold maxLen; omega) (by omega) (by rw [World.size_alloc]; omega) ?_; intro v' w3 hown hgr hnil; clear hnil; have HB : Hid (Below w.heap.size w w3) := Below.grown ((Below.refl _ w).alloc (Nat.le_refl _) _) hgr (by rw [World.size_alloc]; omega) (fun g' hg' => by cases hg'; exact Nat.le_refl _); rw [Nat.zero_add, List.nil_append] at hown; have HW := hide hown; clear hown hgr))
    try go_ret
    exact ⟨_, rfl, HW.out, HB.out⟩
theorem setRow_size (w : World) (g : Nat) (cs : Array Value) : (w.setRow g cs).heap.size = w.heap.size := by unfold World.setRow; simp
theorem own_slice {w : World} {B z n : Nat} {e : TypeId} {v : Value} {xs : List Value} (h : w.ownsRow B e z v n xs) : ∃ a c, v = .slice a n c ∧ n ≤ c ∧ c ≤ 9223372036854775807 := by
  obtain ⟨hl, ⟨rfl, h2⟩ | ⟨g, cap, cur, rfl, hB, hg, hc, hm, hs, ht⟩⟩ := h
  · exact ⟨none, 0, by rw [h2], by omega, by omega⟩
  · unfold maxLen at hm; exact ⟨_, cap, rfl, hc, hm⟩
theorem vol_one (i g n : Int) (a : Option Addr) (m c : Nat) : (#[Value.int .i64 i, .int .i64 g, .int .i64 n, .slice a m c] : Array Value).all (·.oneCell') = true := by simp [Value.oneCell']
theorem vol_size4 : (Tryz.prog.info? 36).map (·.size) = some 4 := by kernel_rfl
theorem vol_zero (w : World) : (zeroValue 36).run Tryz.prog w = .ok (.agg #[.int .i64 0, .int .i64 0, .int .i64 0, .slice none 0 0]) w := by kernel_rfl
theorem res_vol {fn : Func} {p : Tmp} (h : fn.results = #[.cell p 36]) (tmps : Array Value) (w : World) (g : Nat) (i gn n : Int) (v : Value) (hp : tmps.getD p undef = .pointer (some ⟨g, 0, none⟩)) (hr : w.heap[g]? = some (.cells #[.int .i64 i, .int .i64 gn, .int .i64 n, v] 36 (0, 0))) :
    (results fn tmps).run Tryz.prog w = .ok (.agg #[.int .i64 i, .int .i64 gn, .int .i64 n, v]) w :=
  results_cell_row h tmps w g 36 _ (0, 0) _ hp hr Tryz.underlying36 rfl vol_size4
set_option maxRecDepth 100000 in
set_option maxHeartbeats 4000000 in
theorem copied_any (i g n : Int) (a : Option Addr) (m c : Nat) (l : List (Int × Int)) (w : World) (hl : l.length = m) (hm : m ≤ 8796093022208) (h : LocsAt w a l) : Calls Tryz.prog 53 #[.agg #[.int .i64 i, .int .i64 g, .int .i64 n, .slice a m c]] w fun e w' => ∃ a' c', e = .returned (.agg #[.int .i64 i, .int .i64 g, .int .i64 n, .slice a' m c']) ∧ (∀ B, LocsK B w' a' l) ∧ Below w.heap.size w w' := by
  have hb1 : Below w.heap.size w ((w.alloc (.cells #[.int .i64 i, .int .i64 g, .int .i64 n, .slice a m c] 36)).alloc (.cells #[.int .i64 0, .int .i64 0, .int .i64 0, .slice none 0 0] 36)) := ((Below.refl _ _).alloc (Nat.le_refl _) _).alloc (by rw [World.size_alloc]; omega) _
  have HC := hide (clone_locs a m c l _ hl hm (h.below hb1))
  have hz := vol_zero
  clear h hb1
  go_enter Tryz.func53, Tryz.ntmps53
  go_wp2_with fail
  refine HC.out.mono ?_
  rintro e w3 ⟨v', rfl, hown, hB⟩
  obtain ⟨a', c', rfl, _, _⟩ := own_slice hown
  have hs2 : ((w.alloc (.cells #[.int .i64 i, .int .i64 g, .int .i64 n, .slice a m c] 36)).alloc (.cells #[.int .i64 0, .int .i64 0, .int .i64 0, .slice none 0 0] 36)).heap.size = w.heap.size + 2 := by simp [World.size_alloc]
  have h1 : w3.heap[w.heap.size]? = some (.cells #[.int .i64 i, .int .i64 g, .int .i64 n, .slice a m c] 36 (0, 0)) := (hB.block _ (by rw [hs2]; omega)).trans ((Below.heap_alloc _ _ _ (by rw [World.size_alloc]; omega)).trans (heap_alloc_new _ _))
  have h2 : w3.heap[w.heap.size + 1]? = some (.cells #[.int .i64 0, .int .i64 0, .int .i64 0, .slice none 0 0] 36 (0, 0)) := (hB.block _ (by rw [hs2]; omega)).trans (by rw [show w.heap.size + 1 = (w.alloc (.cells #[.int .i64 i, .int .i64 g, .int .i64 n, .slice a m c] 36)).heap.size by rw [World.size_alloc]]; exact heap_alloc_new _ _)
  have hbw : Below w.heap.size w w3 := (((Below.refl _ w).alloc (Nat.le_refl _) _).alloc (by rw [World.size_alloc]; omega) _).trans (hB.mono (by rw [hs2]; omega))
  rw [hs2] at hown
  have f1 : w3.frozen? ⟨w.heap.size, 3, none⟩ = false := free_of_block h1
  have c1 : w3.cell? ⟨w.heap.size, 3, none⟩ = some (.slice a m c) := cell_of_block h1
  have h3 : (w3.setCell ⟨w.heap.size, 3, none⟩ (.slice a' m c')).heap[w.heap.size]? = some (.cells #[.int .i64 i, .int .i64 g, .int .i64 n, .slice a' m c'] 36 (0, 0)) := block_setCell (c := #[.int .i64 i, .int .i64 g, .int .i64 n, .slice a m c]) (.slice a' m c') h1
  have h4 : (w3.setCell ⟨w.heap.size, 3, none⟩ (.slice a' m c')).heap[w.heap.size + 1]? = some (.cells #[.int .i64 0, .int .i64 0, .int .i64 0, .slice none 0 0] 36 (0, 0)) := (Below.heap_setCell _ _ _ _ (by show w.heap.size + 1 ≠ w.heap.size; omega)).trans h2
  have hbS : Below w.heap.size w (w3.setCell ⟨w.heap.size, 3, none⟩ (.slice a' m c')) := hbw.setCell (Nat.le_refl _) _
  have hK : (w3.setCell ⟨w.heap.size, 3, none⟩ (.slice a' m c')).ownsRow (w.heap.size + 2) 84 2 (.slice a' m c') m (lcV l) := row_keep hown fun q hq => Below.heap_setCell _ _ _ _ (by have := (own_at hown hq).1; show q ≠ w.heap.size; omega)
  have H3 := hide h3
  have H4 := hide h4
  have HBS := hide hbS
  have HK := hide hK
  clear hB hown hs2 h1 h2 hbw h3 h4 hbS hK
  go_wp2_with (first | (refine wpList_load_row rfl 36 (.tmp 1) rfl w.heap.size rfl 36 #[.int .i64 i, .int .i64 g, .int .i64 n, .slice a' m c'] (0, 0) _ H3.out Tryz.underlying36 rfl vol_size4 ?_) | (refine wpList_store_row rfl 36 (.tmp 2) (.tmp 7) rfl (w.heap.size + 1) #[.int .i64 i, .int .i64 g, .int .i64 n, .slice a' m c'] rfl rfl 36 _ H4.out vol_size4 rfl (vol_one _ _ _ _ _ _) ?_))
  refine bodyPost_ret (res_vol rfl _ _ (w.heap.size + 1) _ _ _ _ rfl (setRow_heap _ _ _ _ _ _ H4.out)) rfl ?_
  have hoth : ∀ q, q ≠ w.heap.size + 1 → ∀ (W : World) cs, (W.setRow (w.heap.size + 1) cs).heap[q]? = W.heap[q]? := fun q hq W cs => setRow_other _ _ _ _ hq
  refine ⟨a', c', rfl, fun B => LocsK.own (B' := w.heap.size + 2) (c := c') (by rw [hl]; exact row_keep HK.out fun q hq => hoth q (by have := (own_at HK.out hq).1; omega) _ _), ?_⟩
  have hS := HBS.out
  exact ⟨hS.os, hS.tape, hS.output, by rw [setRow_size]; exact hS.size, fun k hk => (hoth k (by omega) _ _).trans (hS.block k hk)⟩
end Go.Proofs.YtonhmihmnkicdaaGreat
namespace Go.Proofs.YtonhmihmnkicdaaGreat
open Go.RowKit
set_option linter.unusedVariables false
structure Ix where
  xb : Nat
  mt : Nat
  mg : Nat
  mv : Nat
  mi : Nat
def Ix.own (I : Ix) (i : Nat) : Prop := i = I.xb ∨ i = I.mt ∨ i = I.mg ∨ i = I.mv ∨ i = I.mi
def enV (e : En) : Value := .agg #[.string e.key, .int .i64 e.vol, .int .i64 e.off, .int .i64 e.len, .string e.dig]
def voF (x : Vo) : Value := .agg #[.int .i64 x.d.id, .int .i64 x.d.gen, .int .i64 x.d.len, .slice x.a x.d.ls.length x.c]
def uV (b : Bool) : Option Value := if b then some (.agg #[]) else none
abbrev okS (s : ByteArray) : Prop := s.size ≤ Go.maxLen
def VAt (B : Nat) (w : World) (b n : Nat) (V : Int → Option VD) : Prop :=
  ∃ f : Int → Option Vo, (∀ id, (f id).map Vo.d = V id) ∧ MAt w 3 b n lInt OkI (fun id => (f id).map voF) ∧ ∀ id x, f id = some x → LocsK B w x.a x.d.ls
structure IxAt (B : Nat) (w : World) (I : Ix) (n : Nat) (X : FX) : Prop where
  box : w.heap[I.xb]? = some (.cells #[.map (some I.mt), .map (some I.mg), .map (some I.mv), .map (some I.mi)] 70 (0, 0))
  t : MAt w 9 I.mt n lStr okS (fun k => (X.T k).map enV)
  g : MAt w 9 I.mg n lStr okS (fun k => uV (X.G k))
  v : VAt B w I.mv n X.V
  i : MAt w 3 I.mi n lInt OkI (fun id => uV (X.H id))
  low : ∀ j, I.own j → B ≤ j
  ne : (I.mt ≠ I.mg ∧ I.mt ≠ I.mv ∧ I.mt ≠ I.mi) ∧ (I.mg ≠ I.mv ∧ I.mg ≠ I.mi) ∧ I.mv ≠ I.mi
theorem mat_blk {w : World} {k : TypeId} {b n : Nat} {α : Type} {kf : α → Lit} {ok : α → Prop} {f : α → Option Value} (h : MAt w k b n kf ok f) : ∃ es cl, w.heap[b]? = some (.map es cl) := by obtain ⟨D, ⟨es, cl, hb, _⟩, _⟩ := h; exact ⟨es, cl, hb⟩
section
variable {B n : Nat} {w w' : World} {I : Ix} {X : FX} {V : Int → Option VD} {b : Nat}
theorem VAt.keep {A A' : Nat → Prop} (h : VAt B w b n V) (m : Mds B A w A' w') (hb : w'.heap[b]? = w.heap[b]?) : VAt B w' b n V := by
  obtain ⟨f, h1, h2, h3⟩ := h
  exact ⟨f, h1, h2.keep hb, fun id x hx => (h3 id x hx).mod m⟩
theorem VAt.below (h : VAt B w b n V) (hb : Below w.heap.size w w') : VAt B w' b n V := by
  obtain ⟨f, h1, h2, h3⟩ := h
  exact ⟨f, h1, h2.below hb, fun id x hx => (h3 id x hx).below hb⟩
theorem VAt.mono (h : VAt B w b n V) {m : Nat} (hm : n ≤ m) : VAt B w b m V := by
  obtain ⟨f, h1, h2, h3⟩ := h
  exact ⟨f, h1, h2.mono hm, h3⟩
theorem IxAt.lt (h : IxAt B w I n X) {j : Nat} (hj : I.own j) : j < w.heap.size := by
  rcases hj with rfl | rfl | rfl | rfl | rfl
  · exact lt_of_block h.box
  · exact h.t.lt
  · exact h.g.lt
  · obtain ⟨f, _, h2, _⟩ := h.v; exact h2.lt
  · exact h.i.lt
theorem IxAt.is_map (h : IxAt B w I n X) {j : Nat} (hj : j = I.mt ∨ j = I.mg ∨ j = I.mv ∨ j = I.mi) : ∃ es cl, w.heap[j]? = some (.map es cl) := by
  rcases hj with rfl | rfl | rfl | rfl
  · exact mat_blk h.t
  · exact mat_blk h.g
  · obtain ⟨f, _, h2, _⟩ := h.v; exact mat_blk h2
  · exact mat_blk h.i
theorem IxAt.nex (h : IxAt B w I n X) {j : Nat} (hj : j = I.mt ∨ j = I.mg ∨ j = I.mv ∨ j = I.mi) : I.xb ≠ j := fun e => by
  obtain ⟨es, cl, hm⟩ := h.is_map hj
  rw [← e, h.box] at hm; cases hm
theorem IxAt.mod {A A' : Nat → Prop} (h : IxAt B w I n X) (m : Mds B A w A' w') (hs : ∀ i, I.own i → ¬ A i) : IxAt B w' I n X :=
  have k : ∀ i, I.own i → w'.heap[i]? = w.heap[i]? := fun i hi => m.blk i (h.lt hi) (hs i hi)
  ⟨(k _ (.inl rfl)).trans h.box, h.t.keep (k _ (.inr (.inl rfl))), h.g.keep (k _ (.inr (.inr (.inl rfl)))), h.v.keep m (k _ (.inr (.inr (.inr (.inl rfl))))), h.i.keep (k _ (.inr (.inr (.inr (.inr rfl))))), h.low, h.ne⟩
theorem IxAt.below (h : IxAt B w I n X) (hb : Below w.heap.size w w') : IxAt B w' I n X :=
  ⟨(hb.block _ (h.lt (.inl rfl))).trans h.box, h.t.below hb, h.g.below hb, h.v.below hb, h.i.below hb, h.low, h.ne⟩
theorem IxAt.mono (h : IxAt B w I n X) {m : Nat} (hm : n ≤ m) : IxAt B w I m X := ⟨h.box, h.t.mono hm, h.g.mono hm, h.v.mono hm, h.i.mono hm, h.low, h.ne⟩
theorem IxAt.turn (h : IxAt B w I n X) {j : Nat} (hj : j = I.mt ∨ j = I.mg ∨ j = I.mv ∨ j = I.mi) (ht : w.mapTurned w' j) : Mds B I.own w I.own w' ∧ ∀ i, i < w.heap.size → i ≠ j → w'.heap[i]? = w.heap[i]? := by
  have hg := ht.grown
  have ho : I.own j := .inr hj
  have hb : ∀ i, i < w.heap.size → i ≠ j → w'.heap[i]? = w.heap[i]? := fun i hi hn => hg.block i hi (by simpa using hn)
  refine ⟨⟨⟨hg.os, hg.tape, hg.output, hg.size, fun k hk => hb k ?_ ?_⟩, hg.size, fun i hi hn => hb i hi (fun e => hn (e ▸ ho)), fun i cur fr hc => hb i (lt_of_block hc) (fun e => ?_), fun i hi => .inl hi⟩, hb⟩
  · have := h.low j ho; have := h.lt ho; omega
  · have := h.low j ho; omega
  · obtain ⟨es, cl, hm⟩ := h.is_map hj
    rw [e, hm] at hc; cases hc
theorem IxAt.set_t (h : IxAt B w I n X) (ht : w.mapTurned w' I.mt) {T2 : ByteArray → Option En} (hm : MAt w' 9 I.mt (n + 1) lStr okS (fun k => (T2 k).map enV)) : IxAt B w' I (n + 1) ⟨T2, X.G, X.V, X.H⟩ ∧ Mds B I.own w I.own w' := by
  obtain ⟨m, hb⟩ := h.turn (.inl rfl) ht
  obtain ⟨⟨n1, n2, n3⟩, ⟨n4, n5⟩, n6⟩ := h.ne
  exact ⟨⟨(hb _ (h.lt (.inl rfl)) (h.nex (.inl rfl))).trans h.box, hm, (h.g.mono (Nat.le_succ n)).keep (hb _ h.g.lt (fun e => n1 e.symm)), (h.v.mono (Nat.le_succ n)).keep m (hb _ (h.lt (.inr (.inr (.inr (.inl rfl))))) (fun e => n2 e.symm)), (h.i.mono (Nat.le_succ n)).keep (hb _ h.i.lt (fun e => n3 e.symm)), h.low, h.ne⟩, m⟩
theorem IxAt.set_g (h : IxAt B w I n X) (ht : w.mapTurned w' I.mg) {G2 : ByteArray → Bool} (hm : MAt w' 9 I.mg (n + 1) lStr okS (fun k => uV (G2 k))) : IxAt B w' I (n + 1) ⟨X.T, G2, X.V, X.H⟩ ∧ Mds B I.own w I.own w' := by
  obtain ⟨m, hb⟩ := h.turn (.inr (.inl rfl)) ht
  obtain ⟨⟨n1, n2, n3⟩, ⟨n4, n5⟩, n6⟩ := h.ne
  exact ⟨⟨(hb _ (h.lt (.inl rfl)) (h.nex (.inr (.inl rfl)))).trans h.box, (h.t.mono (Nat.le_succ n)).keep (hb _ h.t.lt n1), hm, (h.v.mono (Nat.le_succ n)).keep m (hb _ (h.lt (.inr (.inr (.inr (.inl rfl))))) (fun e => n4 e.symm)), (h.i.mono (Nat.le_succ n)).keep (hb _ h.i.lt (fun e => n5 e.symm)), h.low, h.ne⟩, m⟩
theorem IxAt.set_v (h : IxAt B w I n X) (ht : w.mapTurned w' I.mv) {V2 : Int → Option VD} (hm : VAt B w' I.mv (n + 1) V2) : IxAt B w' I (n + 1) ⟨X.T, X.G, V2, X.H⟩ ∧ Mds B I.own w I.own w' := by
  obtain ⟨m, hb⟩ := h.turn (.inr (.inr (.inl rfl))) ht
  obtain ⟨⟨n1, n2, n3⟩, ⟨n4, n5⟩, n6⟩ := h.ne
  exact ⟨⟨(hb _ (h.lt (.inl rfl)) (h.nex (.inr (.inr (.inl rfl))))).trans h.box, (h.t.mono (Nat.le_succ n)).keep (hb _ h.t.lt n2), (h.g.mono (Nat.le_succ n)).keep (hb _ h.g.lt n4), hm, (h.i.mono (Nat.le_succ n)).keep (hb _ h.i.lt (fun e => n6 e.symm)), h.low, h.ne⟩, m⟩
theorem IxAt.set_i (h : IxAt B w I n X) (ht : w.mapTurned w' I.mi) {H2 : Int → Bool} (hm : MAt w' 3 I.mi (n + 1) lInt OkI (fun id => uV (H2 id))) : IxAt B w' I (n + 1) ⟨X.T, X.G, X.V, H2⟩ ∧ Mds B I.own w I.own w' := by
  obtain ⟨m, hb⟩ := h.turn (.inr (.inr (.inr rfl))) ht
  obtain ⟨⟨n1, n2, n3⟩, ⟨n4, n5⟩, n6⟩ := h.ne
  exact ⟨⟨(hb _ (h.lt (.inl rfl)) (h.nex (.inr (.inr (.inr rfl))))).trans h.box, (h.t.mono (Nat.le_succ n)).keep (hb _ h.t.lt n3), (h.g.mono (Nat.le_succ n)).keep (hb _ h.g.lt n5), (h.v.mono (Nat.le_succ n)).keep m (hb _ (h.lt (.inr (.inr (.inr (.inl rfl))))) n6), hm, h.low, h.ne⟩, m⟩
theorem IxAt.cells (h : IxAt B w I n X) : w.cell? ⟨I.xb, 0, none⟩ = some (.map (some I.mt)) ∧ w.cell? ⟨I.xb, 1, none⟩ = some (.map (some I.mg)) ∧ w.cell? ⟨I.xb, 2, none⟩ = some (.map (some I.mv)) ∧ w.cell? ⟨I.xb, 3, none⟩ = some (.map (some I.mi)) :=
  ⟨cell_of_block h.box, cell_of_block h.box, cell_of_block h.box, cell_of_block h.box⟩
theorem IxAt.Bw (h : IxAt B w I n X) : B ≤ w.heap.size := by have := h.low _ (.inl rfl); have := h.lt (.inl rfl); omega
end
/-! the zero values -/
theorem en_zero (w : World) : (zeroValue 38).run Tryz.prog w = .ok (.agg #[.string ByteArray.empty, .int .i64 0, .int .i64 0, .int .i64 0, .string ByteArray.empty]) w := by kernel_rfl
theorem unit_zero (w : World) : (zeroValue 86).run Tryz.prog w = .ok (.agg #[]) w := by kernel_rfl
theorem ix_zero (w : World) : (zeroValue 70).run Tryz.prog w = .ok (.agg #[.map none, .map none, .map none, .map none]) w := by kernel_rfl
def en0 : En := ⟨ByteArray.empty, 0, 0, 0, ByteArray.empty⟩
theorem en_get (o : Option En) : (o.map enV).getD (.agg #[.string ByteArray.empty, .int .i64 0, .int .i64 0, .int .i64 0, .string ByteArray.empty]) = enV (o.getD en0) := by cases o <;> rfl
theorem u_get (b : Bool) : (uV b).getD (.agg #[]) = .agg #[] := by cases b <;> rfl
theorem u_some (b : Bool) : (uV b).isSome = b := by cases b <;> rfl
theorem u_set (H : Int → Bool) (k : Int) : mset (fun id => uV (H id)) k (some (.agg #[])) = fun id => uV (hset H k id) := by
  funext x; unfold mset hset; by_cases h : x = k <;> simp [h, uV]
theorem g_set (G : ByteArray → Bool) (k : ByteArray) : mset (fun id => uV (G id)) k (some (.agg #[])) = fun id => uV (gset G k id) := by
  funext x; unfold mset gset; by_cases h : x = k <;> simp [h, uV]
theorem t_set (T : ByteArray → Option En) (k : ByteArray) (o : Option En) : mset (fun id => (T id).map enV) k (o.map enV) = fun id => (tset T k o id).map enV := by
  funext x; unfold mset tset; by_cases h : x = k <;> simp [h]
end Go.Proofs.YtonhmihmnkicdaaGreat
namespace Go.Proofs.YtonhmihmnkicdaaGreat
open Go.RowKit
set_option linter.unusedVariables false
theorem mat_empty {w : World} {b : Nat} (hb : w.heap[b]? = some (.map #[] 0)) (k : TypeId) {α : Type} (kf : α → Lit) (ok : α → Prop) : MAt w k b 0 kf ok (fun _ => none) :=
  ⟨.map [], ⟨#[], 0, hb, ⟨by simp, MapKept.stamped_empty 0, by simp⟩, Nat.le_refl _, rfl⟩, fun a _ => rfl⟩
theorem rd_step {w0 w : World} {xb p : Nat} {C : Array Value} {v : Value} (hx : w.heap[xb]? = some (.cells C 70 (0, 0))) (h0 : w0.heap.size ≤ xb) (hb : Below w0.heap.size w0 w) :
    ((w.setCell ⟨xb, p, none⟩ v).alloc (.map #[] 0)).heap[xb]? = some (.cells (C.setIfInBounds p v) 70 (0, 0)) ∧ ((w.setCell ⟨xb, p, none⟩ v).alloc (.map #[] 0)).heap[w.heap.size]? = some (.map #[] 0) ∧
      (∀ i, i < w.heap.size → i ≠ xb → ((w.setCell ⟨xb, p, none⟩ v).alloc (.map #[] 0)).heap[i]? = w.heap[i]?) ∧ ((w.setCell ⟨xb, p, none⟩ v).alloc (.map #[] 0)).heap.size = w.heap.size + 1 ∧ Below w0.heap.size w0 ((w.setCell ⟨xb, p, none⟩ v).alloc (.map #[] 0)) := by
  have hlt := lt_of_block hx
  have hsz : (w.setCell ⟨xb, p, none⟩ v).heap.size = w.heap.size := by simp [World.setCell]
  have hset : ∀ i, i ≠ xb → (w.setCell ⟨xb, p, none⟩ v).heap[i]? = w.heap[i]? := fun i hi => Below.heap_setCell _ _ _ _ hi
  have hal : ∀ i, i < w.heap.size → ((w.setCell ⟨xb, p, none⟩ v).alloc (.map #[] 0)).heap[i]? = (w.setCell ⟨xb, p, none⟩ v).heap[i]? := fun i hi => Below.heap_alloc _ _ _ (by rw [hsz]; exact hi)
  refine ⟨(hal _ hlt).trans (block_setCell v hx), ?_, fun i hi hn => (hal i hi).trans (hset i hn), by rw [World.size_alloc, hsz], (hb.setCell h0 _).alloc (by rw [hsz]; exact hb.size) _⟩
  have := heap_alloc_new (w.setCell ⟨xb, p, none⟩ v) (.map #[] 0)
  rw [hsz] at this
  exact this
set_option maxRecDepth 100000 in
set_option maxHeartbeats 4000000 in
theorem ix_ready (w0 w : World) (xb : Nat) (hx : w.heap[xb]? = some (.cells #[.map none, .map none, .map none, .map none] 70 (0, 0))) (h0 : w0.heap.size ≤ xb) (hb : Below w0.heap.size w0 w) : Calls Tryz.prog 24 #[.pointer (some ⟨xb, 0, none⟩)] w fun e w' => e = .returned (.tuple #[]) ∧ ∃ I, I.xb = xb ∧ IxAt w0.heap.size w' I 0 FX.nil ∧ Below w0.heap.size w0 w' := by
  have c3 : w.cell? ⟨xb, 3, none⟩ = some (.map none) := cell_of_block hx
  have hmm := @run_makeMap Tryz.prog
  have qM : ∀ (w : World), (binOp .neq 68 (.map none) (.map none)).run Tryz.prog w = .ok (.bool false) w := fun w => run_neq_map_nil w _ _ _ none Tryz.underlying68
  have HX := hide hx
  have HB := hide hb
  have hlt := lt_of_block hx
  clear hx hb
  go_enter Tryz.func24, Tryz.ntmps24
  go_upto_region 1 with fail
  obtain ⟨a1, a2, a3, a4, a5⟩ := rd_step (p := 0) (v := .map (some w.heap.size)) HX.out h0 HB.out
  have e0 : w.cell? ⟨xb, 0, none⟩ = some (.map none) := cell_of_block HX.out
  have f0 : w.frozen? ⟨xb, 0, none⟩ = false := free_of_block HX.out
  have A1 := hide a1
  have A2 := hide a2
  have A3 := hide a3
  have A4 := hide a4
  have A5 := hide a5
  clear a1 a2 a3 a4 a5 c3
  go_upto_region 2 with fail
  generalize ((w.setCell ⟨xb, 0, none⟩ (.map (some w.heap.size))).alloc (.map #[] 0)) = w1 at *
  obtain ⟨a1, a2, a3, a4, a5⟩ := rd_step (p := 1) (v := .map (some w1.heap.size)) A1.out h0 A5.out
  have e1 : w1.cell? ⟨xb, 1, none⟩ = some (.map none) := cell_of_block A1.out
  have f1 : w1.frozen? ⟨xb, 1, none⟩ = false := free_of_block A1.out
  have B1 := hide a1
  have B2 := hide a2
  have B3 := hide a3
  have B4 := hide a4
  have B5 := hide a5
  have hlt1 := lt_of_block A1.out
  clear a1 a2 a3 a4 a5 e0 f0
  go_upto_region 3 with fail
  generalize ((w1.setCell ⟨xb, 1, none⟩ (.map (some w1.heap.size))).alloc (.map #[] 0)) = w2 at *
  obtain ⟨a1, a2, a3, a4, a5⟩ := rd_step (p := 2) (v := .map (some w2.heap.size)) B1.out h0 B5.out
  have e2 : w2.cell? ⟨xb, 2, none⟩ = some (.map none) := cell_of_block B1.out
  have f2 : w2.frozen? ⟨xb, 2, none⟩ = false := free_of_block B1.out
  have C1 := hide a1
  have C2 := hide a2
  have C3 := hide a3
  have C4 := hide a4
  have C5 := hide a5
  have hlt2 := lt_of_block B1.out
  clear a1 a2 a3 a4 a5 e1 f1
  go_upto_region 4 with fail
  generalize ((w2.setCell ⟨xb, 2, none⟩ (.map (some w2.heap.size))).alloc (.map #[] 0)) = w3 at *
  obtain ⟨a1, a2, a3, a4, a5⟩ := rd_step (p := 3) (v := .map (some w3.heap.size)) C1.out h0 C5.out
  have e3 : w3.cell? ⟨xb, 3, none⟩ = some (.map none) := cell_of_block C1.out
  have f3 : w3.frozen? ⟨xb, 3, none⟩ = false := free_of_block C1.out
  have D1 := hide a1
  have D2 := hide a2
  have D3 := hide a3
  have D4 := hide a4
  have D5 := hide a5
  have hlt3 := lt_of_block C1.out
  clear a1 a2 a3 a4 a5 e2 f2
  go_wp2_with fail
  try go_ret
  have s1 := A4.out
  have s2 := B4.out
  have s3 := C4.out
  have g0 := (D3.out w.heap.size (by omega) (by omega)).trans ((C3.out w.heap.size (by omega) (by omega)).trans ((B3.out w.heap.size (by omega) (by omega)).trans A2.out))
  have g1 := (D3.out w1.heap.size (by omega) (by omega)).trans ((C3.out w1.heap.size (by omega) (by omega)).trans B2.out)
  have g2 := (D3.out w2.heap.size (by omega) (by omega)).trans C2.out
  have hl := HB.out.size
  go_end0
  refine ⟨rfl, ⟨xb, w.heap.size, w1.heap.size, w2.heap.size, w3.heap.size⟩, rfl, ⟨D1.out, mat_empty g0 _ _ _, mat_empty g1 _ _ _, ⟨fun _ => none, fun _ => rfl, mat_empty g2 _ _ _, fun _ _ q => by cases q⟩, mat_empty D2.out _ _ _, fun j hj => ?_, ⟨⟨?_, ?_, ?_⟩, ⟨?_, ?_⟩, ?_⟩⟩, D5.out⟩
  · rcases hj with rfl | rfl | rfl | rfl | rfl <;> (try simp only) <;> omega
  all_goals (try simp only); omega
set_option maxRecDepth 100000 in
set_option maxHeartbeats 4000000 in
theorem ix_new (w : World) : Calls Tryz.prog 6 #[] w fun e w' => ∃ I, e = .returned (.pointer (some ⟨I.xb, 0, none⟩)) ∧ IxAt w.heap.size w' I 0 FX.nil ∧ Below w.heap.size w w' := by
  have hz := ix_zero
  have HR := hide (ix_ready w (w.alloc (.cells #[.map none, .map none, .map none, .map none] 70)) w.heap.size (heap_alloc_new _ _) (Nat.le_refl _) ((Below.refl _ _).alloc (Nat.le_refl _) _))
  go_enter Tryz.func6, Tryz.ntmps6
  go_wp2_with fail
  refine HR.out.mono ?_
  rintro e w1 ⟨rfl, I, hI, hx, hb⟩
  have HX := hide hx
  have HB := hide hb
  have HI := hide hI
  clear hx hb hI
  go_wp2_with fail
  try go_ret
  exact ⟨I, by rw [HI.out]; rfl, HX.out, HB.out⟩
end Go.Proofs.YtonhmihmnkicdaaGreat
namespace Go.Proofs.YtonhmihmnkicdaaGreat
open Go.RowKit
set_option linter.unusedVariables false
theorem en_info4 : (Tryz.prog.info? 38).map (·.size) = some 5 := by kernel_rfl
theorem res_en {fn : Func} {p u : Tmp} (h : fn.results = #[.cell p 38, .tmp u]) (tmps : Array Value) (w : World) (g : Nat) (cs : Array Value) (hc : cs.size = 5) (hp : tmps.getD p undef = .pointer (some ⟨g, 0, none⟩)) (hr : w.heap[g]? = some (.cells cs 38 (0, 0))) :
    (results fn tmps).run Tryz.prog w = .ok (.tuple #[.agg cs, tmps.getD u undef]) w := by
  rw [results_cell_tmp h, hp]
  simp [asAddr, run_loadVar_row w g 38 38 cs (0, 0) _ hr Tryz.underlying38 rfl (by rw [hc]; exact en_info4)]
theorem res_vo2 {fn : Func} {p u : Tmp} (h : fn.results = #[.cell p 36, .tmp u]) (tmps : Array Value) (w : World) (g : Nat) (cs : Array Value) (hc : cs.size = 4) (hp : tmps.getD p undef = .pointer (some ⟨g, 0, none⟩)) (hr : w.heap[g]? = some (.cells cs 36 (0, 0))) :
    (results fn tmps).run Tryz.prog w = .ok (.tuple #[.agg cs, tmps.getD u undef]) w := by
  rw [results_cell_tmp h, hp]
  simp [asAddr, run_loadVar_row w g 36 36 cs (0, 0) _ hr Tryz.underlying36 rfl (by rw [hc]; exact vol_size4)]
set_option maxRecDepth 100000 in
set_option maxHeartbeats 4000000 in
theorem ix_was {B n : Nat} {I : Ix} {X : FX} {w : World} (h : IxAt B w I n X) (id : Int) (hk : OkI id) : Calls Tryz.prog 63 #[.pointer (some ⟨I.xb, 0, none⟩), .int .i64 id] w fun e w' => e = .returned (.bool (X.H id)) ∧ Below w.heap.size w w' := by
  obtain ⟨c0, c1, c2, c3⟩ := h.cells
  have hm := hide h.i
  have HK := hide hk
  have hzu := unit_zero
  have HU := hide (u_some (X.H id))
  have HG := hide (u_get (X.H id))
  clear h hk c0 c1 c2
  go_enter Tryz.func63, Tryz.ntmps63
  go_wp2_with (first | (at_lookup; refine wp_mlook rfl _ _ 68 rfl 86 ke_int Tryz.underlying68 (hzu _) id HK.out rfl hm.out rfl ?_; rw [HU.out, HG.out]))
  try go_ret
  exact ⟨rfl, (Below.refl _ _).alloc (Nat.le_refl _) _⟩
set_option maxRecDepth 100000 in
set_option maxHeartbeats 4000000 in
theorem ix_known {B n : Nat} {I : Ix} {X : FX} {w : World} (h : IxAt B w I n X) (k : ByteArray) (hk : okS k) : Calls Tryz.prog 21 #[.pointer (some ⟨I.xb, 0, none⟩), .string k] w fun e w' => e = .returned (.bool (X.known k)) ∧ Below w.heap.size w w' := by
  obtain ⟨c0, c1, c2, c3⟩ := h.cells
  have hne := h.lt (.inl rfl)
  have hzu := unit_zero
  have hze := en_zero
  have HU := hide (u_some (X.G k))
  have HG := hide (u_get (X.G k))
  have HS : Hid (((X.T k).map enV).isSome = (X.T k).isSome) := by unfold Hid; cases X.T k <;> rfl
  have HE := hide (en_get (X.T k))
  have HK := hide hk
  have HKN : Hid (X.known k = ((X.T k).isSome || X.G k)) := rfl
  obtain ⟨e, he⟩ : ∃ e, (X.T k).getD en0 = e := ⟨_, rfl⟩
  obtain ⟨ek, ev, eo, el, ed⟩ := e
  rw [he] at HE
  simp only [enV] at HE
  have hmt := hide h.t
  have hb1 : Below w.heap.size w (w.alloc (.cells #[.string ek, .int .i64 ev, .int .i64 eo, .int .i64 el, .string ed] 38)) := (Below.refl _ _).alloc (Nat.le_refl _) _
  have h1 := h.below hb1
  have hmg := hide h1.g
  have d1 := h1.cells.2.1
  have HB := hide (hb1.alloc hb1.size (.cells #[] 86))
  clear h hk c2 c3 he h1 hb1
  cases hT : (X.T k).isSome with
  | true =>
    rw [hT] at HS HKN
    go_enter Tryz.func21, Tryz.ntmps21
    go_wp2_with (first | (at_lookup; refine wp_mlook rfl _ _ 65 rfl 38 ke_str Tryz.underlying65 (hze _) k HK.out rfl hmt.out rfl ?_; rw [HS.out, HE.out]) | (at_lookup; refine wp_mlook rfl _ _ 66 rfl 86 ke_str Tryz.underlying66 (hzu _) k HK.out rfl hmg.out rfl ?_; rw [HU.out, HG.out]))
    try go_ret
    exact ⟨by rw [HKN.out]; rfl, HB.out⟩
  | false =>
    rw [hT] at HS HKN
    go_enter Tryz.func21, Tryz.ntmps21
    go_wp2_with (first | (at_lookup; refine wp_mlook rfl _ _ 65 rfl 38 ke_str Tryz.underlying65 (hze _) k HK.out rfl hmt.out rfl ?_; rw [HS.out, HE.out]) | (at_lookup; refine wp_mlook rfl _ _ 66 rfl 86 ke_str Tryz.underlying66 (hzu _) k HK.out rfl hmg.out rfl ?_; rw [HU.out, HG.out]))
    try go_ret
    exact ⟨by rw [HKN.out]; rfl, HB.out⟩
set_option maxRecDepth 100000 in
set_option maxHeartbeats 4000000 in
theorem ix_get {B n : Nat} {I : Ix} {X : FX} {w : World} (h : IxAt B w I n X) (k : ByteArray) (hk : okS k) : Calls Tryz.prog 20 #[.pointer (some ⟨I.xb, 0, none⟩), .string k] w fun e w' => e = .returned (.tuple #[enV ((X.T k).getD en0), .int .i64 (X.getE k)]) ∧ Below w.heap.size w w' := by
  obtain ⟨c0, -, -, -⟩ := h.cells
  have hlt := h.lt (.inl rfl)
  have hze := en_zero
  have HS : Hid (((X.T k).map enV).isSome = (X.T k).isSome) := by unfold Hid; cases X.T k <;> rfl
  have HE := hide (en_get (X.T k))
  have HK := hide hk
  obtain ⟨e, he⟩ : ∃ e, (X.T k).getD en0 = e := ⟨_, rfl⟩
  have HZ : Hid ((X.T k).isSome = false → e = en0) := fun q => by rw [← he]; cases hh : X.T k <;> simp_all
  have HGE : Hid (X.getE k = if (X.T k).isSome then 0 else 9) := rfl
  rw [he] at HE ⊢
  obtain ⟨ek, ev, eo, el, ed⟩ := e
  simp only [enV] at HE ⊢
  have hb1 : Below w.heap.size w (w.alloc (.cells #[.string ByteArray.empty, .int .i64 0, .int .i64 0, .int .i64 0, .string ByteArray.empty] 38)) := (Below.refl _ _).alloc (Nat.le_refl _) _
  have h1 := h.below hb1
  have hmt := hide h1.t
  have d0 := h1.cells.1
  have HB := hide hb1
  have HK0 : Hid ((w.alloc (.cells #[.string ByteArray.empty, .int .i64 0, .int .i64 0, .int .i64 0, .string ByteArray.empty] 38)).heap[w.heap.size]? = some (.cells #[.string ByteArray.empty, .int .i64 0, .int .i64 0, .int .i64 0, .string ByteArray.empty] 38 (0, 0))) := heap_alloc_new _ _
  clear h hk he h1 hb1 c0
  go_enter Tryz.func20, Tryz.ntmps20
  cases hT : (X.T k).isSome with
  | true =>
    rw [hT] at HS HGE
    go_wp2_with (first | (at_lookup; refine wp_mlook rfl _ _ 65 rfl 38 ke_str Tryz.underlying65 (hze _) k HK.out rfl hmt.out rfl ?_; rw [HS.out, HE.out]))
    refine bodyPost_ret (res_en rfl _ _ w.heap.size _ rfl rfl ((Below.heap_alloc _ _ _ (by rw [World.size_alloc]; omega)).trans (heap_alloc_new _ _))) rfl ?_
    exact ⟨by rw [HGE.out]; rfl, ((Below.refl _ _).alloc (Nat.le_refl _) _).alloc (by rw [World.size_alloc]; omega) _⟩
  | false =>
    rw [hT] at HS HGE
    have hz := HZ.out hT
    simp only [en0, En.mk.injEq] at hz
    obtain ⟨rfl, rfl, rfl, rfl, rfl⟩ := hz
    go_wp2_with (first | (at_lookup; refine wp_mlook rfl _ _ 65 rfl 38 ke_str Tryz.underlying65 (hze _) k HK.out rfl hmt.out rfl ?_; rw [HS.out, HE.out]))
    refine bodyPost_ret (res_en rfl _ _ w.heap.size _ rfl rfl ((Below.heap_alloc _ _ _ (by rw [World.size_alloc]; omega)).trans (heap_alloc_new _ _))) rfl ?_
    exact ⟨by rw [HGE.out]; rfl, ((Below.refl _ _).alloc (Nat.le_refl _) _).alloc (by rw [World.size_alloc]; omega) _⟩
end Go.Proofs.YtonhmihmnkicdaaGreat
