/- What code.Fill's loop collects, and what Fill answers. -/
import Derived.Test.YteiddjjakemklabCdPresent
import Derived.Stop.RegionWithIn
namespace Go.Proofs.Yteiddjjakemklab
open Go.RowKit Go.Shelf
attribute [local go_sem] Oper.semAt_some
theorem row_same {W W' : World} {base : Nat} {e : TypeId} {size : Nat} {v : Value} {n : Nat} {xs : List Value} (h : W.ownsRow base e size v n xs) (hs : ∀ g, v.ownBlock = some g → W'.heap[g]? = W.heap[g]?) : W'.ownsRow base e size v n xs := by
  obtain ⟨h1, h2⟩ := h
  refine ⟨h1, ?_⟩
  rcases h2 with h2 | ⟨g, cap, cur, rfl, hg, hh, r⟩
  · exact .inl h2
  · exact .inr ⟨g, cap, cur, rfl, hg, by rw [hs g rfl]; exact hh, r⟩
theorem row_base {W : World} {base : Nat} {e : TypeId} {size : Nat} {v : Value} {n : Nat} {xs : List Value} (h : W.ownsRow base e size v n xs) {g : Nat} (hg : v.ownBlock = some g) : base ≤ g ∧ ∃ cur, W.heap[g]? = some (.cells cur e (0, 0)) := by
  rcases h.2 with ⟨rfl, _⟩ | ⟨g', cap, cur, rfl, hb, hh, _⟩
  · cases hg
  · obtain rfl : g' = g := by simpa [Value.ownBlock] using hg
    exact ⟨hb, cur, hh⟩
/-- Q, but nothing at a panic -/
def Calm (Q : Exit → Act → World → Prop) : Exit → Act → World → Prop
  | .panic _, _, _ => False
  | e, a, w => Q e a w
theorem calm_imp {Q : Exit → Act → World → Prop} : ∀ (e : Exit) (a : Act) (w : World), Calm Q e a w → Q e a w := fun e a w h => by
  cases e <;> first | exact h | exact (h : False).elim
theorem wpIn_calm {F : Fence} {n : Nat} {P : Program} {c : Code} {Q : Exit → Act → World → Prop} {a : Act} {w : World} (h : c.wpIn F n P (Calm Q) a w) : c.wpIn F n P Q a w :=
  wpIn_mono h calm_imp
theorem calm_normal {Q : Exit → Act → World → Prop} {a : Act} {w : World} (h : Q .normal a w) : Calm Q .normal a w := h
/-- what 'v = append(v, ..)' on a variable in a box leaves -/
structure Appd (W W' : World) (bi : Nat) (v : Value) : Prop where
  os : W'.os = W.os
  tape : W'.tape = W.tape
  output : W'.output = W.output
  size : W.heap.size ≤ W'.heap.size
  others : KeepsOthers W W'
  block : ∀ k, k < W.heap.size → some k ≠ v.ownBlock → k ≠ bi → W'.heap[k]? = W.heap[k]?
theorem appd {W w1 : World} {n₀ bi : Nat} {t e : TypeId} {v v' : Value} {k m : Nat} {xs ys : List Value} {tmp : Obj}
    (hv : Boxed W bi t v) (hte : t ≠ e) (hrow : W.ownsRow n₀ e 1 v k xs) (hown' : w1.ownsRow n₀ e 1 v' m ys) (hgrow : (W.alloc tmp).grownBy w1 v.ownBlock) :
    Boxed w1 bi t v ∧ Boxed (w1.setCell ⟨bi, 0, none⟩ v') bi t v' ∧ (w1.setCell ⟨bi, 0, none⟩ v').ownsRow n₀ e 1 v' m ys ∧ Appd W (w1.setCell ⟨bi, 0, none⟩ v') bi v := by
  have hv1 : Boxed w1 bi t v := (hv.alloc tmp).kept hgrow (hv.not_row hte hrow)
  have hsz := hgrow.size
  rw [World.size_alloc] at hsz
  refine ⟨hv1, hv1.set v', hown'.kept (grownBy_setCell' w1 bi v') (.inr (hv1.not_row hte hown').symm), hgrow.os, hgrow.tape, hgrow.output, ?_, ?_, ?_⟩
  · simp [World.setCell]; omega
  · refine ((KeepsOthers.alloc W tmp).trans (KeepsOthers.of_grownBy hgrow fun j o ej hj => ?_)).trans (KeepsOthers.setCell _ _ _)
    rcases (hrow.alloc tmp).2 with ⟨rfl, _⟩ | ⟨g, cap, cur, rfl, _, hgb, _⟩
    · simp [Value.ownBlock] at ej
    · obtain rfl : g = j := by simpa [Value.ownBlock] using ej
      rw [hgb] at hj; cases hj; rfl
  · intro j hj h1 h2
    rw [Below.heap_setCell _ _ _ _ (by simpa using h2), hgrow.block j (by simp; omega) h1]
    exact Below.heap_alloc _ _ _ hj
theorem Appd.box {W W' : World} {bi : Nat} {v : Value} (h : Appd W W' bi v) {b : Nat} {t e : TypeId} {u : Value} (hb : Boxed W b t u) (hne : b ≠ bi) (hte : t ≠ e) {n₀ k : Nat} {xs : List Value} (hr : W.ownsRow n₀ e 1 v k xs) : Boxed W' b t u :=
  (h.block b hb.lt (hb.not_row hte hr) hne).trans hb
theorem Appd.row {W W' : World} {bi : Nat} {v : Value} (h : Appd W W' bi v) {n₀ k : Nat} {t e e2 : TypeId} {xs : List Value} (hr : W.ownsRow n₀ e 1 v k xs) {u w0 : Value} {k2 : Nat} {ys : List Value} (hr2 : W.ownsRow n₀ e2 1 u k2 ys) (hb : Boxed W bi t w0) (hee : e ≠ e2) (hte : t ≠ e2) : W'.ownsRow n₀ e2 1 u k2 ys := by
  refine row_same hr2 fun g hg => ?_
  obtain ⟨_, cur, hh⟩ := row_base hr2 hg
  refine h.block g (Array.getElem?_eq_some_iff.1 hh).1 (fun e' => ?_) (fun e' => ?_)
  · obtain ⟨_, cur', hh'⟩ := row_base hr e'.symm
    rw [hh] at hh'; cases hh'; exact hee rfl
  · subst e'
    have := (show W.heap[g]? = _ from hb).symm.trans hh
    simp at this; exact hte this.2
theorem Appd.kp {W W' : World} {bi : Nat} {v : Value} (h : Appd W W' bi v) {n₀ bt : Nat} {k : Nat} {e : TypeId} {xs : List Value} (hr : W.ownsRow n₀ e 1 v k xs) (hn : n₀ ≤ W.heap.size) (b2 : Nat) (hb2 : bi = b2 ∨ bi = bt) : Kp n₀ b2 bt W W' :=
  ⟨h.size, fun j hj h1 h2 => h.block j (by omega) (fun e' => by have := (row_base hr e'.symm).1; omega) (by omega)⟩
theorem Appd.below {W W' w : World} {bi B n₀ : Nat} {v : Value} (h : Appd W W' bi v) {k : Nat} {e : TypeId} {xs : List Value} (hr : W.ownsRow n₀ e 1 v k xs) (hB : Below B w W) (h1 : B ≤ bi) (h2 : B ≤ n₀) (h3 : B ≤ W.heap.size) : Below B w W' :=
  hB.trans ⟨h.os, h.tape, h.output, h.size, fun j hj => h.block j (by omega) (fun e' => by have := (row_base hr e'.symm).1; omega) (by omega)⟩
theorem row_strs {W : World} {base : Nat} {v : Value} {l : List ByteArray} {xs : List Value} {n : Nat} (h : W.ownsRow base 9 1 v n xs) (hx : xs = l.map Value.string) (hn : l.length = n) :
    ∃ a cap, v = .slice a n cap ∧ n ≤ cap ∧ cap ≤ maxLen ∧ (n = 0 ∨ ∃ g, a = some ⟨g, 0, none⟩ ∧ base ≤ g ∧ g < W.heap.size) ∧ StrsAt W a l := by
  subst hx
  rcases h.2 with ⟨rfl, rfl⟩ | ⟨g, cap, cur, rfl, hb, hh, h1, h2, _, h4⟩
  · obtain rfl : l = [] := by simpa using hn
    exact ⟨none, 0, rfl, Nat.le_refl _, by simp [maxLen], .inl rfl, .inl rfl⟩
  · refine ⟨some ⟨g, 0, none⟩, cap, rfl, h1, h2, .inr ⟨g, rfl, hb, lt_of_block hh⟩, .inr ⟨g, 0, rfl, lt_of_block hh, fun i s hs => ?_⟩⟩
    have hi : i < n := by have := (List.getElem?_eq_some_iff.1 hs).1; omega
    rw [Nat.zero_add, cell_of_block hh, ← Array.getElem?_toList]
    have e : (cur.toList.take (n * 1))[i]? = some (.string s) := by rw [h4, List.getElem?_map, hs]; rfl
    rw [List.getElem?_take, if_pos (by omega)] at e
    exact e
theorem row_ints {W : World} {base : Nat} {v : Value} {l : List Nat} {xs : List Value} {n : Nat} (h : W.ownsRow base 3 1 v n xs) (hx : xs = l.map fun m : Nat => Value.int .i64 (m : Int)) (hn : l.length = n) :
    ∃ a cap, v = .slice a n cap ∧ n ≤ cap ∧ cap ≤ maxLen ∧ (n = 0 ∨ ∃ g, a = some ⟨g, 0, none⟩ ∧ base ≤ g ∧ g < W.heap.size) ∧ IntsAt W a l := by
  subst hx
  rcases h.2 with ⟨rfl, rfl⟩ | ⟨g, cap, cur, rfl, hb, hh, h1, h2, _, h4⟩
  · obtain rfl : l = [] := by simpa using hn
    exact ⟨none, 0, rfl, Nat.le_refl _, by simp [maxLen], .inl rfl, .inl rfl⟩
  · refine ⟨some ⟨g, 0, none⟩, cap, rfl, h1, h2, .inr ⟨g, rfl, hb, lt_of_block hh⟩, .inr ⟨g, 0, rfl, lt_of_block hh, fun i s hs => ?_⟩⟩
    have hi : i < n := by have := (List.getElem?_eq_some_iff.1 hs).1; omega
    rw [Nat.zero_add, cell_of_block hh, ← Array.getElem?_toList]
    have e : (cur.toList.take (n * 1))[i]? = some (.int .i64 (s : Int)) := by rw [h4, List.getElem?_map, hs]; rfl
    rw [List.getElem?_take, if_pos (by omega)] at e
    exact e
theorem int_info : (Try.prog.info? 3).map (fun i => (i.zero, i.size, i.bytes)) = some (some (.int .i64 0), 1, 8) := by kernel_rfl
def FillLeft (w : World) (f : Nat → ByteArray) (e : Ending) (w' : World) : Prop :=
  ∃ g, e = .returned (.tuple #[.slice (some ⟨g, 0, none⟩) 9 9, .int .i64 0]) ∧ w.heap.size ≤ g ∧ FnAt w' g 9 9 (fun i => .string (f i)) ∧ Below w.heap.size w w'
def FillPost (w : World) (ls : List ByteArray) (hv : List Bool) (f : Nat → ByteArray) (e : Ending) (w' : World) : Prop :=
  (al ((selTo ls hv 9).map (·.2)) = false ∧ e = .returned (.tuple #[.slice none 0 0, .int .i64 1]) ∧ Below w.heap.size w w') ∨
  (al ((selTo ls hv 9).map (·.2)) = true ∧ (selTo ls hv 9).length < 6 ∧ e = .returned (.tuple #[.slice none 0 0, .int .i64 2]) ∧ Below w.heap.size w w') ∨
  (al ((selTo ls hv 9).map (·.2)) = true ∧ 6 ≤ (selTo ls hv 9).length ∧ FillLeft w f e w')
def FillI (w : World) (pre : List (Nat × ByteArray)) (W : World) : Prop :=
  (((∃ v, Boxed W w.heap.size 43 v ∧ W.ownsRow (w.heap.size + 4) 3 1 v pre.length (pre.map fun x => .int .i64 (x.1 : Int)) ∧ True) ∧
   (∃ v, Boxed W (w.heap.size + 1) 30 v ∧ W.ownsRow (w.heap.size + 4) 9 1 v pre.length (pre.map fun x => .string x.2) ∧ True)) ∧ Below w.heap.size w W) ∧ w.heap.size + 4 ≤ W.heap.size
theorem len6 (f : Nat → ByteArray) : ((List.range 6).map f).length = 6 := by simp
theorem size6 (M : Cd.Mat) (l : List ByteArray) (L : Nat) : ∀ s ∈ (List.range 6).map (fun j => sumS (M j) l L), s.size = L := by
  intro s hs
  obtain ⟨j, _, rfl⟩ := List.mem_map.1 hs
  exact mkS_size _ _
theorem enc_of_solve (b g3 L : Nat) (M : Cd.Mat) (l : List ByteArray) (w3 : World) (ht : TabAt w3 b) (hf : FnAt w3 g3 9 6 (fun i => .string (sumS (M i) l L))) (hLb : L ≤ 1000) :
    Calls Try.prog 12 #[.pointer (some ⟨b, 0, none⟩), .slice (some ⟨g3, 0, none⟩) 6 6] w3 (EncLeft w3 ((List.range 6).map fun j => sumS (M j) l L) L) := by
  have hs : StrsAt w3 (some ⟨g3, 0, none⟩) ((List.range 6).map fun j => sumS (M j) l L) := FnAt.strs hf
  have h1 := size6 M l L
  have h2 := len6 (fun j => sumS (M j) l L)
  generalize (List.range 6).map (fun j => sumS (M j) l L) = l3 at *
  exact encode_any b (some ⟨g3, 0, none⟩) 6 L l3 w3 ht h2 hs h1 hLb
theorem fn_putObj {w : World} {b D : Nat} {t : TypeId} {n : Nat} {g : Nat → Value} (h : FnAt w b t n g) (hne : b ≠ D) (o : Obj) : FnAt (w.putObj D o) b t n g := (World.putObj_heap_other hne).trans h
theorem sel_lt {ls : List ByteArray} {hv : List Bool} {i : Nat} (h : i ∈ (selTo ls hv 9).map (·.1)) : i < 9 := by
  have : ∀ k, k ≤ 9 → ∀ i ∈ (selTo ls hv k).map (·.1), i < k := by
    intro k
    induction k with
    | zero => intro _ i hi; simp [selTo] at hi
    | succ k ih =>
      intro hk i hi
      simp only [selTo, List.map_append, List.mem_append] at hi
      rcases hi with hi | hi
      · have := ih (by omega) i hi; omega
      · split at hi
        · simp at hi; omega
        · simp at hi
  exact this 9 (by omega) i h
set_option maxRecDepth 100000 in
set_option maxHeartbeats 1500000 in
theorem fill_any (b bs o bh oh caps caph L : Nat) (ls : List ByteArray) (hv : List Bool) (S : Nat → Cd.Mat × Cd.Mat) (R : Nat → Nat) (w : World) (ht : TabAt w b)
    (hls : ls.length = 9) (hhv : hv.length = 9) (hbs : bs < w.heap.size) (hbh : bh < w.heap.size) (hC : 6 ≤ (selTo ls hv 9).length → Clears (rowsOf (((selTo ls hv 9).map (·.1)).take 6)) S R)
    (hL : al ((selTo ls hv 9).map (·.2)) = true → ∀ s ∈ (selTo ls hv 9).map (·.2), s.size = L) (hLb : L ≤ 1000)
    (hcs : ∀ (i : Nat) (s : ByteArray), ls[i]? = some s → w.cell? ⟨bs, o + i, none⟩ = some (.string s)) (hch : ∀ (i : Nat) (s : Bool), hv[i]? = some s → w.cell? ⟨bh, oh + i, none⟩ = some (.bool s)) :
    Calls Try.prog 17 #[.pointer (some ⟨b, 0, none⟩), .slice (some ⟨bs, o, none⟩) 9 caps, .slice (some ⟨bh, oh, none⟩) 9 caph] w (FillPost w ls hv fun i => sh ((List.range 6).map fun j => sumS ((S 6).2 j) (((selTo ls hv 9).map (·.2)).take 6) L) L i) := by
  have HT := hide ht
  have HLS := hide hls
  have HHV := hide hhv
  have HCS := hide hcs
  have HCH := hide hch
  have HC := hide hC
  have HLL := hide hL
  clear ht hls hhv hcs hch hC hL
  obtain ⟨i0, hi, hz0, hz1, hz2⟩ := info_parts int_info
  obtain ⟨j0, hj, hy0, hy1, hy2⟩ := info_parts str_info
  refine (callsIn_wide (n := 5)).1 ?_
  refine callsIn_of_wp_marks Try.func17 rfl trivial ?_ rfl
  simp only [Try.ntmps17, List.size_toArray, List.length_cons, List.length_nil, Nat.reduceAdd, Nat.reduceSub, Array.replicate_succ, Array.replicate_zero, List.push_toArray, List.append_toArray, List.nil_append, List.cons_append]
  gi_wp2_with (refine ⟨trivial, ?_⟩; gi_at_call 29; refine (present_in Fence.wide _ trivial rfl _ _ _ _ _ _ _).mono ?_; rintro e w' ⟨rfl, rfl⟩)
  have hB0 : Below w.heap.size w ((((w.alloc (.cells #[.slice none 0 0] 43)).alloc (.cells #[.slice none 0 0] 30)).alloc (.cells #[.slice (some ⟨bs, o, none⟩) 9 caps] 30)).alloc (.cells #[.slice (some ⟨bh, oh, none⟩) 9 caph] 38)) :=
    ((((Below.refl _ w).alloc (Nat.le_refl _) _).alloc (by simp) _).alloc (by simp; omega) _).alloc (by simp; omega) _
  have b1 := Boxed.new w 43 (.slice none 0 0)
  have b2 := Boxed.new (w.alloc (.cells #[.slice none 0 0] 43)) 30 (.slice none 0 0)
  rw [World.size_alloc] at b2
  have b3 := Boxed.new ((w.alloc (.cells #[.slice none 0 0] 43)).alloc (.cells #[.slice none 0 0] 30)) 30 (.slice (some ⟨bs, o, none⟩) 9 caps)
  rw [World.size_alloc, World.size_alloc] at b3
  have b4 := Boxed.new (((w.alloc (.cells #[.slice none 0 0] 43)).alloc (.cells #[.slice none 0 0] 30)).alloc (.cells #[.slice (some ⟨bs, o, none⟩) 9 caps] 30)) 38 (.slice (some ⟨bh, oh, none⟩) 9 caph)
  rw [World.size_alloc, World.size_alloc, World.size_alloc] at b4
  refine wpIn_rangeFunc_ownG (n := 5) (F := Fence.wide) rfl (by omega) (gf := 34) (lb := #[.pointer (some ⟨w.heap.size + 1 + 1, 0, none⟩), .pointer (some ⟨w.heap.size + 1 + 1 + 1, 0, none⟩)]) rfl trivial (enters_of Try.func34 (by kernel_rfl) rfl)
    (present_stops Fence.wide (5 - 1) trivial rfl (by omega) (w.heap.size + 1 + 1) (w.heap.size + 1 + 1 + 1) (w.heap.size + 4) w.heap.size (w.heap.size + 1) bs o bh oh caps caph ls hv (by omega) (by omega) (by omega) (by omega) HLS.out HHV.out _ (by simp) (b3.alloc _).cell b4.cell
      (fun i s hs => (hB0.cell (p := ⟨bs, o + i, none⟩) hbs).trans (HCS.out i s hs)) (fun i s hs => (hB0.cell (p := ⟨bh, oh + i, none⟩) hbh).trans (HCH.out i s hs)))
    Kp.trans (kp_put (by simp)) (Below.refl _ _) (fun _ => rfl) (FillI w) (fun _ _ _ => False)
    (OwnFrom.and (OwnFrom.and (OwnFrom.and (Own.from (holdsRow_own (w.heap.size + 4) w.heap.size 43 3 1 (fun pre : List (Nat × ByteArray) => pre.length) (fun pre => pre.map fun x => .int .i64 (x.1 : Int)) (fun _ _ => True)) _) (Own.from (holdsRow_own (w.heap.size + 4) (w.heap.size + 1) 30 9 1 (fun pre : List (Nat × ByteArray) => pre.length) (fun pre => pre.map fun x => .string x.2) (fun _ _ => True)) _)) (ownFrom_below (Nat.le_refl _) (by simp; omega))) (fun _ _ _ _ h hg _ => Nat.le_trans h hg.size))
    (fun _ _ _ _ _ hs _ _ => hs)
    ⟨⟨⟨⟨_, ((b1.alloc _).alloc _).alloc _, World.ownsRow_nil _ _ _ _, trivial⟩, ⟨_, (b2.alloc _).alloc _, World.ownsRow_nil _ _ _ _, trivial⟩⟩, hB0⟩, by simp⟩
    (fun x => { tmps := #[.pointer (some ⟨b, 0, none⟩), .slice (some ⟨bs, o, none⟩) 9 caps, .slice (some ⟨bh, oh, none⟩) 9 caph, undef, undef, undef, .slice none 0 0, .int .i64 0, .pointer (some ⟨w.heap.size, 0, none⟩), .pointer (some ⟨w.heap.size + 1, 0, none⟩), .int .i64 (x.1 : Int), .string x.2, undef, undef, .pointer (some ⟨b, 0, none⟩), .bool false, .bool false, .slice (some ⟨bs, o, none⟩) 9 caps, .int .i64 9, .bool false, .bool false, .bool false, .slice (some ⟨bh, oh, none⟩) 9 caph, .int .i64 9, .bool false, .bool false, .slice (some ⟨bs, o, none⟩) 9 caps, .slice (some ⟨bh, oh, none⟩) 9 caph, .func (.func 34) #[] #[.pointer (some ⟨w.heap.size + 1 + 1, 0, none⟩), .pointer (some ⟨w.heap.size + 1 + 1 + 1, 0, none⟩)], .int .i64 (x.1 : Int), .string x.2, undef, undef, undef, undef, undef, undef, undef, undef, undef, undef, undef, undef, undef, undef, undef, undef, undef, undef, undef, undef, undef, undef, undef, undef, undef, undef, undef, undef, undef, undef, undef], defers := [] }) ?assign ?body ?done ?stop
  case assign =>
    intro l x W K hK
    simp only [encP]
    gi_wp2
    exact hK
  case body =>
    rintro l pre x W ⟨⟨⟨⟨v1, hv1, hr1, _⟩, ⟨v2, hv2, hr2, _⟩⟩, hB⟩, hsz⟩ hlt
    have hc := hv1.cell
    have HV1 := hide hv1
    have HR1 := hide hr1
    have HV2 := hide hv2
    have HR2 := hide hr2
    have HB := hide hB
    clear hv1 hr1 hv2 hr2 hB
    gi_wp2_with (first | (gi_at_builtin; refine wpListIn_append_own _ rfl (.tmp 31) (.tmp 33) 43 rfl (w.heap.size + 4) 3 i0 (.int .i64 0) 1 8 Try.underlying43 hi hz0 hz1 hz2 rfl (by decide) _ _ _ rfl (HR1.out.alloc _) ⟨W.heap.size, 0, none⟩ 1 1 [.int .i64 (x.1 : Int)] rfl rfl (cell_one_new _ _ _) (by simp [Value.oneCell']) (by unfold maxLen; omega) (by omega) (by simp; omega) ?_; intro v' w1 hown' hgrow hn'; clear hn'; obtain ⟨g', cap', rfl⟩ := ownsRow_succ hown'; obtain ⟨q1, q2, q3, q4⟩ := appd HV1.out (by decide) HR1.out hown' hgrow; have hc1 := q1.cell; have hf1 := q1.frozen; have k2 := (q4.box HV2.out (by omega) (by decide) HR1.out); have k3 := q4.row HR1.out HR2.out HV1.out (by decide) (by decide); have hc2 := k2.cell; have hs1 := q4.size) | (gi_at_builtin; refine wpListIn_append_own _ rfl (.tmp 35) (.tmp 37) 30 rfl (w.heap.size + 4) 9 j0 (.string ByteArray.empty) 1 16 Try.underlying30 hj hy0 hy1 hy2 rfl (by decide) _ _ _ rfl (k3.alloc _) ⟨w1.heap.size, 0, none⟩ 1 1 [.string x.2] rfl rfl (by have := cell_one_new (w1.setCell ⟨w.heap.size, 0, none⟩ (.slice (some ⟨g', 0, none⟩) (pre.length + 1) cap')) (.string x.2) 9; simpa using this) (by simp [Value.oneCell']) (by unfold maxLen; omega) (by omega) (by simp at hs1; simp; omega) ?_; intro v'' w2 hown2 hgrow2 hn2; clear hn2; obtain ⟨g2, cap2, rfl⟩ := ownsRow_succ hown2; obtain ⟨r1, r2, r3, r4⟩ := appd k2 (by decide) k3 hown2 hgrow2; have hc3 := r1.cell; have hf3 := r1.frozen))
    refine ⟨(q4.others.trans r4.others).from _, (q4.kp HR1.out hsz _ (.inl rfl)).trans (r4.kp k3 (Nat.le_trans hsz q4.size) _ (.inr rfl)), ⟨⟨⟨_, r4.box q2 (by omega) (by decide) k3, ?_, trivial⟩, ⟨_, r2, ?_, trivial⟩⟩, ?_⟩, Nat.le_trans hsz (Nat.le_trans q4.size r4.size)⟩
    · have := r4.row k3 q3 k2 (by decide) (by decide)
      simpa using this
    · simpa using r3
    · exact r4.below k3 (q4.below HR1.out HB.out (Nat.le_refl _) (by omega) (by omega)) (by omega) (by omega) (by have := q4.size; omega)
  case done =>
    rintro D ys W hD rfl ⟨⟨⟨⟨v1, hv1, hr1, _⟩, ⟨v2, hv2, hr2, _⟩⟩, hB⟩, hsz⟩ hK
    have hln : (selTo ls hv 9).length ≤ 9 := selTo_len ls hv 9
    obtain ⟨a1, c1, rfl, hn1, hm1, hg1, hI1⟩ := row_ints (l := (selTo ls hv 9).map (·.1)) hr1 (by simp) (by simp)
    obtain ⟨a2, c2, rfl, hn2, hm2, hg2, hI2⟩ := row_strs (l := (selTo ls hv 9).map (·.2)) hr2 (by simp) (by simp)
    have hc1 := hv1.cell
    have hc2 := hv2.cell
    have HI1 := hide hI1
    have HI2 := hide hI2
    have HG1 := hide hg1
    have HG2 := hide hg2
    have HB := hide hB
    have HK := hide hK
    have HD : Hid (D < W.heap.size ∧ w.heap.size + 4 ≤ D) := ⟨(Array.getElem?_eq_some_iff.1 hK).1, by simpa using hD⟩
    clear hr1 hr2 hv1 hv2 hI1 hI2 hg1 hg2 hB hK hD
    generalize hsel : selTo ls hv 9 = sel at *
    have HSEL := hide hsel
    clear hsel b1 b2 b3 b4 hB0
    have hbelow : ∀ w', Below W.heap.size W w' → Below w.heap.size w (w'.putObj D (.deferred none)) := fun w' hb =>
      (HB.out.trans (hb.mono (by omega))).trans (belowK_b (w := w) (Nat.le_refl _) w' D (.deferred (some [])) _ (by have := HD.out.2; omega) ((hb.block D HD.out.1).trans HK.out) rfl rfl)
    have HBEL := hide hbelow
    clear hbelow
    by_cases hal : al (sel.map (·.2)) = false
    · have HAL := hide hal
      clear hal
      gi_wp2_with (refine ⟨trivial, ?_⟩; gi_at_call 23; refine (callsIn_wide.2 (alike_any a2 sel.length c2 (sel.map (·.2)) _ (by simp) (by omega) HI2.out)).mono ?_; rintro e w' ⟨he, rfl⟩; rw [HAL.out] at he; subst he)
      refine ⟨by simp, .inl ⟨_, _, rfl, run_takeDeferred HK.out, ?_⟩⟩
      exact ⟨_, results_tmp2 rfl _ _ _, .inl ⟨by rw [HSEL.out]; exact HAL.out, rfl, HBEL.out _ (Below.refl _ _)⟩⟩
    · have hal' : al (sel.map (·.2)) = true := by simpa using hal
      have HAL := hide hal'
      clear hal hal'
      by_cases h6 : sel.length < 6
      · gi_wp2_with (refine ⟨trivial, ?_⟩; gi_at_call 23; refine (callsIn_wide.2 (alike_any a2 sel.length c2 (sel.map (·.2)) _ (by simp) (by omega) HI2.out)).mono ?_; rintro e w' ⟨he, rfl⟩; rw [HAL.out] at he; subst he)
        refine ⟨by simp, .inl ⟨_, _, rfl, run_takeDeferred HK.out, ?_⟩⟩
        exact ⟨_, results_tmp2 rfl _ _ _, .inr (.inl ⟨by rw [HSEL.out]; exact HAL.out, by rw [HSEL.out]; exact h6, rfl, HBEL.out _ (Below.refl _ _)⟩)⟩
      · rcases HG1.out with hg1 | ⟨g1, rfl, hb1, hl1⟩
        · omega
        rcases HG2.out with hg2 | ⟨g2, rfl, hb2, hl2⟩
        · omega
        have h6' : 6 ≤ sel.length := by omega
        clear h6
        gi_wp2_with (refine ⟨trivial, ?_⟩; gi_at_call 23; refine (callsIn_wide.2 (alike_any (some ⟨g2, 0, none⟩) sel.length c2 (sel.map (·.2)) _ (by simp) (by omega) HI2.out)).mono ?_; rintro e w' ⟨he, rfl⟩; rw [HAL.out] at he; subst he)
        have hti : IntsAt W.drew (some ⟨g1, 0, none⟩) ((sel.map (·.1)).take 6) := by
          rcases HI1.out with h | ⟨b', o', hb', hlt', hc'⟩
          · simp at h; simp [h] at h6'
          · cases hb'
            exact .inr ⟨_, _, rfl, hlt', fun i n hn => hc' i n (by rw [List.getElem?_take] at hn; split at hn <;> simp_all)⟩
        have hts : StrsAt W.drew (some ⟨g2, 0, none⟩) ((sel.map (·.2)).take 6) := by
          rcases HI2.out with h | ⟨b', o', hb', hlt', hc'⟩
          · simp at h; simp [h] at h6'
          · cases hb'
            exact .inr ⟨_, _, rfl, hlt', fun i n hn => hc' i n (by rw [List.getElem?_take] at hn; split at hn <;> simp_all)⟩
        have HTI := hide hti
        have HTS := hide hts
        clear hti hts
        have h9 : ∀ i ∈ (sel.map (·.1)).take 6, i < 9 := by rw [← HSEL.out]; exact fun i hi => sel_lt (List.mem_of_mem_take hi)
        have H9 := hide h9
        clear h9
        have hn1' : (6 : Int) ≤ (c1 : Int) := by omega
        have hn2' : (6 : Int) ≤ (c2 : Int) := by omega
        refine wpIn_calm ?_
        gi_region_with (refine ⟨trivial, ?_⟩; gi_at_call 30; refine (callsIn_wide.2 (solve_any b (some ⟨g1, 0, none⟩) (some ⟨g2, 0, none⟩) c1 c2 L ((sel.map (·.1)).take 6) ((sel.map (·.2)).take 6) S R _ (by exact (HT.out.below HB.out HT.out.lt).drew) (by simp; omega) HTI.out H9.out (HC.out h6') (by simp; omega) HTS.out (fun s hs => HLL.out HAL.out s (List.mem_of_mem_take hs)) hLb)).mono ?_; rintro e w3 ⟨g3, rfl, hg3, hf3, hb3⟩)
        all_goals
          refine calm_normal ?_
          have hbw3 : Below W.heap.size W w3 := (Below.refl _ W).drew.trans hb3
          have HT3 := hide ((HT.out.below HB.out HT.out.lt).below hbw3 (Nat.lt_of_lt_of_le HT.out.lt HB.out.size))
          have HE := hide (enc_of_solve b g3 L (S 6).2 _ w3 HT3.out hf3 hLb)
          have HW3 := hide hbw3
          clear hf3 hb3 hbw3 hg3
          gi_wp2_with fail
          refine ⟨trivial, ?_⟩
          refine (callsIn_wide.2 HE.out).mono ?_
          rintro e w4 ⟨rfl, hf4, hb4⟩
          gi_wp2
          have hbw4 : Below W.heap.size W w4 := HW3.out.trans (hb4.mono HW3.out.size)
          refine ⟨by simp, .inl ⟨_, _, rfl, run_takeDeferred ((hbw4.block D HD.out.1).trans HK.out), ?_⟩⟩
          refine ⟨_, results_tmp2 rfl _ _ _, .inr (.inr ⟨by rw [HSEL.out]; exact HAL.out, by rw [HSEL.out]; exact h6', w3.heap.size, rfl, by have := HW3.out.size; have := HB.out.size; omega, ?_, HBEL.out _ hbw4⟩)⟩
          have hne : w3.heap.size ≠ D := by have := HD.out.1; have := HW3.out.size; omega
          rw [← HSEL.out] at hf4
          exact fn_putObj hf4 hne _
  case stop =>
    rintro D c pre W _ _ h _
    exact h.elim
end Go.Proofs.Yteiddjjakemklab
