/- One disk of the twelve is changed. -/
import Derived.Test.YtnpioaidbmllkaaDkMem
import Derived.Deep.MidRow
namespace Go.Proofs.Ytnpioaidbmllkaa
open Go.RowKit
def upd (D : Nat → Dk) (d : Nat) (x : Dk) : Nat → Dk := fun e => if e = d then x else D e
theorem upd_at (D : Nat → Dk) (d : Nat) (x : Dk) : upd D d x d = x := if_pos rfl
theorem upd_ne {D : Nat → Dk} {d e : Nat} {x : Dk} (h : e ≠ d) : upd D d x e = D e := if_neg h
theorem upd_same (D : Nat → Dk) (d : Nat) : upd D d (D d) = D := by funext e; unfold upd; split <;> simp_all
theorem upd_upd (D : Nat → Dk) (d : Nat) (x y : Dk) : upd (upd D d x) d y = upd D d y := by funext e; unfold upd; split <;> rfl
theorem bkV_upd {D : Nat → Dk} {d : Nat} {x : Dk} {q : Nat} : bkV (upd D d x) q = if q / 114 = d then dkV x (q % 114) else bkV D q := by
  unfold bkV upd; split <;> rfl
/-- what a change of one disk takes -/
theorem Bk.change {w w' : World} {b : Nat} {D : Nat → Dk} (h : Bk w b D) {d : Nat} (_ : d < 12) (x : Dk) (hmem : FnAt w' b 53 1368 (bkV (upd D d x))) (hrow : w'.ownsRow 0 72 2 x.wv x.ws.length (wtV x.ws))
    (hown : x.wv.ownBlock = none ∨ x.wv.ownBlock = (D d).wv.ownBlock ∨ ∃ g, x.wv.ownBlock = some g ∧ w.heap.size ≤ g) (hoth : ∀ k, k < w.heap.size → k ≠ b → some k ≠ (D d).wv.ownBlock → w'.heap[k]? = w.heap[k]?) (hsec : ∀ y ∈ x.ws, y.1 < 112)
    (hos : w'.os = w.os) (htape : w'.tape = w.tape) (hout : w'.output = w.output) (hsize : w.heap.size ≤ w'.heap.size) (hdl : d < 12) : Bk w' b (upd D d x) ∧ Step b D w (upd D d x) w' := by
  have hb := h.mem.lt
  have own : ∀ g, x.wv.ownBlock = some g → (D d).wv.ownBlock = some g ∨ w.heap.size ≤ g := fun g hg => by
    rcases hown with h1 | h1 | ⟨g', h1, h2⟩
    · rw [h1] at hg; cases hg
    · left; rw [← h1]; exact hg
    · rw [h1] at hg; cases hg; exact .inr h2
  have blk : ∀ e g, e < 12 → e ≠ d → (D e).wv.ownBlock = some g → w'.heap[g]? = w.heap[g]? := fun e g he hne hg =>
    hoth g (row_lt (h.rows e he) hg) (fun e' => h.off e he (by rw [hg, e'])) fun e' => hne (h.apart e d g he hdl hg e'.symm)
  refine ⟨⟨hmem, fun e he => ?_, fun e f g he hf h1 h2 => ?_, fun e he hx => ?_, fun e he y hy => ?_⟩, ⟨hos, htape, hout, hsize, fun k hk hn => hoth k hk (fun e' => hn (.inl e')) fun e' => hn (.inr ⟨d, hdl, e'.symm⟩), fun k hk => ?_⟩⟩
  · by_cases c : e = d
    · subst c; rw [upd_at]; exact hrow
    · rw [upd_ne c]; exact row_keep (h.rows e he) fun g hg => blk e g he c hg
  · by_cases c : e = d
    · by_cases c' : f = d
      · rw [c, c']
      · subst c
        rw [upd_at] at h1
        rw [upd_ne c'] at h2
        rcases own g h1 with h3 | h3
        · exact h.apart e f g he hf h3 h2
        · have := row_lt (h.rows f hf) h2; omega
    · rw [upd_ne c] at h1
      by_cases c' : f = d
      · subst c'
        rw [upd_at] at h2
        rcases own g h2 with h3 | h3
        · exact h.apart e f g he hf h1 h3
        · have := row_lt (h.rows e he) h1; omega
      · rw [upd_ne c'] at h2
        exact h.apart e f g he hf h1 h2
  · by_cases c : e = d
    · subst c
      rw [upd_at] at hx
      rcases own b hx with h3 | h3
      · exact h.off e he h3
      · omega
    · rw [upd_ne c] at hx; exact h.off e he hx
  · by_cases c : e = d
    · subst c; rw [upd_at] at hy; exact hsec y hy
    · rw [upd_ne c] at hy; exact h.secs e he y hy
  · rcases hk with rfl | ⟨e, he, hg⟩
    · exact .inl (.inl rfl)
    · by_cases c : e = d
      · subst c
        rw [upd_at] at hg
        rcases own k hg with h3 | h3
        · exact .inl (.inr ⟨e, he, h3⟩)
        · exact .inr h3
      · rw [upd_ne c] at hg; exact .inl (.inr ⟨e, he, hg⟩)
/-- a sector is written -/
theorem Bk.setSec {w : World} {b : Nat} {D : Nat → Dk} (h : Bk w b D) {d n : Nat} (hd : d < 12) (hn : n < 112) (s : ByteArray) :
    Bk (w.setCell ⟨b, d * 114 + 1 + n, none⟩ (.string s)) b (upd D d ⟨(D d).lost, fun m => if m = n then s else (D d).sec m, (D d).wv, (D d).ws⟩) ∧ Step b D w (upd D d ⟨(D d).lost, fun m => if m = n then s else (D d).sec m, (D d).wv, (D d).ws⟩) (w.setCell ⟨b, d * 114 + 1 + n, none⟩ (.string s)) := by
  refine h.change hd _ ((h.mem.set _ _).congr fun q hq => ?_) (row_keep (h.rows d hd) fun g hg => Below.heap_setCell _ _ _ _ fun e => h.off d hd (by rw [hg, e])) (.inr (.inl rfl)) (fun k _ hk _ => Below.heap_setCell _ _ _ _ hk) (h.secs d hd) rfl rfl rfl (by simp [World.setCell]) hd
  rw [bkV_upd]
  by_cases e : q = d * 114 + 1 + n
  · rw [if_pos e, if_pos (by omega)]
    unfold dkV
    rw [if_neg (by omega), if_neg (by omega)]
    show Value.string s = Value.string (if q % 114 - 1 = n then s else _)
    rw [if_pos (by omega)]
  · rw [if_neg e]
    by_cases c : q / 114 = d
    · rw [if_pos c]
      unfold bkV dkV
      rw [c]
      by_cases c0 : q % 114 = 0
      · rw [if_pos c0, if_pos c0]
      · rw [if_neg c0, if_neg c0]
        by_cases c1 : q % 114 = 113
        · rw [if_pos c1, if_pos c1]
        · rw [if_neg c1, if_neg c1]
          show _ = Value.string (if q % 114 - 1 = n then s else _)
          rw [if_neg (by omega)]
    · rw [if_neg c]
theorem wait_cells {D : Nat → Dk} {d : Nat} (v : Value) (l : List (Nat × ByteArray)) (q : Nat) : (if q = d * 114 + 113 then v else bkV D q) = bkV (upd D d ⟨(D d).lost, (D d).sec, v, l⟩) q := by
  rw [bkV_upd]
  by_cases e : q = d * 114 + 113
  · rw [if_pos e, if_pos (by omega)]
    unfold dkV
    rw [if_neg (by omega), if_pos (by omega)]
  · rw [if_neg e]
    by_cases c : q / 114 = d
    · rw [if_pos c]
      unfold bkV dkV
      rw [c]
      by_cases c0 : q % 114 = 0
      · rw [if_pos c0, if_pos c0]
      · rw [if_neg c0, if_neg c0, if_neg (by omega), if_neg (by omega)]
    · rw [if_neg c]
/-- nothing waits any more -/
theorem Bk.setNone {w : World} {b : Nat} {D : Nat → Dk} (h : Bk w b D) {d : Nat} (hd : d < 12) :
    Bk (w.setCell ⟨b, d * 114 + 113, none⟩ (.slice none 0 0)) b (upd D d ⟨(D d).lost, (D d).sec, .slice none 0 0, []⟩) ∧ Step b D w (upd D d ⟨(D d).lost, (D d).sec, .slice none 0 0, []⟩) (w.setCell ⟨b, d * 114 + 113, none⟩ (.slice none 0 0)) :=
  h.change hd _ ((h.mem.set _ _).congr fun q _ => wait_cells _ _ q) ⟨rfl, .inl ⟨rfl, rfl⟩⟩ (.inl rfl) (fun k _ hk _ => Below.heap_setCell _ _ _ _ hk) (fun _ hy => by cases hy) rfl rfl rfl (by simp [World.setCell]) hd
/-- a write is appended -/
theorem Bk.push {w w3 : World} {b : Nat} {D : Nat → Dk} (h : Bk w b D) {d n : Nat} (hd : d < 12) (hn : n < 112) (s : ByteArray) {o : Obj} {v' : Value} (hown : w3.ownsRow 0 72 2 v' ((D d).ws.length + 1) (wtV (D d).ws ++ [.int .i64 (n : Int), .string s])) (hgr : (w.alloc o).grownBy w3 (D d).wv.ownBlock) (hat : v'.ownBlock = (D d).wv.ownBlock ∨ v'.ownBlock = some (w.alloc o).heap.size) :
    Bk (w3.setCell ⟨b, d * 114 + 113, none⟩ v') b (upd D d ⟨(D d).lost, (D d).sec, v', (D d).ws ++ [(n, s)]⟩) ∧ Step b D w (upd D d ⟨(D d).lost, (D d).sec, v', (D d).ws ++ [(n, s)]⟩) (w3.setCell ⟨b, d * 114 + 113, none⟩ v') := by
  have hb := h.mem.lt
  have hsz : (w.alloc o).heap.size = w.heap.size + 1 := World.size_alloc _ _
  have hold : ∀ k, k < w.heap.size → some k ≠ (D d).wv.ownBlock → w3.heap[k]? = w.heap[k]? := fun k hk hne => (hgr.block k (by omega) hne).trans (Below.heap_alloc _ _ _ hk)
  have hbb : w3.heap[b]? = w.heap[b]? := hold b hb fun e => h.off d hd e.symm
  have hm3 : FnAt w3 b 53 1368 (bkV D) := by unfold FnAt; rw [hbb]; exact h.mem
  have hnb : v'.ownBlock ≠ some b := by
    rcases hat with e | e
    · rw [e]; exact h.off d hd
    · rw [e, hsz]; intro e'; cases e'; omega
  refine h.change hd _ ((hm3.set _ _).congr fun q _ => wait_cells _ _ q) ?_ ?_ (fun k hk hkb hne => (Below.heap_setCell _ _ _ _ hkb).trans (hold k hk hne)) ?_ hgr.os hgr.tape hgr.output (by show _ ≤ (w3.heap.modify _ _).size; rw [Array.size_modify]; have := hgr.size; omega) hd
  · show (w3.setCell _ v').ownsRow 0 _ 2 v' ((D d).ws ++ [(n, s)]).length (wtV ((D d).ws ++ [(n, s)]))
    rw [List.length_append, wtV_app]
    exact row_keep hown fun g hg => Below.heap_setCell _ _ _ _ fun e => hnb (by rw [hg, e])
  · rcases hat with e | e
    · exact .inr (.inl e)
    · exact .inr (.inr ⟨_, e, by omega⟩)
  · intro y hy
    rcases List.mem_append.1 hy with c | c
    · exact h.secs d hd y c
    · rw [List.mem_singleton.1 c]; exact hn
theorem push_heap {w w3 : World} {b : Nat} {D : Nat → Dk} (h : Bk w b D) {d : Nat} (hd : d < 12) {o : Obj} (hgr : (w.alloc o).grownBy w3 (D d).wv.ownBlock) : w3.heap[b]? = w.heap[b]? :=
  (hgr.block b (by rw [World.size_alloc]; exact Nat.lt_succ_of_lt h.mem.lt) fun e => h.off d hd e.symm).trans (Below.heap_alloc _ _ _ h.mem.lt)
theorem push_cell {w w3 : World} {b : Nat} {D : Nat → Dk} (h : Bk w b D) {d : Nat} (hd : d < 12) {o : Obj} (hgr : (w.alloc o).grownBy w3 (D d).wv.ownBlock) : w3.cell? ⟨b, d * 114 + 113, none⟩ = some (D d).wv :=
  (World.cell?_of_block (w := w) (a := ⟨b, d * 114 + 113, none⟩) (push_heap h hd hgr)).trans (h.wait hd)
theorem push_free {w w3 : World} {b : Nat} {D : Nat → Dk} (h : Bk w b D) {d : Nat} (hd : d < 12) {o : Obj} (hgr : (w.alloc o).grownBy w3 (D d).wv.ownBlock) : w3.frozen? ⟨b, d * 114 + 113, none⟩ = false :=
  (World.frozen?_of_block (w := w) (a := ⟨b, d * 114 + 113, none⟩) (push_heap h hd hgr)).trans (h.free _)
/-- many cells of a block set -/
theorem FnAt.setCells {b : Nat} {t : TypeId} {n : Nat} : ∀ (vs : List Value) (o : Nat) {w : World} {g : Nat → Value}, FnAt w b t n g → FnAt (w.setCells b o vs) b t n (fun q => if o ≤ q ∧ q < o + vs.length then vs.getD (q - o) undef else g q)
  | [], o, w, g, h => h.congr fun p _ => by simp only [List.length_nil]; rw [if_neg (by omega)]
  | x :: vs, o, w, g, h => by
    have := FnAt.setCells vs (o + 1) (h.set o x)
    refine FnAt.congr this fun p _ => ?_
    simp only [List.length_cons]
    by_cases e : p = o
    · subst e
      rw [if_neg (by omega), if_pos rfl, if_pos (by omega), Nat.sub_self]
      rfl
    · by_cases c : o + 1 ≤ p ∧ p < o + 1 + vs.length
      · rw [if_pos c, if_pos (by omega), show p - o = (p - (o + 1)) + 1 by omega]
        rfl
      · rw [if_neg c, if_neg e, if_neg (by omega)]
theorem heap_setCells {c k : Nat} (hne : k ≠ c) : ∀ (vs : List Value) (o : Nat) (w : World), (w.setCells c o vs).heap[k]? = w.heap[k]?
  | [], _, _ => rfl
  | _ :: vs, o, _ => (heap_setCells hne vs (o + 1) _).trans (Below.heap_setCell _ _ _ _ hne)
theorem size_setCells (c : Nat) : ∀ (vs : List Value) (o : Nat) (w : World), (w.setCells c o vs).heap.size = w.heap.size
  | [], _, _ => rfl
  | _ :: vs, o, _ => (size_setCells c vs (o + 1) _).trans (by simp [World.setCell])
theorem same_setCells (c : Nat) : ∀ (vs : List Value) (o : Nat) (w : World), (w.setCells c o vs).os = w.os ∧ (w.setCells c o vs).tape = w.tape ∧ (w.setCells c o vs).output = w.output
  | [], _, _ => ⟨rfl, rfl, rfl⟩
  | v :: vs, o, w => same_setCells c vs (o + 1) (w.setCell ⟨c, o, none⟩ v)
theorem fnC_getD {n : Nat} {g : Nat → Value} {j : Nat} (hj : j < n) : (fnC n g).toList.getD j undef = g j := by
  rw [List.getD_eq_getElem?_getD, Array.getElem?_toList, fnC_at g hj]; rfl
/-- a disk is put in another one's place -/
theorem Bk.exchange {w : World} {b : Nat} {D : Nat → Dk} (h : Bk w b D) {d : Nat} (hd : d < 12) (x : Dk) (hrow : w.ownsRow 0 72 2 x.wv x.ws.length (wtV x.ws)) (hown : x.wv.ownBlock = none ∨ x.wv.ownBlock = (D d).wv.ownBlock ∨ ∃ g, x.wv.ownBlock = some g ∧ w.heap.size ≤ g) (hsec : ∀ y ∈ x.ws, y.1 < 112) (hxb : x.wv.ownBlock ≠ some b) :
    Bk (w.setCells b (d * 114) (fnC 114 (dkV x)).toList) b (upd D d x) ∧ Step b D w (upd D d x) (w.setCells b (d * 114) (fnC 114 (dkV x)).toList) := by
  obtain ⟨h1, h2, h3⟩ := same_setCells b (fnC 114 (dkV x)).toList (d * 114) w
  refine h.change hd x ((FnAt.setCells _ _ h.mem).congr fun q hq => ?_) (row_keep hrow fun g hg => heap_setCells (fun e => hxb (by rw [hg, e])) _ _ _) hown (fun k _ hk _ => heap_setCells hk _ _ _) hsec h1 h2 h3 (by rw [size_setCells]; exact Nat.le_refl _) hd
  have hl : (fnC 114 (dkV x)).toList.length = 114 := by rw [Array.length_toList, fnC_size]
  rw [hl, bkV_upd]
  by_cases c : d * 114 ≤ q ∧ q < d * 114 + 114
  · rw [if_pos c, if_pos (by omega), fnC_getD (by omega), show q - d * 114 = q % 114 by omega]
  · rw [if_neg c, if_neg (by omega)]
end Go.Proofs.Ytnpioaidbmllkaa
