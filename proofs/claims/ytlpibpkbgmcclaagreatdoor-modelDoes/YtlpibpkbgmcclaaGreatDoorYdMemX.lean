/- The document's model as a rising list of keys: what is put in, what is found, what is told. Lists alone: nothing here walks. The document's model in memory: a struct that holds a slice of keys; where a key stands. -/
import Derived.Test.YtlpibpkbgmcclaaGreatDoorMdLaw
namespace Go.Proofs.YtlpibpkbgmcclaaGreatDoor
open Go.RowKit
set_option linter.unusedVariables false
abbrev KyE := ByteArray × Hd
def kyC (e : KyE) : List Value := [.string e.1, .string e.2.v, .bool e.2.g]
def kyV (R : List KyE) : List Value := R.flatMap kyC
theorem kyV_snoc (R : List KyE) (e : KyE) : kyV (R ++ [e]) = kyV R ++ kyC e := by simp [kyV]
theorem kyV_len (R : List KyE) : (kyV R).length = R.length * 3 := by
  induction R with
  | nil => rfl
  | cons e R ih => simp [kyV, kyC] at ih ⊢; omega
theorem kyV_at : ∀ {R : List KyE} {i : Nat} {e : KyE}, R[i]? = some e → ∀ j v, (kyC e)[j]? = some v → (kyV R)[i * 3 + j]? = some v
  | x :: R, 0, e, h, j, v, hj => by
    simp at h
    subst h
    have hl : j < (kyC x).length := (List.getElem?_eq_some_iff.1 hj).1
    show (kyC x ++ kyV R)[0 * 3 + j]? = some v
    rw [Nat.zero_mul, Nat.zero_add, List.getElem?_append_left hl]
    exact hj
  | x :: R, i + 1, e, h, j, v, hj => by
    have h : R[i]? = some e := by simpa using h
    show (kyC x ++ kyV R)[(i + 1) * 3 + j]? = some v
    rw [List.getElem?_append_right (by show 3 ≤ _; omega)]
    have e1 : (i + 1) * 3 + j - (kyC x).length = i * 3 + j := by show (i + 1) * 3 + j - 3 = _; omega
    rw [e1]
    exact kyV_at h j v hj
theorem kyV_append (R S : List KyE) : kyV (R ++ S) = kyV R ++ kyV S := by simp [kyV]
/-- the list tells what is known -/
structure Rl (R : List KyE) (T : MT) : Prop where
  up : R.Pairwise (fun a b => a.1.data.toList < b.1.data.toList)
  mem : ∀ k h, T k = some h ↔ (k, h) ∈ R
theorem Rl.nil : Rl [] T0 := ⟨List.Pairwise.nil, fun k h => by simp [T0]⟩
theorem Rl.keys {R : List KyE} {T : MT} (h : Rl R T) : Rising (fun k => (T k).isSome = true) (R.map (·.1)) := by
  refine ⟨List.pairwise_map.2 h.up, fun k => ?_⟩
  rw [List.mem_map]
  constructor
  · rintro ⟨⟨a, b⟩, he, rfl⟩
    show (T a).isSome = true
    rw [(h.mem _ _).2 he]; rfl
  · intro hk
    obtain ⟨y, hy⟩ := Option.isSome_iff_exists.1 hk
    exact ⟨(k, y), (h.mem _ _).1 hy, rfl⟩
theorem Rl.miss {R : List KyE} {T : MT} (h : Rl R T) {k : ByteArray} (hk : ∀ e ∈ R, e.1 ≠ k) : T k = none := by
  cases hT : T k with
  | none => rfl
  | some y => exact absurd rfl (hk _ ((h.mem _ _).1 hT))
theorem Rl.at {R : List KyE} {T : MT} (h : Rl R T) {i : Nat} {e : KyE} (he : R[i]? = some e) : T e.1 = some e.2 := (h.mem _ _).2 (List.mem_of_getElem? he)
def ins (k : ByteArray) (y : Hd) : List KyE → List KyE
  | [] => [(k, y)]
  | e :: R => if k.data.toList < e.1.data.toList then (k, y) :: e :: R else e :: ins k y R
theorem mem_ins (k : ByteArray) (y : Hd) (x : KyE) : ∀ R, x ∈ ins k y R ↔ x = (k, y) ∨ x ∈ R
  | [] => by simp [ins]
  | e :: R => by
    unfold ins
    by_cases c : k.data.toList < e.1.data.toList
    · rw [if_pos c]; simp
    · rw [if_neg c, List.mem_cons, mem_ins k y x R, List.mem_cons]
      constructor
      · rintro (q | q | q)
        · exact .inr (.inl q)
        · exact .inl q
        · exact .inr (.inr q)
      · rintro (q | q | q)
        · exact .inr (.inl q)
        · exact .inl q
        · exact .inr (.inr q)
theorem ba_ext2 {a b : ByteArray} (h : a.data.toList = b.data.toList) : a = b := ByteArray.ext (Array.toList_inj.1 h)
theorem ins_up (k : ByteArray) (y : Hd) : ∀ {R : List KyE}, R.Pairwise (fun a b => a.1.data.toList < b.1.data.toList) → (∀ e ∈ R, e.1 ≠ k) → (ins k y R).Pairwise (fun a b => a.1.data.toList < b.1.data.toList)
  | [], _, _ => by simp [ins]
  | e :: R, h, hk => by
    obtain ⟨h1, h2⟩ := List.pairwise_cons.1 h
    unfold ins
    by_cases c : k.data.toList < e.1.data.toList
    · rw [if_pos c]
      refine List.pairwise_cons.2 ⟨fun x hx => ?_, h⟩
      rcases List.mem_cons.1 hx with rfl | hx
      · exact c
      · exact List.lt_trans c (h1 x hx)
    · rw [if_neg c]
      refine List.pairwise_cons.2 ⟨fun x hx => ?_, ins_up k y h2 fun e he => hk e (List.mem_cons_of_mem _ he)⟩
      rcases (mem_ins k y x R).1 hx with rfl | hx
      · show e.1.data.toList < k.data.toList
        by_cases q : e.1.data.toList < k.data.toList
        · exact q
        · exact absurd (ba_ext2 (List.le_antisymm (List.not_lt.1 c) (List.not_lt.1 q))) (hk e (by simp))
      · exact h1 x hx
theorem Rl.ins {R : List KyE} {T : MT} (h : Rl R T) {k : ByteArray} (hk : T k = none) (y : Hd) : Rl (ins k y R) (T.set k y) := by
  have hn : ∀ e ∈ R, e.1 ≠ k := fun e he q => by have := (h.mem e.1 e.2).2 he; rw [q, hk] at this; cases this
  refine ⟨ins_up k y h.up hn, fun q z => ?_⟩
  rw [mem_ins]
  by_cases e : q = k
  · subst e
    rw [set_hit]
    constructor
    · intro w; injection w with w; subst w; exact .inl rfl
    · rintro (w | w)
      · rw [(Prod.mk.inj w).2]
      · exact absurd rfl (hn _ w)
  · rw [set_miss _ _ e, h.mem]
    constructor
    · exact .inr
    · rintro (w | w)
      · exact absurd (Prod.mk.inj w).1 e
      · exact w
/-- without the key at place i -/
theorem Rl.cut {R : List KyE} {T : MT} (h : Rl R T) {i : Nat} {e : KyE} (he : R[i]? = some e) : Rl (R.take i ++ R.drop (i + 1)) (fun q => if q = e.1 then none else T q) := by
  have hsub : (R.take i ++ R.drop (i + 1)).Sublist R := by
    have h1 : (R.drop (i + 1)).Sublist (R.drop i) := by
      rw [show R.drop (i + 1) = (R.drop i).drop 1 by rw [List.drop_drop]]
      exact List.drop_sublist _ _
    have := List.Sublist.append (List.Sublist.refl (R.take i)) h1
    rw [List.take_append_drop] at this
    exact this
  have hR : R = R.take i ++ e :: R.drop (i + 1) := by
    obtain ⟨hi, h1⟩ := List.getElem?_eq_some_iff.1 he
    rw [← h1, ← List.drop_eq_getElem_cons hi, List.take_append_drop]
  refine ⟨h.up.sublist hsub, fun q z => ?_⟩
  have hup := h.up
  rw [hR] at hup
  obtain ⟨_, hu2, hu3⟩ := List.pairwise_append.1 hup
  obtain ⟨hu4, _⟩ := List.pairwise_cons.1 hu2
  have hmem : ∀ x, x ∈ R ↔ x ∈ R.take i ++ R.drop (i + 1) ∨ x = e := fun x => by
    conv => lhs; rw [hR]
    simp only [List.mem_append, List.mem_cons]
    constructor
    · rintro (q | q | q)
      · exact .inl (.inl q)
      · exact .inr q
      · exact .inl (.inr q)
    · rintro ((q | q) | q)
      · exact .inl q
      · exact .inr (.inr q)
      · exact .inr (.inl q)
  have hne : ∀ x ∈ R.take i ++ R.drop (i + 1), x.1 ≠ e.1 := fun x hx => by
    intro q
    rcases List.mem_append.1 hx with hx | hx
    · have := hu3 x hx e (by simp); rw [q] at this; exact lt_irr _ this
    · have := hu4 x hx; rw [q] at this; exact lt_irr _ this
  by_cases c : q = e.1
  · rw [if_pos c]
    constructor
    · intro w; cases w
    · intro w; exact absurd c (hne _ w)
  · rw [if_neg c, h.mem, hmem]
    constructor
    · rintro (w | w)
      · exact w
      · exact absurd (by rw [← w]) c
    · exact .inl
theorem set_cut (T : MT) (k : ByteArray) (y : Hd) : MT.set (fun q => if q = k then none else T q) k y = T.set k y := by
  funext x
  unfold MT.set
  by_cases e : x = k
  · rw [if_pos e, if_pos e]
  · rw [if_neg e, if_neg e]; show (if x = k then none else T x) = T x; rw [if_neg e]
/-! what list tells -/
def lsB (fr : ByteArray) (e : KyE) : Bool := !e.2.g && !decide (e.1.data.toList < fr.data.toList)
def lsK (fr : ByteArray) (R : List KyE) : List ByteArray := (R.filter (lsB fr)).map (·.1)
theorem lsK_snoc (fr : ByteArray) (R : List KyE) (e : KyE) : lsK fr (R ++ [e]) = lsK fr R ++ if lsB fr e = true then [e.1] else [] := by
  unfold lsK
  rw [List.filter_append, List.map_append]
  cases h : lsB fr e <;> simp [h]
theorem Rl.lsK {R : List KyE} {T : MT} (h : Rl R T) (fr : ByteArray) : Rising (fun q => (T.val q).isSome = true ∧ ¬ q.data.toList < fr.data.toList) (lsK fr R) := by
  refine ⟨List.pairwise_map.2 (h.up.sublist List.filter_sublist), fun q => ?_⟩
  show q ∈ (R.filter (lsB fr)).map (·.1) ↔ ((T.val q).isSome = true ∧ ¬ q.data.toList < fr.data.toList)
  rw [List.mem_map]
  constructor
  · rintro ⟨⟨a, v, g⟩, he, rfl⟩
    obtain ⟨h1, h2⟩ := List.mem_filter.1 he
    unfold lsB at h2
    simp at h2
    obtain ⟨hg, hf⟩ := h2
    subst hg
    refine ⟨?_, List.not_lt.2 hf⟩
    show (T.val a).isSome = true
    rw [val_of ((h.mem _ _).2 h1)]; rfl
  · rintro ⟨hv, hf⟩
    obtain ⟨v, hv⟩ := Option.isSome_iff_exists.1 hv
    refine ⟨(q, ⟨v, false⟩), List.mem_filter.2 ⟨(h.mem _ _).1 (val_some hv), ?_⟩, rfl⟩
    unfold lsB
    simp
    exact List.not_lt.1 hf
theorem Rl.sts {R : List KyE} {T : MT} (h : Rl R T) : StIs T (sts T (R.map (·.1))) := ⟨_, h.keys, rfl⟩
end Go.Proofs.YtlpibpkbgmcclaaGreatDoor
namespace Go.Proofs.YtlpibpkbgmcclaaGreatDoor
open Go.RowKit
set_option linter.unusedVariables false
abbrev keyT : TypeId := 53
theorem yrow_cell {W : World} {B z n g c : Nat} {e : TypeId} {xs : List Value} (h : W.ownsRow B e z (.slice (some ⟨g, 0, none⟩) n c) n xs) {p : Nat} {v : Value} (hp : xs[p]? = some v) : W.cell? ⟨g, p, none⟩ = some v := by
  have hl : p < n * z := by have := (List.getElem?_eq_some_iff.1 hp).1; rw [h.1] at this; exact this
  rw [h.cellAt p hl, hp]
theorem yrow_form {W : World} {B z n : Nat} {e : TypeId} {v : Value} {xs : List Value} (h : W.ownsRow B e z v n xs) : (v = .slice none 0 0 ∧ n = 0) ∨ ∃ g c, v = .slice (some ⟨g, 0, none⟩) n c ∧ n ≤ c ∧ B ≤ g ∧ g < W.heap.size ∧ ∃ cur fr, W.heap[g]? = some (.cells cur e fr) := by
  rcases h.2 with ⟨rfl, h0⟩ | ⟨g, cap, cur, rfl, hB, hg, hc, _⟩
  · exact .inl ⟨rfl, h0⟩
  · exact .inr ⟨g, cap, rfl, hc, hB, lt_of_block hg, cur, _, hg⟩
/-- a model: its struct is block y -/
structure KyAt (w : World) (y : Nat) (R : List KyE) : Prop where
  ex : ∃ v, w.heap[y]? = some (.cells #[v] 29 (0, 0)) ∧ w.ownsRow 0 keyT 3 v R.length (kyV R)
theorem KyAt.lt {w : World} {y : Nat} {R : List KyE} (h : KyAt w y R) : y < w.heap.size := by obtain ⟨v, h1, _⟩ := h.ex; exact lt_of_block h1
theorem KyAt.keep {w w' : World} {y : Nat} {R : List KyE} (h : KyAt w y R) (hk : ∀ (i : Nat) (cur : Array Value) (t : TypeId) (fr : Nat × Nat), w.heap[i]? = some (Obj.cells cur t fr) → w'.heap[i]? = some (Obj.cells cur t fr)) : KyAt w' y R := by
  obtain ⟨v, h1, h2⟩ := h.ex
  exact ⟨v, hk _ _ _ _ h1, own_same h2 fun g cur t fr _ hc => (hk _ _ _ _ hc).trans hc.symm⟩
theorem KyAt.below {w w' : World} {y : Nat} {R : List KyE} (h : KyAt w y R) (hb : Below w.heap.size w w') : KyAt w' y R := h.keep fun i cur t fr hc => (hb.block i (lt_of_block hc)).trans hc
theorem KyAt.bm {w w' : World} {y b : Nat} {R : List KyE} (h : KyAt w y R) (hb : Bm b w w') (hm : ∃ es cl, w.heap[b]? = some (.map es cl)) : KyAt w' y R := h.keep fun i cur t fr hc => hb.keep hc fun e => by
  obtain ⟨es, cl, hm⟩ := hm
  rw [e, hm] at hc; cases hc
theorem MdAt.ky {w w' : World} {x b n y : Nat} {T : MT} {R : List KyE} (h : MdAt w x b n T) (hy : KyAt w y R) (hb : Bm y w w') : MdAt w' x b n T := by
  obtain ⟨v, h1, _⟩ := hy.ex
  refine h.bm hb (fun e => ?_) (fun e => ?_)
  · have := h.box
    rw [e, h1] at this
    injection this with this
    injection this with _ q
    revert q; decide
  · obtain ⟨es, cl, hm⟩ := mat_blk h.m
    rw [e, h1] at hm; cases hm
/-- a row of keys, new since w0 -/
structure GeK (w0 wr : World) (v : Value) (L : List KyE) : Prop where
  row : wr.ownsRow w0.heap.size keyT 3 v L.length (kyV L)
  bel : Below w0.heap.size w0 wr
theorem GeK.nil (w0 : World) : GeK w0 w0 (.slice none 0 0) [] := ⟨World.ownsRow_nil _ _ _ _, Below.refl _ _⟩
theorem GeK.push {w0 W : World} {v : Value} {L : List KyE} (h : GeK w0 W v L) (e : KyE) {o : Obj} {w1 : World} {v' : Value} (hown : w1.ownsRow w0.heap.size keyT 3 v' (L.length + 1) (kyV L ++ kyC e)) (hgr : (W.alloc o).grownBy w1 v.ownBlock) : GeK w0 w1 v' (L ++ [e]) := by
  refine ⟨by rw [kyV_snoc, List.length_append]; exact hown, hgr.os.trans h.bel.os, hgr.tape.trans h.bel.tape, hgr.output.trans h.bel.output, Nat.le_trans h.bel.size (by have := hgr.size; rw [World.size_alloc] at this; omega), fun k hk => ?_⟩
  refine (hgr.block k (by rw [World.size_alloc]; have := h.bel.size; omega) fun q => ?_).trans ((Below.heap_alloc _ _ _ (by have := h.bel.size; omega)).trans (h.bel.block k hk))
  rcases yrow_form h.row with ⟨rfl, _⟩ | ⟨g, c, rfl, _, hB, _⟩
  · cases q
  · have : some g = some k := q.symm
    cases this
    omega
def AtIs (R : List KyE) (k : ByteArray) (r : Int) : Prop := (r = -1 ∧ ∀ e ∈ R, e.1 ≠ k) ∨ ∃ (i : Nat) (y : Hd), r = (i : Int) ∧ R[i]? = some (k, y)
theorem str_eq2 {s t : ByteArray} (h : s = t) : (s.toList == t.toList) = true := by rw [h]; simp
def kIx2 : Value → Int | .int _ q => q | _ => 0
set_option maxRecDepth 100000 in
set_option maxHeartbeats 4000000 in
theorem yd_at {w : World} {y : Nat} {R : List KyE} (h : KyAt w y R) (hn : R.length ≤ 100000) (k : ByteArray) : Calls Tryz.prog 18 #[.pointer (some ⟨y, 0, none⟩), .string k] w fun e w' => ∃ r, e = .returned (.int .i64 r) ∧ AtIs R k r ∧ w = w' := by
  obtain ⟨v, hbox, hrow⟩ := h.ex
  have c0 : w.cell? ⟨y, 0, none⟩ = some v := cell_of_block hbox
  have HE := hide hrow
  obtain ⟨m, hm⟩ : ∃ m, R.length = m := ⟨_, rfl⟩
  rw [hm] at hn
  have HM := hide hm
  obtain ⟨a, c, hv⟩ : ∃ a c, v = .slice a m c := by
    rcases yrow_form hrow with ⟨rfl, h0⟩ | ⟨g, c, rfl, _⟩
    · exact ⟨none, 0, by rw [← hm, h0]⟩
    · exact ⟨_, c, by rw [hm]⟩
  subst hv
  clear h hbox hrow hm
  go_enter Tryz.func18, Tryz.ntmps18
  go_wp2_with fail
  go_loopw [5] (fun y wr => ∃ j : Nat, j ≤ m ∧ y = .int .i64 j ∧ (∀ i e, i < j → R[i]? = some e → e.1 ≠ k) ∧ w = wr) (fun y _ => m - (kIx2 y).toNat)
  case atStart => exact ⟨0, by omega, rfl, fun i e hi => by omega, rfl⟩
  case round =>
    obtain ⟨j, hj, rfl, hno, rfl⟩ := hrel
    have HNO := hide hno
    clear hno
    by_cases hlt : j < m
    · have hd : decide ((j : Int) < (m : Int)) = true := by simp; omega
      have hdi : (j : Int) < (m : Int) := by omega
      have hd0 : (0 : Int) ≤ (j : Int) := by omega
      obtain ⟨e, he⟩ : ∃ e, R[j]? = some e := ⟨_, List.getElem?_eq_getElem (by have := HM.out; omega)⟩
      have hrow := HE.out
      rw [HM.out] at hrow
      rcases yrow_form hrow with ⟨_, h0⟩ | ⟨g, c', hv', _, _, hgl, _⟩
      · omega
      · cases hv'
        have cc := yrow_cell hrow (kyV_at he 0 _ rfl)
        rw [Nat.add_zero] at cc
        have HEE := hide he
        clear hrow he
        by_cases hq : e.1 = k
        · have g3 := str_eq2 hq
          have HQ := hide hq
          clear hq
          go_wp2_with fail
          try go_ret
          exact ⟨_, rfl, .inr ⟨j, e.2, rfl, by rw [HEE.out, ← HQ.out]⟩, rfl⟩
        · have g3 := str_ne hq
          have HN : Hid (∀ i e, i < j + 1 → R[i]? = some e → e.1 ≠ k) := fun i e' hi he' => by
            by_cases q : i = j
            · subst q; rw [HEE.out] at he'; cases he'; exact hq
            · exact HNO.out i e' (by omega) he'
          clear hq
          go_wp2_with fail
          exact ⟨⟨j + 1, by omega, by go_num, HN.out, trivial⟩, by simp [kIx2]; omega⟩
    · have hd : decide ((j : Int) < (m : Int)) = false := by simp; omega
      have HF : Hid (AtIs R k (-1)) := .inl ⟨rfl, fun e he => by
        obtain ⟨i, hi, q⟩ := List.getElem_of_mem he
        exact HNO.out i e (by have := HM.out; omega) (by rw [List.getElem?_eq_getElem hi, q])⟩
      go_wp2_with fail
      try go_ret
      exact ⟨_, rfl, HF.out, rfl⟩
end Go.Proofs.YtlpibpkbgmcclaaGreatDoor
