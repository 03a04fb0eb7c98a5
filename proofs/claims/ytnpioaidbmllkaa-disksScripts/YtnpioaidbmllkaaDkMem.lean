/- Twelve disks in memory. -/
import Derived.Test.YtnpioaidbmllkaaBlk
import Derived.Deep.RegionLaw
import Derived.RangeFuncBox
namespace Go.Proofs.Ytnpioaidbmllkaa
open Go.RowKit
/-- a disk: whether it is lost, its sectors, the slice of the writes that wait, and these -/
structure Dk where
  lost : Bool
  sec : Nat → ByteArray
  wv : Value
  ws : List (Nat × ByteArray)
/-- cell o of a disk; cell q of the disks -/
def dkV (x : Dk) (o : Nat) : Value := if o = 0 then .bool x.lost else if o = 113 then x.wv else .string (x.sec (o - 1))
def bkV (D : Nat → Dk) (q : Nat) : Value := dkV (D (q / 114)) (q % 114)
theorem bkV_lost (D : Nat → Dk) (d : Nat) : bkV D (d * 114) = .bool (D d).lost := by
  unfold bkV dkV; rw [if_pos (by omega), show d * 114 / 114 = d by omega]
theorem bkV_sec (D : Nat → Dk) (d : Nat) {n : Nat} (h : n < 112) : bkV D (d * 114 + 1 + n) = .string ((D d).sec n) := by
  unfold bkV dkV; rw [if_neg (by omega), if_neg (by omega), show (d * 114 + 1 + n) / 114 = d by omega, show (d * 114 + 1 + n) % 114 - 1 = n by omega]
theorem bkV_wait (D : Nat → Dk) (d : Nat) : bkV D (d * 114 + 113) = (D d).wv := by
  unfold bkV dkV; rw [if_neg (by omega), if_pos (by omega), show (d * 114 + 113) / 114 = d by omega]
/-- writes as cells -/
def wtV : List (Nat × ByteArray) → List Value
  | [] => []
  | x :: l => .int .i64 (x.1 : Int) :: .string x.2 :: wtV l
theorem wtV_len : ∀ l, (wtV l).length = l.length * 2
  | [] => rfl
  | x :: l => by show (wtV l).length + 1 + 1 = (l.length + 1) * 2; rw [wtV_len l]; omega
theorem wtV_app : ∀ l m, wtV (l ++ m) = wtV l ++ wtV m
  | [], _ => rfl
  | x :: l, m => by show _ :: _ :: wtV (l ++ m) = _ :: _ :: (wtV l ++ wtV m); rw [wtV_app l m]
theorem wtV_at : ∀ {l : List (Nat × ByteArray)} {i : Nat} {x : Nat × ByteArray}, l[i]? = some x → (wtV l)[2 * i]? = some (.int .i64 (x.1 : Int)) ∧ (wtV l)[2 * i + 1]? = some (.string x.2)
  | y :: l, 0, x, h => by cases h; exact ⟨rfl, rfl⟩
  | y :: l, i + 1, x, h => by
    have := wtV_at (l := l) (i := i) (x := x) h
    rw [show 2 * (i + 1) = 2 * i + 1 + 1 by omega]
    exact this
theorem wtV_one (l : List (Nat × ByteArray)) : ∀ u ∈ wtV l, u.oneCell' = true := by
  induction l with
  | nil => intro u h; cases h
  | cons x l ih =>
    intro u h
    rcases List.mem_cons.1 h with rfl | h
    · rfl
    · rcases List.mem_cons.1 h with rfl | h
      · rfl
      · exact ih u h
/-- the blocks that disks have -/
def Foot (b : Nat) (D : Nat → Dk) (k : Nat) : Prop := k = b ∨ ∃ d, d < 12 ∧ (D d).wv.ownBlock = some k
structure Bk (w : World) (b : Nat) (D : Nat → Dk) : Prop where
  mem : FnAt w b 53 1368 (bkV D)
  rows : ∀ d, d < 12 → w.ownsRow 0 72 2 (D d).wv (D d).ws.length (wtV (D d).ws)
  apart : ∀ d e g, d < 12 → e < 12 → (D d).wv.ownBlock = some g → (D e).wv.ownBlock = some g → d = e
  off : ∀ d, d < 12 → (D d).wv.ownBlock ≠ some b
  secs : ∀ d, d < 12 → ∀ x ∈ (D d).ws, x.1 < 112
structure Step (b : Nat) (D : Nat → Dk) (w : World) (D' : Nat → Dk) (w' : World) : Prop where
  os : w'.os = w.os
  tape : w'.tape = w.tape
  output : w'.output = w.output
  size : w.heap.size ≤ w'.heap.size
  block : ∀ k, k < w.heap.size → ¬ Foot b D k → w'.heap[k]? = w.heap[k]?
  foot : ∀ k, Foot b D' k → Foot b D k ∨ w.heap.size ≤ k
theorem Step.refl (b : Nat) (D : Nat → Dk) (w : World) : Step b D w D w := ⟨rfl, rfl, rfl, Nat.le_refl _, fun _ _ _ => rfl, fun _ h => .inl h⟩
theorem Step.trans {b : Nat} {D E F : Nat → Dk} {u v w : World} (h : Step b D u E v) (k : Step b E v F w) : Step b D u F w :=
  ⟨k.os.trans h.os, k.tape.trans h.tape, k.output.trans h.output, Nat.le_trans h.size k.size,
   fun i hi hn => (k.block i (Nat.lt_of_lt_of_le hi h.size) fun hf => (h.foot i hf).elim hn (fun hx => by omega)).trans (h.block i hi hn),
   fun i hf => (k.foot i hf).elim (h.foot i) fun hx => .inr (Nat.le_trans h.size hx)⟩
theorem Step.below {b B : Nat} {D D' : Nat → Dk} {w w' : World} (h : Step b D w D' w') (hB : B ≤ w.heap.size) (hf : ∀ k, Foot b D k → B ≤ k) : Below B w w' :=
  ⟨h.os, h.tape, h.output, h.size, fun k hk => h.block k (by omega) fun hx => by have := hf k hx; omega⟩
theorem row_lt {w : World} {base : Nat} {e : TypeId} {size : Nat} {v : Value} {n : Nat} {xs : List Value} (h : w.ownsRow base e size v n xs) {g : Nat} (hg : v.ownBlock = some g) : g < w.heap.size := by
  rcases h.2 with ⟨rfl, _⟩ | ⟨g', cap, cur, rfl, hb, hh, _⟩
  · cases hg
  · cases hg; exact lt_of_block hh
theorem Bk.lt {w : World} {b : Nat} {D : Nat → Dk} (h : Bk w b D) {k : Nat} (hk : Foot b D k) : k < w.heap.size := by
  rcases hk with rfl | ⟨d, hd, hg⟩
  · exact h.mem.lt
  · exact row_lt (h.rows d hd) hg
theorem row_keep {w w' : World} {base : Nat} {e : TypeId} {size : Nat} {v : Value} {n : Nat} {xs : List Value} (h : w.ownsRow base e size v n xs) (hs : ∀ g, v.ownBlock = some g → w'.heap[g]? = w.heap[g]?) : w'.ownsRow base e size v n xs := by
  obtain ⟨hl, ⟨rfl, h0⟩ | ⟨g, cap, cur, rfl, hb, hg, hc, hm, hz, ht⟩⟩ := h
  · exact ⟨hl, .inl ⟨rfl, h0⟩⟩
  · exact ⟨hl, .inr ⟨g, cap, cur, rfl, hb, by rw [hs g rfl]; exact hg, hc, hm, hz, ht⟩⟩
/-- whoever leaves its blocks as they were leaves the disks as they were -/
theorem Bk.keep {w w' : World} {b : Nat} {D : Nat → Dk} (h : Bk w b D) (hs : ∀ k, Foot b D k → w'.heap[k]? = w.heap[k]?) : Bk w' b D :=
  ⟨by unfold FnAt; rw [hs b (.inl rfl)]; exact h.mem, fun d hd => row_keep (h.rows d hd) fun g hg => hs g (.inr ⟨d, hd, hg⟩), h.apart, h.off, h.secs⟩
theorem Bk.other {w w' : World} {b c : Nat} {D D' E : Nat → Dk} (h : Bk w c E) (s : Step b D w D' w') (hd : ∀ k, Foot b D k → ¬ Foot c E k) : Bk w' c E :=
  h.keep fun k hk => s.block k (h.lt hk) fun hf => hd k hf hk
theorem Bk.below {w w' : World} {b : Nat} {D : Nat → Dk} (h : Bk w b D) (hb : Below w.heap.size w w') : Bk w' b D := h.keep fun k hk => hb.block k (h.lt hk)
theorem Step.of_below {b : Nat} {D : Nat → Dk} {w w' : World} (hb : Below w.heap.size w w') : Step b D w D w' := ⟨hb.os, hb.tape, hb.output, hb.size, fun k hk _ => hb.block k hk, fun _ h => .inl h⟩
theorem Bk.lost {w : World} {b : Nat} {D : Nat → Dk} (h : Bk w b D) {d : Nat} (hd : d < 12) : w.cell? ⟨b, d * 114, none⟩ = some (.bool (D d).lost) := by
  rw [h.mem.cell (by omega), bkV_lost]
theorem Bk.sector {w : World} {b : Nat} {D : Nat → Dk} (h : Bk w b D) {d n : Nat} (hd : d < 12) (hn : n < 112) : w.cell? ⟨b, d * 114 + 1 + n, none⟩ = some (.string ((D d).sec n)) := by
  rw [h.mem.cell (by omega), bkV_sec D d hn]
theorem Bk.wait {w : World} {b : Nat} {D : Nat → Dk} (h : Bk w b D) {d : Nat} (hd : d < 12) : w.cell? ⟨b, d * 114 + 113, none⟩ = some (D d).wv := by
  rw [h.mem.cell (by omega), bkV_wait]
theorem Bk.free {w : World} {b : Nat} {D : Nat → Dk} (h : Bk w b D) (q : Nat) : w.frozen? ⟨b, q, none⟩ = false := h.mem.free q
/-- a disk that is empty -/
def dk0 : Dk := ⟨false, fun _ => ByteArray.empty, .slice none 0 0, []⟩
theorem bank_new (w : World) : Bk (w.alloc (.cells (fnC 1368 (bkV fun _ => dk0)) 53)) w.heap.size fun _ => dk0 :=
  ⟨heap_alloc_new _ _, fun _ _ => ⟨rfl, .inl ⟨rfl, rfl⟩⟩, fun _ _ _ _ _ h => (by cases h), fun _ _ h => (by cases h), fun _ _ x hx => (by cases hx)⟩
end Go.Proofs.Ytnpioaidbmllkaa
