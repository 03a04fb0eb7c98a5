/- What sluicegateref03.block answers: the state behind a block, in a row of its own. -/
import Derived.Test.YtomcdajoeakhdaaDoorShMixed
import Derived.Test.YtomcdajoeakhdaaDoorShWords
import Derived.Test.YtomcdajoeakhdaaDoorShText
import Derived.Deep.AppendSrc
import Derived.Lib.QuietBelow
namespace Go.Proofs.YtomcdajoeakhdaaDoor
open Go.RowKit
/-- eight words as cells -/
def w8 (v : Sh.S8) : List Value := [.int .u32 (v.a : Nat), .int .u32 (v.b : Nat), .int .u32 (v.c : Nat), .int .u32 (v.d : Nat), .int .u32 (v.e : Nat), .int .u32 (v.f : Nat), .int .u32 (v.g : Nat), .int .u32 (v.h : Nat)]
/-- a slice of eight words -/
def Sl8 (w : World) (g o : Nat) (v : Sh.S8) : Prop := g < w.heap.size ∧ ∀ q, q < 8 → w.cell? ⟨g, o + q, none⟩ = some (.int .u32 (Sh.at8 v q : Nat))
theorem Sl8.below {w w' : World} {g o B : Nat} {v : Sh.S8} (h : Sl8 w g o v) (hb : Below B w w') (hB : g < B) : Sl8 w' g o v := ⟨Nat.lt_of_lt_of_le h.1 hb.size, fun q hq => (hb.cell (p := ⟨g, o + q, none⟩) hB).trans (h.2 q hq)⟩
theorem news8 {w : World} {g o : Nat} {v : Sh.S8} (h : Sl8 w g o v) : ∀ j u, (w8 v)[j]? = some u → w.cell? ((⟨g, o, none⟩ : Addr).add j) = some u := fun j u hj => by
  have hl : j < 8 := (List.getElem?_eq_some_iff.1 hj).1
  rw [Addr.add_mid, h.2 j hl]
  rcases lt8' hl with rfl | rfl | rfl | rfl | rfl | rfl | rfl | rfl <;> simpa [w8, Sh.at8] using hj
/-- the cells of the state at hand, of the words, as a drawn region's loads want them -/
def BkC (B : Nat) (wp : World) (g gw k : Nat) (v : Sh.S8) (x : Nat) (w' : World) : Prop :=
  Below B wp w' ∧ w'.cell? ⟨g, 0, none⟩ = some (.int .u32 (v.a : Nat)) ∧ w'.cell? ⟨g, 4, none⟩ = some (.int .u32 (v.e : Nat)) ∧ w'.cell? ⟨g, 5, none⟩ = some (.int .u32 (v.f : Nat)) ∧ w'.cell? ⟨g, 6, none⟩ = some (.int .u32 (v.g : Nat)) ∧ w'.cell? ⟨g, 7, none⟩ = some (.int .u32 (v.h : Nat)) ∧ w'.cell? ⟨gw, k, none⟩ = some (.int .u32 (x : Nat))
theorem BkC.next {B : Nat} {wp w1 w2 : World} {g gw k : Nat} {v : Sh.S8} {x : Nat} (h : BkC B wp g gw k v x w1) (hb : Below B w1 w2) (hg : g < B) (hw : gw < B) : BkC B wp g gw k v x w2 :=
  ⟨h.1.trans hb, (hb.cell (p := ⟨g, 0, none⟩) hg).trans h.2.1, (hb.cell (p := ⟨g, 4, none⟩) hg).trans h.2.2.1, (hb.cell (p := ⟨g, 5, none⟩) hg).trans h.2.2.2.1, (hb.cell (p := ⟨g, 6, none⟩) hg).trans h.2.2.2.2.1, (hb.cell (p := ⟨g, 7, none⟩) hg).trans h.2.2.2.2.2.1, (hb.cell (p := ⟨gw, k, none⟩) hw).trans h.2.2.2.2.2.2⟩
theorem below_down {B : Nat} {a w w' : World} (h : Below B a w) (hB : B ≤ w.heap.size) (hb : Below w.heap.size w w') : Below B a w' := h.trans ⟨hb.os, hb.tape, hb.output, hb.size, fun k hk => hb.block k (Nat.lt_of_lt_of_le hk hB)⟩
/-- the state at hand, in a block behind the words -/
def BkSt (w1 wr : World) (g : Nat) (u : Sh.S8) : Prop := w1.heap.size ≤ g ∧ Sl8 wr g 0 u ∧ Below w1.heap.size w1 wr
theorem BkSt.next {w1 wr wq : World} {g : Nat} {u : Sh.S8} (h : BkSt w1 wr g u) (hb : Below wr.heap.size wr wq) : BkSt w1 wq g u := ⟨h.1, h.2.1.below hb h.2.1.1, below_down h.2.2 h.2.2.size hb⟩
theorem BkSt.cell {w1 wr : World} {g : Nat} {u : Sh.S8} (h : BkSt w1 wr g u) {q : Nat} (hq : q < 8) : wr.cell? ⟨g, q, none⟩ = some (.int .u32 (Sh.at8 u q : Nat)) := by
  have := h.2.1.2 q hq
  rwa [Nat.zero_add] at this
def BkRel (w1 wr : World) (x : Value) (u : Sh.S8) (k : Nat) : Prop := ∃ g c, x = .slice (some ⟨g, 0, none⟩) 8 c ∧ 8 ≤ c ∧ BkSt w1 wr g u ∧ (0 < k → FnAt wr g 87 8 (fun q => .int .u32 (Sh.at8 u q : Nat)))
theorem bkRel_first {w1 w3 : World} {v' : Value} {v : Sh.S8} (hown : w3.ownsRow w1.heap.size 87 1 v' (0 + 8) ([] ++ w8 v)) (hb : Below w1.heap.size w1 w3) : BkRel w1 w3 v' v 0 := by
  obtain ⟨hl, ⟨rfl, h0⟩ | ⟨g, cap, cur, rfl, hbb, hg, hc, hm, hs, ht⟩⟩ := hown
  · omega
  · refine ⟨g, cap, rfl, by omega, ⟨hbb, ⟨lt_of_block hg, fun i hi => ?_⟩, hb⟩, fun h => by omega⟩
    rw [Nat.zero_add, cell_of_block hg]
    have h1 : (cur.toList.take ((0 + 8) * 1))[i]? = ([] ++ w8 v)[i]? := by rw [ht]
    rw [List.getElem?_take, if_pos (by omega), Array.getElem?_toList] at h1
    rw [h1]
    rcases lt8' hi with rfl | rfl | rfl | rfl | rfl | rfl | rfl | rfl <;> rfl
theorem bkRot (x n : Nat) (w : World) (hx : x < 4294967296) (h0 : 0 < n) (hn : n < 32) : ∀ d os, Calls Tryd.prog 82 #[.int .u32 (x : Int), .int .u64 (n : Int)] (Go.Sort.grow (redrawn w d) os) fun e w'' => e = .returned (.int .u32 (Sh.rot x n : Nat)) ∧ ∃ p : Regrown, w'' = Go.Sort.grow (redrawn w p.d) p.os := fun _ _ =>
  Calls.regrown_of ((refRot_any x n _ hx h0 hn).mono fun _ _ h => ⟨h.1, h.2 ▸ Below.refl _ _⟩)
theorem bkK (k : Nat) (w : World) (hk : k < 64) : ∀ d os, Calls Tryd.prog 83 #[.int .i64 (k : Int)] (Go.Sort.grow (redrawn w d) os) fun e w'' => e = .returned (.int .u32 (Sh.kk k : Nat)) ∧ ∃ p : Regrown, w'' = Go.Sort.grow (redrawn w p.d) p.os := fun _ _ =>
  Calls.regrown_of (refK_any k _ hk)
theorem bkRotQ (x n : Nat) (w : World) (hx : x < 4294967296) (h0 : 0 < n) (hn : n < 32) : ∀ m, Calls Tryd.prog 82 #[.int .u32 (x : Int), .int .u64 (n : Int)] (w.drewN m) fun e w' => e = .returned (.int .u32 (Sh.rot x n : Nat)) ∧ ∃ m, w' = w.drewN m := fun _ =>
  Calls.quiet_of_same ((refRot_any x n _ hx h0 hn).mono fun _ _ h => ⟨h.1, h.2.symm⟩)
theorem bkT (U : Sh.S8) (k x : Nat) (h4 : U.e < 4294967296) (h5 : U.f < 4294967296) (h6 : U.g < 4294967296) : IntKind.u32.wrap (IntKind.u32.wrap (IntKind.u32.wrap (IntKind.u32.wrap ((U.h : Int) + bits .xor .u32 (bits .xor .u32 ((Sh.rot U.e 6 : Nat) : Int) ((Sh.rot U.e 11 : Nat) : Int)) ((Sh.rot U.e 25 : Nat) : Int)) + bits .xor .u32 (bits .and .u32 (U.e : Int) (U.f : Int)) (bits .and .u32 (bits .xor .u32 (if IntKind.u32.signed = true then -1 else IntKind.u32.max) (U.e : Int)) (U.g : Int))) + (k : Int)) + (x : Int)) = ((Sh.rT U k x : Nat) : Int) := by
  have h1 : Sh.M - 1 - U.e < 4294967296 := by unfold Sh.M; omega
  rw [if_neg (by decide), xor3_int (Sh.rot_lt h4) (Sh.rot_lt h4) (Sh.rot_lt h4), not_int h4, u32_and_nat _ _ h4 h5, u32_and_nat _ _ h1 h6, u32_xor_nat _ _ (Nat.and_lt_two_pow (n := 32) _ h5) (Nat.and_lt_two_pow (n := 32) _ h6)]
  rw [IntKind.wrap_u32', IntKind.wrap_u32', IntKind.wrap_u32', IntKind.wrap_u32']
  show _ = (((U.h + Sh.S1 U.e + Sh.ch U.e U.f U.g + k + x) % 4294967296 : Nat) : Int)
  show ((((((U.h : Nat) : Int) + ((Sh.S1 U.e : Nat) : Int)) % 4294967296 + ((Sh.ch U.e U.f U.g : Nat) : Int)) % 4294967296 + (k : Int)) % 4294967296 + (x : Int)) % 4294967296 = _
  omega
theorem bkU (U : Sh.S8) (h0 : U.a < 4294967296) (h1 : U.b < 4294967296) (h2 : U.c < 4294967296) : (bits .xor .u32 (bits .xor .u32 ((Sh.rot U.a 2 : Nat) : Int) ((Sh.rot U.a 13 : Nat) : Int)) ((Sh.rot U.a 22 : Nat) : Int) + bits .xor .u32 (bits .xor .u32 (bits .and .u32 (U.a : Int) (U.b : Int)) (bits .and .u32 (U.a : Int) (U.c : Int))) (bits .and .u32 (U.b : Int) (U.c : Int))) % 4294967296 = ((Sh.rU U : Nat) : Int) := by
  rw [xor3_int (Sh.rot_lt h0) (Sh.rot_lt h0) (Sh.rot_lt h0), u32_and_nat _ _ h0 h1, u32_and_nat _ _ h0 h2, u32_and_nat _ _ h1 h2, xor3_int (Nat.and_lt_two_pow (n := 32) _ h1) (Nat.and_lt_two_pow (n := 32) _ h2) (Nat.and_lt_two_pow (n := 32) _ h2)]
  rfl
theorem bkRel_new {w1 wp : World} {g k kk ww T X : Nat} {U : Sh.S8} (h : BkSt w1 wp g U) (hT : Sh.rT U kk ww = T) (hX : Sh.rU U = X) : BkRel w1 (wp.alloc (.cells #[.int .u32 (((T : Int) + (X : Int)) % 4294967296), .int .u32 (U.a : Int), .int .u32 (U.b : Int), .int .u32 (U.c : Int), .int .u32 (((U.d : Int) + (T : Int)) % 4294967296), .int .u32 (U.e : Int), .int .u32 (U.f : Int), .int .u32 (U.g : Int)] 87)).drew (.slice (some ⟨wp.heap.size, 0, none⟩) 8 8) (Sh.rnd U kk ww) k := by
  have e : (#[.int .u32 (((T : Int) + (X : Int)) % 4294967296), .int .u32 (U.a : Int), .int .u32 (U.b : Int), .int .u32 (U.c : Int), .int .u32 (((U.d : Int) + (T : Int)) % 4294967296), .int .u32 (U.e : Int), .int .u32 (U.f : Int), .int .u32 (U.g : Int)] : Array Value) = fnC 8 fun q => .int .u32 (Sh.at8 (Sh.rnd U kk ww) q : Nat) := by
    rw [show ((U.d : Int) + (T : Int)) % 4294967296 = (((U.d + T) % Sh.M : Nat) : Int) by unfold Sh.M; omega, show ((T : Int) + (X : Int)) % 4294967296 = (((T + X) % Sh.M : Nat) : Int) by unfold Sh.M; omega]
    unfold Sh.rnd
    rw [hT, hX]
    exact (a8_lit ⟨(T + X) % Sh.M, U.a, U.b, U.c, (U.d + T) % Sh.M, U.e, U.f, U.g⟩).symm
  rw [e]
  have hF : FnAt (wp.alloc (.cells (fnC 8 fun q => .int .u32 (Sh.at8 (Sh.rnd U kk ww) q : Nat)) 87)).drew wp.heap.size 87 8 (fun q => .int .u32 (Sh.at8 (Sh.rnd U kk ww) q : Nat)) := heap_alloc_new wp _
  refine ⟨wp.heap.size, 8, rfl, Nat.le_refl _, ⟨h.2.2.size, ⟨hF.lt, fun q hq => ?_⟩, (h.2.2.alloc h.2.2.size _).drew⟩, fun _ => hF⟩
  rw [Nat.zero_add]
  exact hF.cell hq
/-- the last loop's state -/
def Bk2 (w1 wr : World) (g : Nat) (u : Sh.S8) : Prop := w1.heap.size ≤ g ∧ FnAt wr g 87 8 (fun q => .int .u32 (Sh.at8 u q : Nat)) ∧ Below w1.heap.size w1 wr
theorem Bk2.step {w1 wr : World} {g q : Nat} {R v : Sh.S8} (h : Bk2 w1 wr g (mix8 R v q)) (hq : q < 8) : Bk2 w1 (wr.setCell ⟨g, q, none⟩ (.int .u32 (((Sh.at8 R q + Sh.at8 v q) % Sh.M : Nat) : Int))) g (mix8 R v (q + 1)) := by
  refine ⟨h.1, (h.2.1.set q _).congr fun p hp => ?_, h.2.2.setCell h.1 _⟩
  rw [← mix8_step R v hq hp]
  split <;> rfl
theorem Bk2.drewN {w1 wr : World} {g : Nat} {u : Sh.S8} (h : Bk2 w1 wr g u) (n : Nat) : Bk2 w1 (wr.drewN n) g u := ⟨h.1, h.2.1.drewN n, below_draws h.2.2 n⟩
end Go.Proofs.YtomcdajoeakhdaaDoor
