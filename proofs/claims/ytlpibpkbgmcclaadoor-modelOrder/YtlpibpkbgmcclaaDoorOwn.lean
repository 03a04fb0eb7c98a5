/- Rows of a call's own that grow by append: as a step of a region that draws, read as a string. -/
import Derived.Test.YtlpibpkbgmcclaaDoorBlk
import Derived.Deep.RegionLaw
import Derived.RangeFuncBox
namespace Go.Proofs.YtlpibpkbgmcclaaDoor
open Go.RowKit
/-- append to a row of the call's own, as one step of a region that draws its order -/
theorem step_append_own {P : Program} {ops : Array Oper} {o : Oper} {a : Act} {w : World} {K : Act → World → Prop} {Q : Exit → Act → World → Prop} {E : Prop} (hg : o.guard = none) (s x : Operand) (t : TypeId)
    (ho : o.op = .call { callee := .builtin .append, args := #[s, x], argTypes := #[t, t] })
    (base : Nat) (e : TypeId) (i : TypeInfo) (z : Value) (size bytes : Nat) (ht : P.underlying t = some (.slice e)) (hi : P.info? e = some i) (hz : i.zero = some z)
    (hsize : i.size = size) (hby : i.bytes = bytes) (hzs : z.cells.size = size) (hsz : 0 < size)
    (v : Value) (n : Nat) (xs : List Value) (hs : a.eval s = v) (hown : w.ownsRow base e size v n xs)
    (ad : Addr) (m c : Nat) (news : List Value) (hx : a.eval x = .slice (some ad) m c) (hl : news.length = m * size) (hnews : ∀ j u, news[j]? = some u → w.cell? (ad.add j) = some u) (h1 : ∀ u ∈ news, u.oneCell' = true)
    (h63 : n + m ≤ maxLen) (hbytes : (n + m) * bytes ≤ 140737488355328) (hbase : base ≤ w.heap.size)
    (h : ∀ v' w', w'.ownsRow base e size v' (n + m) (xs ++ news) → w.grownBy w' v.ownBlock → (v' = .slice none 0 0 ↔ v = .slice none 0 0 ∧ m = 0) → K (a.put o.dst v') w') :
    if Region.wanted o (yielded ops a.tmps) = true then Oper.wp P o a w K Q else E := by
  rw [if_pos (by simp [Region.wanted, hg])]
  exact wp_append_own w s x t ho base e i z size bytes ht hi hz hsize hby hzs hsz v n xs hs hown ad m c news hx hl hnews h1 h63 hbytes hbase h
theorem own_drew {w : World} {base : Nat} {e : TypeId} {v : Value} {n : Nat} {xs : List Value} (h : w.ownsRow base e 1 v n xs) : w.drew.ownsRow base e 1 v n xs := h
theorem row_base {W : World} {base : Nat} {e : TypeId} {size : Nat} {v : Value} {n : Nat} {xs : List Value} (h : W.ownsRow base e size v n xs) {g : Nat} (hg : v.ownBlock = some g) : base ≤ g := by
  rcases h.2 with ⟨rfl, _⟩ | ⟨g', cap, cur, rfl, hb, _⟩
  · cases hg
  · cases hg; exact hb
/-- the first k bytes, as cells -/
def bys (f : Nat → Nat) (k : Nat) : List Value := (List.range k).map fun p => .int .u8 ((f p : Nat) : Int)
theorem bys_succ (f : Nat → Nat) (k : Nat) : bys f (k + 1) = bys f k ++ [.int .u8 ((f k : Nat) : Int)] := by unfold bys; rw [List.range_succ, List.map_append]; rfl
theorem bys_len (f : Nat → Nat) (k : Nat) : (bys f k).length = k := by simp [bys]
theorem conv_nil (w : World) (f : Nat → Nat) : (convert 48 9 (.slice none 0 0)).run Tryd.prog w = .ok (.string (mkS 0 f)) w := by
  have : mkS 0 f = ByteArray.empty := rfl
  rw [this]
  simp [convert, Conv.bytesToString, run_underlying Tryd.underlying48, run_underlying Tryd.underlying9]
theorem own_string {w : World} {base : Nat} {v : Value} {L : Nat} {f : Nat → Nat} (h : w.ownsRow base 5 1 v L (bys f L)) : (convert 48 9 v).run Tryd.prog w = .ok (.string (mkS L f)) w := by
  obtain ⟨hl, ⟨rfl, rfl⟩ | ⟨g, cap, cur, rfl, hb, hg, hc, hm, hs, ht⟩⟩ := h
  · exact conv_nil w f
  · refine run_convert_bytes_arg w 48 5 Tryd.underlying48 Tryd.underlying5 g 0 L cap _ (by simp) (fun i hi => ?_) 9 Tryd.underlying9
    rw [Nat.zero_add, cell_of_block hg]
    have h1 : (cur.toList.take (L * 1))[i]? = (bys f L)[i]? := by rw [ht]
    rw [List.getElem?_take, if_pos (by omega)] at h1
    simp [bys, hi] at h1
    rw [h1]
    simp [hi]
theorem u8_info : (Tryd.prog.info? 5).map (fun i => (i.zero, i.size, i.bytes)) = some (some (.int .u8 0), 1, 1) := by kernel_rfl
/-- make([]byte, 0, c): nothing yet, in a block of its own -/
theorem make_room (c : Nat) (h : c ≤ 1000000) (w : World) : (Instr.makeSlice 48 (.int .i64 0) (.int .i64 (c : Int))).run Tryd.prog w = .ok (.slice (some ⟨w.heap.size, 0, none⟩) 0 c) (w.alloc (.cells (fnC c fun _ => .int .u8 0) 5)) := by
  obtain ⟨i0, hi, hz0, hz1, hz2⟩ := info_parts u8_info
  have h := run_make (P := Tryd.prog) w 48 5 i0 (.int .u8 0) Tryd.underlying48 hi hz0 .i64 .i64 0 c (by omega) (by omega) (by rw [hz2]; omega) (by omega)
  rw [hz1] at h
  rw [h]
  simp only [Int.toNat_natCast, Nat.mul_one]
  rw [show (Value.int IntKind.u8 0).cells = #[.int .u8 0] from rfl, fnC_made]
  rfl
theorem room_own (c : Nat) (h : c ≤ 1000000) (w : World) (f : Nat → Nat) (B : Nat) (hB : B ≤ w.heap.size) : (w.alloc (.cells (fnC c fun _ => .int .u8 0) 5)).ownsRow B 5 1 (.slice (some ⟨w.heap.size, 0, none⟩) 0 c) 0 (bys f 0) :=
  ⟨rfl, .inr ⟨w.heap.size, c, _, rfl, hB, heap_alloc_new _ _, Nat.zero_le _, by unfold maxLen; omega, by rw [fnC_size]; omega, by simp [bys]⟩⟩
/-- a row of bytes that grows by one at a time, in a region that draws -/
def ByRel (w wr : World) (f : Nat → Nat) (v : Value) (k : Nat) : Prop := wr.ownsRow w.heap.size 5 1 v k (bys f k) ∧ Below w.heap.size w wr
theorem byRel_drew {w wr w1 : World} {f : Nat → Nat} {v v' : Value} {k x : Nat} {o : Obj} (h : ByRel w wr f v k) (hx : x = f k) (hown : w1.ownsRow w.heap.size 5 1 v' (k + 1) (bys f k ++ [.int .u8 (x : Int)])) (hgr : (wr.drew.alloc o).grownBy w1 v.ownBlock) : ByRel w w1 f v' (k + 1) := by
  refine ⟨by rw [bys_succ, ← hx]; exact hown, ?_⟩
  refine Below.grown (h.2.drew.alloc h.2.size o) hgr ?_ fun g hg => row_base h.1 hg
  rw [World.size_alloc]
  exact Nat.le_succ_of_le h.2.size
end Go.Proofs.YtlpibpkbgmcclaaDoor
