/- Rows of bytes and of strings in memory; strings made of numbers. No function of the program is named here. -/
import Derived.Test.YteiddjjakemklabGfTab
import Derived.Laws.BytesArg
import Derived.Laws.CopyOwn
namespace Go.Proofs.Yteiddjjakemklab
open Go.RowKit
/-- the byte at p, as a number (0 beyond the end) -/
def bt (s : ByteArray) (p : Nat) : Nat := if h : p < s.size then (s[p]'h).toNat else 0
theorem bt_eq {s : ByteArray} {p : Nat} (h : p < s.size) : (s[p]'h).toNat = bt s p := by unfold bt; rw [dif_pos h]
theorem bt_lt (s : ByteArray) (p : Nat) : bt s p < 256 := by
  unfold bt; split
  · exact UInt8.toNat_lt _
  · decide
/-- the string of L bytes f 0, f 1, .. -/
def mkS (L : Nat) (f : Nat → Nat) : ByteArray := strOfNums ((List.range L).map fun p => ((f p : Nat) : Int))
theorem mkS_size (L : Nat) (f : Nat → Nat) : (mkS L f).size = L := by unfold mkS; rw [strOfNums_size]; simp
theorem mkS_bt {L : Nat} {f : Nat → Nat} {p : Nat} (hp : p < L) (h : f p < 256) : bt (mkS L f) p = f p := by
  have hs : p < (mkS L f).size := by rw [mkS_size]; exact hp
  rw [← bt_eq hs]
  show (((mkS L f).data)[p]'hs).toNat = f p
  have : (mkS L f).data = (((List.range L).map fun p => ((f p : Nat) : Int)).map fun n => UInt8.ofNat n.toNat).toArray := rfl
  simp only [this, List.getElem_toArray, List.getElem_map, List.getElem_range, Int.toNat_natCast, UInt8.toNat_ofNat']
  omega
theorem ext_bt {s t : ByteArray} (hs : s.size = t.size) (h : ∀ p, p < s.size → bt s p = bt t p) : s = t := by
  apply ByteArray.ext
  apply Array.ext
  · exact hs
  · intro i h1 h2
    have := h i h1
    rw [← bt_eq h1, ← bt_eq (s := t) h2] at this
    exact UInt8.toNat_inj.1 this
theorem mkS_congr {L : Nat} {f g : Nat → Nat} (h : ∀ p, p < L → f p = g p) : mkS L f = mkS L g := by
  unfold mkS; congr 1
  exact List.map_congr_left fun p hp => by rw [h p (List.mem_range.1 hp)]
theorem mkS_self (s : ByteArray) : mkS s.size (bt s) = s := by
  apply ext_bt (mkS_size _ _)
  intro p hp
  rw [mkS_size] at hp
  exact mkS_bt hp (bt_lt _ _)
/-- L bytes in memory, a block of their own -/
def byC (L : Nat) (f : Nat → Nat) : Array Value := Array.ofFn (n := L) fun i => .int .u8 (f i.val : Nat)
theorem byC_size (L : Nat) (f : Nat → Nat) : (byC L f).size = L := by simp [byC]
theorem byC_at {L : Nat} (f : Nat → Nat) {p : Nat} (hp : p < L) : (byC L f)[p]? = some (.int .u8 (f p : Nat)) := by
  simp [byC, hp]
theorem byC_set {L : Nat} (f : Nat → Nat) (p x : Nat) : (byC L f).setIfInBounds p (.int .u8 (x : Nat)) = byC L (fun q => if q = p then x else f q) := by
  apply Array.ext_getElem?
  intro i
  rw [Array.getElem?_setIfInBounds, byC_size]
  by_cases hi : i < L
  · rw [byC_at _ hi, byC_at _ hi]
    by_cases e : p = i
    · subst e; rw [if_pos rfl, if_pos hi, if_pos rfl]
    · rw [if_neg e, if_neg (fun h => e h.symm)]
  · have h1 : (byC L f)[i]? = none := by simp [byC, hi]
    have h2 : (byC L fun q => if q = p then x else f q)[i]? = none := by simp [byC, hi]
    rw [h1, h2]
    by_cases e : p = i
    · rw [if_pos e, if_neg (by omega)]
    · rw [if_neg e]
theorem byC_zero (L : Nat) : madeCells #[.int .u8 0] L = byC L (fun _ => 0) := by
  apply Array.ext
  · simp [byC, size_madeCells]
  · intro i h1 h2
    simp [madeCells, byC, Nat.mod_one]
def ByAt (w : World) (b L : Nat) (f : Nat → Nat) : Prop := w.heap[b]? = some (.cells (byC L f) 5 (0, 0))
theorem ByAt.cell {w : World} {b L : Nat} {f : Nat → Nat} (h : ByAt w b L f) {p : Nat} (hp : p < L) : w.cell? ⟨b, p, none⟩ = some (.int .u8 (f p : Nat)) := (cell_of_block h).trans (byC_at f hp)
theorem ByAt.free {w : World} {b L : Nat} {f : Nat → Nat} (h : ByAt w b L f) (p : Nat) : w.frozen? ⟨b, p, none⟩ = false := free_of_block h
theorem ByAt.set {w : World} {b L : Nat} {f : Nat → Nat} (h : ByAt w b L f) (p x : Nat) : ByAt (w.setCell ⟨b, p, none⟩ (.int .u8 (x : Nat))) b L (fun q => if q = p then x else f q) := by
  unfold ByAt; rw [block_setCell _ h, byC_set]
theorem ByAt.congr {w : World} {b L : Nat} {f g : Nat → Nat} (h : ByAt w b L f) (e : ∀ p, p < L → f p = g p) : ByAt w b L g := by
  unfold ByAt at *; rw [h]; congr 2
  unfold byC; congr 1; funext i; rw [e i.val i.isLt]
theorem ByAt.other {w : World} {b L : Nat} {f : Nat → Nat} (h : ByAt w b L f) {a : Addr} (hne : b ≠ a.block) (u : Value) : ByAt (w.setCell a u) b L f := by
  unfold ByAt at *; rw [Below.heap_setCell _ _ _ _ hne]; exact h
theorem ByAt.drewN {w : World} {b L : Nat} {f : Nat → Nat} (h : ByAt w b L f) (n : Nat) : ByAt (w.drewN n) b L f := h
theorem ByAt.lt {w : World} {b L : Nat} {f : Nat → Nat} (h : ByAt w b L f) : b < w.heap.size := lt_of_block h
theorem u8_info : (Try.prog.info? 5).map (fun i => (i.zero, i.size, i.bytes)) = some (some (.int .u8 0), 1, 1) := by kernel_rfl
/-- make([]byte, L) -/
theorem make_bytes (L : Nat) (h : L ≤ 1000000) (w : World) : (Instr.makeSlice 64 (.int .i64 (L : Int)) (.int .i64 (L : Int))).run Try.prog w = .ok (.slice (some ⟨w.heap.size, 0, none⟩) L L) (w.alloc (.cells (byC L fun _ => 0) 5)) := by
  obtain ⟨i0, hi, hz0, hz1, hz2⟩ := info_parts u8_info
  have h := run_make (P := Try.prog) w 64 5 i0 (.int .u8 0) Try.underlying64 hi hz0 .i64 .i64 L L (by omega) (by omega) (by rw [hz2]; omega) (by omega)
  rw [hz1] at h
  rw [h]
  simp only [Int.toNat_natCast, Nat.mul_one]
  rw [show (Value.int IntKind.u8 0).cells = #[.int .u8 0] from rfl, byC_zero]
/-- string(b) of L bytes that lie in a block of their own -/
theorem bytes_string {w : World} {b L : Nat} {f : Nat → Nat} (h : ByAt w b L f) : (convert 64 9 (.slice (some ⟨b, 0, none⟩) L L)).run Try.prog w = .ok (.string (mkS L f)) w := by
  refine run_convert_bytes_arg w 64 5 Try.underlying64 Try.underlying5 b 0 L L _ (by simp) (fun i hi => ?_) 9 Try.underlying9
  rw [Nat.zero_add, h.cell hi]
  simp [hi]
/-- n one-cell values in a block of their own -/
def fnC (n : Nat) (g : Nat → Value) : Array Value := Array.ofFn (n := n) fun i => g i.val
theorem fnC_size (n : Nat) (g : Nat → Value) : (fnC n g).size = n := by simp [fnC]
theorem fnC_at {n : Nat} (g : Nat → Value) {p : Nat} (hp : p < n) : (fnC n g)[p]? = some (g p) := by simp [fnC, hp]
theorem fnC_none {n : Nat} (g : Nat → Value) {p : Nat} (hp : ¬ p < n) : (fnC n g)[p]? = none := by simp [fnC, hp]
theorem fnC_set {n : Nat} (g : Nat → Value) (p : Nat) (x : Value) : (fnC n g).setIfInBounds p x = fnC n (fun q => if q = p then x else g q) := by
  apply Array.ext_getElem?
  intro i
  rw [Array.getElem?_setIfInBounds, fnC_size]
  by_cases hi : i < n
  · rw [fnC_at _ hi, fnC_at _ hi]
    by_cases e : p = i
    · subst e; rw [if_pos rfl, if_pos hi, if_pos rfl]
    · rw [if_neg e, if_neg (fun h => e h.symm)]
  · rw [fnC_none _ hi, fnC_none _ hi]
    by_cases e : p = i
    · rw [if_pos e, if_neg (by omega)]
    · rw [if_neg e]
theorem fnC_made (n : Nat) (z : Value) : madeCells #[z] n = fnC n (fun _ => z) := by
  apply Array.ext
  · simp [fnC, size_madeCells]
  · intro i h1 h2
    simp [madeCells, fnC, Nat.mod_one]
def FnAt (w : World) (b : Nat) (t : TypeId) (n : Nat) (g : Nat → Value) : Prop := w.heap[b]? = some (.cells (fnC n g) t (0, 0))
theorem FnAt.cell {w : World} {b : Nat} {t : TypeId} {n : Nat} {g : Nat → Value} (h : FnAt w b t n g) {p : Nat} (hp : p < n) : w.cell? ⟨b, p, none⟩ = some (g p) := (cell_of_block h).trans (fnC_at g hp)
theorem FnAt.free {w : World} {b : Nat} {t : TypeId} {n : Nat} {g : Nat → Value} (h : FnAt w b t n g) (p : Nat) : w.frozen? ⟨b, p, none⟩ = false := free_of_block h
theorem FnAt.set {w : World} {b : Nat} {t : TypeId} {n : Nat} {g : Nat → Value} (h : FnAt w b t n g) (p : Nat) (x : Value) : FnAt (w.setCell ⟨b, p, none⟩ x) b t n (fun q => if q = p then x else g q) := by
  unfold FnAt; rw [block_setCell _ h, fnC_set]
theorem FnAt.congr {w : World} {b : Nat} {t : TypeId} {n : Nat} {g g' : Nat → Value} (h : FnAt w b t n g) (e : ∀ p, p < n → g p = g' p) : FnAt w b t n g' := by
  unfold FnAt at *; rw [h]; congr 2
  unfold fnC; congr 1; funext i; rw [e i.val i.isLt]
theorem FnAt.other {w : World} {b : Nat} {t : TypeId} {n : Nat} {g : Nat → Value} (h : FnAt w b t n g) {a : Addr} (hne : b ≠ a.block) (u : Value) : FnAt (w.setCell a u) b t n g := by
  unfold FnAt at *; rw [Below.heap_setCell _ _ _ _ hne]; exact h
theorem FnAt.alloc {w : World} {b : Nat} {t : TypeId} {n : Nat} {g : Nat → Value} (h : FnAt w b t n g) (o : Obj) : FnAt (w.alloc o) b t n g := by
  unfold FnAt at *; rw [Below.heap_alloc _ _ _ (lt_of_block h)]; exact h
theorem FnAt.below {w w' : World} {b B : Nat} {t : TypeId} {n : Nat} {g : Nat → Value} (h : FnAt w b t n g) (hb : Below B w w') (hB : b < B) : FnAt w' b t n g := by
  unfold FnAt at *; rw [hb.block b hB]; exact h
theorem FnAt.drewN {w : World} {b : Nat} {t : TypeId} {n : Nat} {g : Nat → Value} (h : FnAt w b t n g) (k : Nat) : FnAt (w.drewN k) b t n g := h
theorem FnAt.lt {w : World} {b : Nat} {t : TypeId} {n : Nat} {g : Nat → Value} (h : FnAt w b t n g) : b < w.heap.size := lt_of_block h
theorem str_info : (Try.prog.info? 9).map (fun i => (i.zero, i.size, i.bytes)) = some (some (.string ByteArray.empty), 1, 16) := by kernel_rfl
/-- make([]string, n) -/
theorem make_strs (n : Nat) (h : n ≤ 1000000) (w : World) : (Instr.makeSlice 30 (.int .i64 (n : Int)) (.int .i64 (n : Int))).run Try.prog w = .ok (.slice (some ⟨w.heap.size, 0, none⟩) n n) (w.alloc (.cells (fnC n fun _ => .string ByteArray.empty) 9)) := by
  obtain ⟨i0, hi, hz0, hz1, hz2⟩ := info_parts str_info
  have h := run_make (P := Try.prog) w 30 9 i0 (.string ByteArray.empty) Try.underlying30 hi hz0 .i64 .i64 n n (by omega) (by omega) (by rw [hz2]; omega) (by omega)
  rw [hz1] at h
  rw [h]
  simp only [Int.toNat_natCast, Nat.mul_one]
  rw [show (Value.string ByteArray.empty).cells = #[.string ByteArray.empty] from rfl, fnC_made]
/-- a slice of strings that reads as the list l -/
def StrsAt (w : World) (a : Option Addr) (l : List ByteArray) : Prop := l = [] ∨ ∃ b o, a = some ⟨b, o, none⟩ ∧ b < w.heap.size ∧ ∀ i s, l[i]? = some s → w.cell? ⟨b, o + i, none⟩ = some (.string s)
theorem FnAt.strs {w : World} {b n : Nat} {f : Nat → ByteArray} (h : FnAt w b 9 n fun i => .string (f i)) : StrsAt w (some ⟨b, 0, none⟩) ((List.range n).map f) := by
  refine .inr ⟨b, 0, rfl, h.lt, fun i s hs => ?_⟩
  have hi : i < n := by have := (List.getElem?_eq_some_iff.1 hs).1; simpa using this
  simp [hi] at hs
  rw [Nat.zero_add, h.cell hi, hs]
theorem StrsAt.below {w w' : World} {a : Option Addr} {l : List ByteArray} (h : StrsAt w a l) (hb : Below w.heap.size w w') : StrsAt w' a l := by
  rcases h with h | ⟨b, o, ha, hlt, hc⟩
  · exact .inl h
  · exact .inr ⟨b, o, ha, Nat.lt_of_lt_of_le hlt hb.size, fun i s hs => (hb.cell (p := ⟨b, o + i, none⟩) hlt).trans (hc i s hs)⟩
theorem StrsAt.drewN {w : World} {a : Option Addr} {l : List ByteArray} (h : StrsAt w a l) (n : Nat) : StrsAt (w.drewN n) a l := h
end Go.Proofs.Yteiddjjakemklab
