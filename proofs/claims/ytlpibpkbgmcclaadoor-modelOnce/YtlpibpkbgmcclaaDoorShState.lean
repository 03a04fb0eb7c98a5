/- A state in memory; what New, Add, Sum of it answer. -/
import Derived.Test.YtlpibpkbgmcclaaDoorShText
namespace Go.Proofs.YtlpibpkbgmcclaaDoor
open Go.RowKit
/-- cell q of a state -/
def stV (v : Sh.S8) (r : Nat → Nat) (n q : Nat) : Value := if q < 8 then .int .u32 (Sh.at8 v q : Nat) else if q < 72 then .int .u8 (r (q - 8) : Nat) else .int .i64 (n : Nat)
def StAt (w : World) (b : Nat) (v : Sh.S8) (r : Nat → Nat) (n : Nat) : Prop := FnAt w b 105 73 (stV v r n)
def stC (v : Sh.S8) (r : Nat → Nat) (n : Nat) : Array Value := fnC 73 (stV v r n)
def stZ : Array Value := Array.replicate 8 (.int .u32 0) ++ Array.replicate 64 (.int .u8 0) ++ #[.int .i64 0]
theorem stZ_eq : stZ = stC z8 (fun _ => 0) 0 := by
  apply Array.ext
  · simp [stZ, stC, fnC]
  · intro i h1 h2
    have hi : i < 73 := by simpa [stC, fnC] using h2
    simp only [stZ, stC, fnC, Array.getElem_ofFn, stV, at8_z8]
    by_cases c : i < 8
    · rw [if_pos c, Array.getElem_append_left (by simp; omega), Array.getElem_append_left (by simp; omega)]
      simp
    · rw [if_neg c]
      by_cases d : i < 72
      · rw [if_pos d, Array.getElem_append_left (by simp; omega), Array.getElem_append_right (by simp; omega)]
        simp
      · rw [if_neg d, Array.getElem_append_right (by simp; omega)]
        have : i = 72 := by omega
        subst this
        simp
theorem st_zero_info : (Tryd.prog.info? 105).map (fun i => i.zero) = some (some (.agg stZ)) := by kernel_rfl
theorem zero_st (w : World) : Sem.run Tryd.prog (zeroValue 105) w = .ok (.agg (stC z8 (fun _ => 0) 0)) w := by
  have h := st_zero_info
  cases hi : Tryd.prog.info? 105 with
  | none => rw [hi] at h; cases h
  | some i =>
    rw [hi] at h
    have hz : i.zero = some (.agg stZ) := by simpa using h
    simp [zeroValue, typeInfo, hi, hz, stZ_eq]
theorem st_size (v : Sh.S8) (r : Nat → Nat) (n : Nat) : (stC v r n).size = 73 := fnC_size _ _
theorem new_cells : (((((((((stC z8 (fun _ => 0) 0).setIfInBounds 0 (.int .u32 (Sh.iv8.a : Nat))).setIfInBounds 1 (.int .u32 (Sh.iv8.b : Nat))).setIfInBounds 2 (.int .u32 (Sh.iv8.c : Nat))).setIfInBounds 3 (.int .u32 (Sh.iv8.d : Nat))).setIfInBounds 4 (.int .u32 (Sh.iv8.e : Nat))).setIfInBounds 5 (.int .u32 (Sh.iv8.f : Nat))).setIfInBounds 6 (.int .u32 (Sh.iv8.g : Nat))).setIfInBounds 7 (.int .u32 (Sh.iv8.h : Nat))) = stC Sh.iv8 (fun _ => 0) 0 := by
  unfold stC
  simp only [fnC_set]
  refine fnC_congr fun q hq => ?_
  by_cases c : q < 8
  · rcases lt8' c with rfl | rfl | rfl | rfl | rfl | rfl | rfl | rfl <;> rfl
  · simp only [if_neg (show ¬ q = 7 by omega), if_neg (show ¬ q = 6 by omega), if_neg (show ¬ q = 5 by omega), if_neg (show ¬ q = 4 by omega), if_neg (show ¬ q = 3 by omega), if_neg (show ¬ q = 2 by omega), if_neg (show ¬ q = 1 by omega), if_neg (show ¬ q = 0 by omega)]
    unfold stV
    rw [if_neg c, if_neg c]
/-- many cells of a block set -/
theorem FnAt.setCells {b : Nat} {t : TypeId} {n : Nat} : ∀ (vs : List Value) (o : Nat) {w : World} {g : Nat → Value}, FnAt w b t n g → FnAt (w.setCells b o vs) b t n (fun q => if o ≤ q ∧ q < o + vs.length then vs.getD (q - o) undef else g q)
  | [], o, w, g, h => h.congr fun p _ => by simp only [List.length_nil]; rw [if_neg (by omega)]
  | x :: vs, o, w, g, h => by
    have := FnAt.setCells vs (o + 1) (h.set o x)
    refine FnAt.congr this fun p _ => ?_
    simp only [List.length_cons]
    by_cases e : p = o
    · subst e
      rw [if_neg (by omega), if_pos rfl, if_pos (by omega), Nat.sub_self]
      rfl
    · by_cases c : o + 1 ≤ p ∧ p < o + 1 + vs.length
      · rw [if_pos c, if_pos (by omega), show p - o = (p - (o + 1)) + 1 by omega]
        rfl
      · rw [if_neg c, if_neg e, if_neg (by omega)]
theorem FnAt.setCellsOther {b c : Nat} {t : TypeId} {n : Nat} {g : Nat → Value} (hne : b ≠ c) : ∀ (vs : List Value) (o : Nat) {w : World}, FnAt w b t n g → FnAt (w.setCells c o vs) b t n g
  | [], _, _, h => h
  | _ :: vs, o, _, h => FnAt.setCellsOther hne vs (o + 1) (h.other hne _)
theorem below_setCells {B c : Nat} {a : World} (hB : B ≤ c) : ∀ (vs : List Value) (o : Nat) {w : World}, Below B a w → Below B a (w.setCells c o vs)
  | [], _, _, h => h
  | _ :: vs, o, _, h => below_setCells hB vs (o + 1) (h.setCell (p := ⟨c, o, none⟩) hB _)
theorem fnC_list {n : Nat} {g : Nat → Value} {j : Nat} {v : Value} (h : (fnC n g).toList[j]? = some v) : j < n ∧ v = g j := by
  have hj : j < n := by
    have := (List.getElem?_eq_some_iff.1 h).1
    simpa [fnC] using this
  refine ⟨hj, ?_⟩
  rw [Array.getElem?_toList, fnC_at g hj] at h
  exact (Option.some.inj h).symm
theorem fnC_getD {n : Nat} {g : Nat → Value} {j : Nat} (hj : j < n) : (fnC n g).toList.getD j undef = g j := by
  rw [List.getD_eq_getElem?_getD, Array.getElem?_toList, fnC_at g hj]; rfl
theorem StAt.words {w : World} {b : Nat} {v : Sh.S8} {r : Nat → Nat} {n : Nat} (h : StAt w b v r n) : w.rangeAt b 0 (a8 v).toList := fun j x hx => by
  obtain ⟨hj, rfl⟩ := fnC_list hx
  rw [Nat.zero_add, h.cell (by omega)]
  unfold stV; rw [if_pos hj]
theorem StAt.rest {w : World} {b : Nat} {v : Sh.S8} {r : Nat → Nat} {n : Nat} (h : StAt w b v r n) : w.rangeAt b 8 (b64 r).toList := fun j x hx => by
  obtain ⟨hj, rfl⟩ := fnC_list hx
  rw [h.cell (by omega)]
  unfold stV; rw [if_neg (by omega), if_pos (by omega), Nat.add_sub_cancel_left]
theorem StAt.len {w : World} {b : Nat} {v : Sh.S8} {r : Nat → Nat} {n : Nat} (h : StAt w b v r n) : w.cell? ⟨b, 72, none⟩ = some (.int .i64 (n : Nat)) := h.cell (p := 72) (by omega)
theorem StAt.byte {w : World} {b : Nat} {v : Sh.S8} {r : Nat → Nat} {n : Nat} (h : StAt w b v r n) {p : Nat} (hp : p < 64) : w.cell? ⟨b, 8 + p, none⟩ = some (.int .u8 (r p : Nat)) := by
  rw [h.cell (by omega)]
  unfold stV; rw [if_neg (by omega), if_pos (by omega), Nat.add_sub_cancel_left]
theorem StAt.there {w : World} {b : Nat} {v : Sh.S8} {r : Nat → Nat} {n : Nat} (h : StAt w b v r n) {o m : Nat} (hm : o + m ≤ 73) : w.there b o m := fun j hj => ⟨by rw [h.cell (by omega)]; rfl, h.free _⟩
theorem StAt.setWords {w : World} {b : Nat} {v : Sh.S8} {r : Nat → Nat} {n : Nat} (h : StAt w b v r n) (v' : Sh.S8) : StAt (w.setCells b 0 (a8 v').toList) b v' r n := by
  refine FnAt.congr (FnAt.setCells (a8 v').toList 0 h) fun p _ => ?_
  have hl : (a8 v').toList.length = 8 := by simp [a8, fnC]
  rw [hl]
  by_cases c : p < 8
  · rw [if_pos (by omega), Nat.sub_zero, a8, fnC_getD c]
    unfold stV; rw [if_pos c]
  · rw [if_neg (by omega)]
    unfold stV; rw [if_neg c, if_neg c]
theorem StAt.setRest {w : World} {b : Nat} {v : Sh.S8} {r : Nat → Nat} {n : Nat} (h : StAt w b v r n) (r' : Nat → Nat) : StAt (w.setCells b 8 (b64 r').toList) b v r' n := by
  refine FnAt.congr (FnAt.setCells (b64 r').toList 8 h) fun p _ => ?_
  have hl : (b64 r').toList.length = 64 := by simp [b64, fnC]
  rw [hl]
  by_cases c : 8 ≤ p ∧ p < 8 + 64
  · rw [if_pos c, b64, fnC_getD (by omega)]
    unfold stV; rw [if_neg (by omega), if_pos (by omega)]
  · rw [if_neg c]
    unfold stV
    by_cases d : p < 8
    · rw [if_pos d, if_pos d]
    · rw [if_neg d, if_neg d, if_neg (by omega), if_neg (by omega)]
theorem StAt.setLen {w : World} {b : Nat} {v : Sh.S8} {r : Nat → Nat} {n : Nat} (h : StAt w b v r n) (n' : Nat) : StAt (w.setCell ⟨b, 72, none⟩ (.int .i64 (n' : Nat))) b v r n' := by
  refine FnAt.congr (h.set 72 _) fun p hp => ?_
  by_cases e : p = 72
  · subst e; rfl
  · rw [if_neg e]
    unfold stV
    by_cases d : p < 8
    · rw [if_pos d, if_pos d]
    · rw [if_neg d, if_neg d, if_pos (by omega), if_pos (by omega)]
theorem StAt.setByte {w : World} {b : Nat} {v : Sh.S8} {r : Nat → Nat} {n : Nat} (h : StAt w b v r n) {p : Nat} (hp : p < 64) (x : Nat) : StAt (w.setCell ⟨b, 8 + p, none⟩ (.int .u8 (x : Nat))) b v (fun q => if q = p then x else r q) n := by
  refine FnAt.congr (h.set (8 + p) _) fun q hq => ?_
  unfold stV
  by_cases e : q = 8 + p
  · subst e
    rw [if_pos rfl, if_neg (by omega), if_pos (by omega), Nat.add_sub_cancel_left]
    show _ = Value.int .u8 ((if p = p then x else r p : Nat) : Int)
    rw [if_pos rfl]
  · rw [if_neg e]
    by_cases d : q < 8
    · rw [if_pos d, if_pos d]
    · rw [if_neg d, if_neg d]
      by_cases c : q < 72
      · rw [if_pos c, if_pos c]
        show _ = Value.int .u8 ((if q - 8 = p then x else r (q - 8) : Nat) : Int)
        rw [if_neg (by omega)]
      · rw [if_neg c, if_neg c]
theorem StAt.congr {w : World} {b : Nat} {v : Sh.S8} {r r' : Nat → Nat} {n : Nat} (h : StAt w b v r n) (e : ∀ p, p < 64 → r p = r' p) : StAt w b v r' n := by
  refine FnAt.congr h fun q hq => ?_
  unfold stV
  by_cases d : q < 8
  · rw [if_pos d, if_pos d]
  · rw [if_neg d, if_neg d]
    by_cases c : q < 72
    · rw [if_pos c, if_pos c, e _ (by omega)]
    · rw [if_neg c, if_neg c]
theorem s8_len (v : Sh.S8) : (Tryd.prog.info? 100).map (·.size) = some (a8 v).toList.length := by rw [Array.length_toList]; exact s8_info' v
theorem b64_len (r : Nat → Nat) : (Tryd.prog.info? 103).map (·.size) = some (b64 r).toList.length := by rw [Array.length_toList]; exact b64_info' r
set_option maxRecDepth 100000 in
set_option maxHeartbeats 1000000 in
theorem new_any (w : World) : Calls Tryd.prog 47 #[] w fun e w' => ∃ b, e = .returned (.pointer (some ⟨b, 0, none⟩)) ∧ w.heap.size ≤ b ∧ StAt w' b Sh.iv8 (fun _ => 0) 0 ∧ Below w.heap.size w w' := by
  go_enter Tryd.func47, Tryd.ntmps47
  go_wp2_with fail
  refine (first_any w).mono ?_
  rintro e w1 ⟨rfl, hb1⟩
  rw [a8_lit]
  have hz := zero_st
  have hsz := st_size z8 (fun _ => 0) 0
  go_wp2_with fail
  go_ret
  refine ⟨_, rfl, hb1.size, ?_, hb1.alloc hb1.size _⟩
  rw [new_cells]
  exact heap_alloc_new _ _
end Go.Proofs.YtlpibpkbgmcclaaDoor
