/- What digest.text, first and New answer. A state in memory; what New, Add, Sum of it answer. What digest.ended answers: the state behind a text, filled up. -/
import Derived.Test.YtlpibpkbgmcclaaGreatDoorShMixed
namespace Go.Proofs.YtlpibpkbgmcclaaGreatDoor
open Go.RowKit
/-- byte p of eight words -/
def by8 (v : Sh.S8) (p : Nat) : Nat := Sh.at8 v (p / 4) >>> (8 * (3 - p % 4)) % 256
theorem by8_lt (v : Sh.S8) (p : Nat) : by8 v p < 256 := Nat.mod_lt _ (by decide)
theorem by8_four (v : Sh.S8) (k : Nat) : bys (by8 v) (4 * (k + 1)) = bys (by8 v) (4 * k) ++ [.int .u8 (((Sh.at8 v k : Nat) : Int) / 16777216 % 256), .int .u8 (((Sh.at8 v k : Nat) : Int) / 65536 % 256), .int .u8 (((Sh.at8 v k : Nat) : Int) / 256 % 256), .int .u8 (((Sh.at8 v k : Nat) : Int) % 256)] := by
  rw [show 4 * (k + 1) = 4 * k + 1 + 1 + 1 + 1 by omega, bys_succ, bys_succ, bys_succ, bys_succ, List.append_assoc, List.append_assoc, List.append_assoc]
  congr 1
  have e : ∀ r, r < 4 → by8 v (4 * k + r) = Sh.at8 v k >>> (8 * (3 - r)) % 256 := fun r hr => by
    unfold by8
    rw [show (4 * k + r) / 4 = k by omega, show (4 * k + r) % 4 = r by omega]
  have e0 := e 0 (by omega)
  have e1 := e 1 (by omega)
  have e2 := e 2 (by omega)
  have e3 := e 3 (by omega)
  simp only [Nat.add_zero] at e0
  rw [e0, show 4 * k + 1 + 1 = 4 * k + 2 by omega, show 4 * k + 2 + 1 = 4 * k + 3 by omega, e1, e2, e3]
  simp only [Nat.shiftRight_eq_div_pow, List.cons_append, List.nil_append, Nat.reduceSub, Nat.reduceMul, Nat.reducePow, Nat.pow_zero, Nat.div_one, Nat.mul_zero, Nat.sub_self]
  simp
theorem a8_lit (v : Sh.S8) : a8 v = #[.int .u32 (v.a : Nat), .int .u32 (v.b : Nat), .int .u32 (v.c : Nat), .int .u32 (v.d : Nat), .int .u32 (v.e : Nat), .int .u32 (v.f : Nat), .int .u32 (v.g : Nat), .int .u32 (v.h : Nat)] := rfl
theorem index_a8 (v : Sh.S8) {k : Nat} (hk : k < 8) (w : World) : (Instr.index 111 (.agg (a8 v)) (.int .i64 (k : Int))).run Tryz.prog w = .ok (.int .u32 (Sh.at8 v k : Nat)) w := by
  have hi := u32_size
  cases hq : Tryz.prog.info? 75 with
  | none => rw [hq] at hi; cases hi
  | some i =>
    rw [hq] at hi
    have h1 : i.size = 1 := by simpa using hi
    rw [a8_lit]
    rcases lt8' hk with rfl | rfl | rfl | rfl | rfl | rfl | rfl | rfl <;> simp [Instr.index, run_underlying Tryz.underlying111, asIntOf, sizeOf, typeInfo, hq, h1, go_sem, Sh.at8]
def TxRel (w wr : World) (v : Sh.S8) (x : Value) (k : Nat) : Prop := wr.ownsRow w.heap.size 5 1 x (4 * k) (bys (by8 v) (4 * k)) ∧ Below w.heap.size w wr
theorem cells_new (w : World) (l : List Value) (t : TypeId) : ∀ j u, l[j]? = some u → (w.alloc (.cells l.toArray t)).cell? ((⟨w.heap.size, 0, none⟩ : Addr).add j) = some u := fun j u h => by
  rw [add_zero_at, World.cell?_alloc_new]
  simpa using h
theorem txRel_step {w wr w1 : World} {v : Sh.S8} {y v' : Value} {k x : Nat} {o : Obj} (h : TxRel w wr v y k) (hx : x < 4294967296) (e : Sh.at8 v k = x) (hown : w1.ownsRow w.heap.size 5 1 v' (4 * k + 4) (bys (by8 v) (4 * k) ++ [.int .u8 ((x : Int) / 16777216), .int .u8 ((x : Int) / 65536 % 256), .int .u8 ((x : Int) / 256 % 256), .int .u8 ((x : Int) % 256)])) (hgr : (wr.alloc o).grownBy w1 y.ownBlock) : TxRel w w1 v v' (k + 1) := by
  refine ⟨?_, ?_⟩
  · rw [by8_four, e, show 4 * (k + 1) = 4 * k + 4 by omega, show (x : Int) / 16777216 % 256 = (x : Int) / 16777216 by omega]
    exact hown
  · refine Below.grown (h.2.alloc h.2.size o) hgr ?_ fun g hg => row_base h.1 hg
    rw [World.size_alloc]
    exact Nat.le_succ_of_le h.2.size
set_option maxRecDepth 100000 in
set_option maxHeartbeats 1000000 in
theorem text_any (v : Sh.S8) (w : World) (hv : Sh.In v) :
    Calls Tryz.prog 76 #[.agg (a8 v)] w fun e w' => e = .returned (.string (mkS 32 (by8 v))) ∧ Below w.heap.size w w' := by
  have hA : S8At (w.alloc (.cells (a8 v) 111)) w.heap.size v := heap_alloc_new _ _
  have HA := hide hA
  clear hA
  have hmk := make_room 32 (by omega) (w.alloc (.cells (a8 v) 111))
  rw [show ((32 : Nat) : Int) = 32 from rfl] at hmk
  have HST : Hid (TxRel w ((w.alloc (.cells (a8 v) 111)).alloc (.cells (fnC 32 fun _ => .int .u8 0) 5)) v (.slice (some ⟨w.heap.size + 1, 0, none⟩) 0 32) 0) := by
    have := room_own 32 (by omega) (w.alloc (.cells (a8 v) 111)) (by8 v) w.heap.size (by simp)
    rw [World.size_alloc] at this
    exact ⟨this, ((Below.refl _ _).alloc (Nat.le_refl _) _).alloc (by simp) _⟩
  have HA2 := hide (FnAt.alloc HA.out (.cells (fnC 32 fun _ => .int .u8 0) 5))
  obtain ⟨i0, hi0, hz0, hz1, hz2⟩ := info_parts u8_info
  have HI := hide hi0
  have HI0 := hide hz0
  have HI1 := hide hz1
  have HI2 := hide hz2
  clear hi0 hz0 hz1 hz2
  go_enter Tryz.func76, Tryz.ntmps76
  go_wp2_with (refine wpList_load_row rfl 111 (.tmp 1) rfl w.heap.size rfl 111 (a8 v) (0, 0) _ HA2.out Tryz.underlying111 rfl (s8_info' _) ?_)
  clear hmk HA HA2
  go_loopw [3, 8] (fun x y wr => ∃ k : Nat, k ≤ 8 ∧ y = .int .i64 k ∧ TxRel w wr v x k) (fun _ y _ => 8 - (intOf y).toNat)
  case atStart => exact ⟨0, by omega, rfl, HST.out⟩
  case round =>
    obtain ⟨k, hk, rfl, hrel⟩ := hrel
    have H := hide hrel
    have hsz := hrel.2.size
    clear hrel
    by_cases hlt : k < 8
    · have hd : decide ((k : Int) < 8) = true := by simp; omega
      have hx := hv k
      have hix := index_a8 v hlt wr
      generalize hX : Sh.at8 v k = x at *
      have HX := hide hX
      clear hX
      go_wp2_with (first | (at_builtin; refine wpList_append_own _ rfl (.tmp 11) (.tmp 23) 57 rfl w.heap.size 5 i0 (.int .u8 0) 1 1 Tryz.underlying57 HI.out HI0.out HI1.out HI2.out rfl (by decide) _ (4 * k) (bys (by8 v) (4 * k)) rfl (H.out.1.alloc _) ⟨wr.heap.size, 0, none⟩ 4 4 [.int .u8 ((x : Int) / 16777216), .int .u8 ((x : Int) / 65536 % 256), .int .u8 ((x : Int) / 256 % 256), .int .u8 ((x : Int) % 256)] rfl rfl (cells_new _ _ _) (by simp [Value.oneCell']) (by unfold maxLen; omega) (by omega) (by simp; omega) ?_; intro v' w3 hown hgr hnil; clear hnil; have HN3 := hide (txRel_step H.out hx HX.out hown hgr); clear hown hgr hix))
      exact ⟨⟨k + 1, by omega, by go_num, HN3.out⟩, by simp [intOf]; omega⟩
    · obtain rfl : k = 8 := by omega
      have hcv := own_string H.out.1
      go_wp2_with fail
      go_ret
      exact ⟨rfl, H.out.2⟩
set_option maxRecDepth 100000 in
set_option maxHeartbeats 1000000 in
theorem first_any (w : World) : Calls Tryz.prog 74 #[] w fun e w' => e = .returned (.agg (a8 Sh.iv8)) ∧ Below w.heap.size w w' := by
  go_enter Tryz.func74, Tryz.ntmps74
  go_wp2_with fail
  refine bodyPost_ret (res_s8 rfl _ _ w.heap.size Sh.iv8 rfl (heap_alloc_new _ _)) rfl ⟨rfl, (Below.refl _ _).alloc (Nat.le_refl _) _⟩
end Go.Proofs.YtlpibpkbgmcclaaGreatDoor
namespace Go.Proofs.YtlpibpkbgmcclaaGreatDoor
open Go.RowKit
/-- cell q of a state -/
def stV (v : Sh.S8) (r : Nat → Nat) (n q : Nat) : Value := if q < 8 then .int .u32 (Sh.at8 v q : Nat) else if q < 72 then .int .u8 (r (q - 8) : Nat) else .int .i64 (n : Nat)
def StAt (w : World) (b : Nat) (v : Sh.S8) (r : Nat → Nat) (n : Nat) : Prop := FnAt w b 116 73 (stV v r n)
def stC (v : Sh.S8) (r : Nat → Nat) (n : Nat) : Array Value := fnC 73 (stV v r n)
def stZ : Array Value := Array.replicate 8 (.int .u32 0) ++ Array.replicate 64 (.int .u8 0) ++ #[.int .i64 0]
theorem stZ_eq : stZ = stC z8 (fun _ => 0) 0 := by
  apply Array.ext
  · simp [stZ, stC, fnC]
  · intro i h1 h2
    have hi : i < 73 := by simpa [stC, fnC] using h2
    simp only [stZ, stC, fnC, Array.getElem_ofFn, stV, at8_z8]
    by_cases c : i < 8
    · rw [if_pos c, Array.getElem_append_left (by simp; omega), Array.getElem_append_left (by simp; omega)]
      simp
    · rw [if_neg c]
      by_cases d : i < 72
      · rw [if_pos d, Array.getElem_append_left (by simp; omega), Array.getElem_append_right (by simp; omega)]
        simp
      · rw [if_neg d, Array.getElem_append_right (by simp; omega)]
        have : i = 72 := by omega
        subst this
        simp
theorem st_zero_info : (Tryz.prog.info? 116).map (fun i => i.zero) = some (some (.agg stZ)) := by kernel_rfl
theorem zero_st (w : World) : Sem.run Tryz.prog (zeroValue 116) w = .ok (.agg (stC z8 (fun _ => 0) 0)) w := by
  have h := st_zero_info
  cases hi : Tryz.prog.info? 116 with
  | none => rw [hi] at h; cases h
  | some i =>
    rw [hi] at h
    have hz : i.zero = some (.agg stZ) := by simpa using h
    simp [zeroValue, typeInfo, hi, hz, stZ_eq]
theorem st_size (v : Sh.S8) (r : Nat → Nat) (n : Nat) : (stC v r n).size = 73 := fnC_size _ _
theorem new_cells : (((((((((stC z8 (fun _ => 0) 0).setIfInBounds 0 (.int .u32 (Sh.iv8.a : Nat))).setIfInBounds 1 (.int .u32 (Sh.iv8.b : Nat))).setIfInBounds 2 (.int .u32 (Sh.iv8.c : Nat))).setIfInBounds 3 (.int .u32 (Sh.iv8.d : Nat))).setIfInBounds 4 (.int .u32 (Sh.iv8.e : Nat))).setIfInBounds 5 (.int .u32 (Sh.iv8.f : Nat))).setIfInBounds 6 (.int .u32 (Sh.iv8.g : Nat))).setIfInBounds 7 (.int .u32 (Sh.iv8.h : Nat))) = stC Sh.iv8 (fun _ => 0) 0 := by
  unfold stC
  simp only [fnC_set]
  refine fnC_congr fun q hq => ?_
  by_cases c : q < 8
  · rcases lt8' c with rfl | rfl | rfl | rfl | rfl | rfl | rfl | rfl <;> rfl
  · simp only [if_neg (show ¬ q = 7 by omega), if_neg (show ¬ q = 6 by omega), if_neg (show ¬ q = 5 by omega), if_neg (show ¬ q = 4 by omega), if_neg (show ¬ q = 3 by omega), if_neg (show ¬ q = 2 by omega), if_neg (show ¬ q = 1 by omega), if_neg (show ¬ q = 0 by omega)]
    unfold stV
    rw [if_neg c, if_neg c]
/-- many cells of a block set -/
theorem FnAt.setCells {b : Nat} {t : TypeId} {n : Nat} : ∀ (vs : List Value) (o : Nat) {w : World} {g : Nat → Value}, FnAt w b t n g → FnAt (w.setCells b o vs) b t n (fun q => if o ≤ q ∧ q < o + vs.length then vs.getD (q - o) undef else g q)
  | [], o, w, g, h => h.congr fun p _ => by simp only [List.length_nil]; rw [if_neg (by omega)]
  | x :: vs, o, w, g, h => by
    have := FnAt.setCells vs (o + 1) (h.set o x)
    refine FnAt.congr this fun p _ => ?_
    simp only [List.length_cons]
    by_cases e : p = o
    · subst e
      rw [if_neg (by omega), if_pos rfl, if_pos (by omega), Nat.sub_self]
      rfl
    · by_cases c : o + 1 ≤ p ∧ p < o + 1 + vs.length
      · rw [if_pos c, if_pos (by omega), show p - o = (p - (o + 1)) + 1 by omega]
        rfl
      · rw [if_neg c, if_neg e, if_neg (by omega)]
theorem FnAt.setCellsOther {b c : Nat} {t : TypeId} {n : Nat} {g : Nat → Value} (hne : b ≠ c) : ∀ (vs : List Value) (o : Nat) {w : World}, FnAt w b t n g → FnAt (w.setCells c o vs) b t n g
  | [], _, _, h => h
  | _ :: vs, o, _, h => FnAt.setCellsOther hne vs (o + 1) (h.other hne _)
theorem below_setCells {B c : Nat} {a : World} (hB : B ≤ c) : ∀ (vs : List Value) (o : Nat) {w : World}, Below B a w → Below B a (w.setCells c o vs)
  | [], _, _, h => h
  | _ :: vs, o, _, h => below_setCells hB vs (o + 1) (h.setCell (p := ⟨c, o, none⟩) hB _)
theorem fnC_list {n : Nat} {g : Nat → Value} {j : Nat} {v : Value} (h : (fnC n g).toList[j]? = some v) : j < n ∧ v = g j := by
  have hj : j < n := by
    have := (List.getElem?_eq_some_iff.1 h).1
    simpa [fnC] using this
  refine ⟨hj, ?_⟩
  rw [Array.getElem?_toList, fnC_at g hj] at h
  exact (Option.some.inj h).symm
theorem fnC_getD {n : Nat} {g : Nat → Value} {j : Nat} (hj : j < n) : (fnC n g).toList.getD j undef = g j := by
  rw [List.getD_eq_getElem?_getD, Array.getElem?_toList, fnC_at g hj]; rfl
theorem StAt.words {w : World} {b : Nat} {v : Sh.S8} {r : Nat → Nat} {n : Nat} (h : StAt w b v r n) : w.rangeAt b 0 (a8 v).toList := fun j x hx => by
  obtain ⟨hj, rfl⟩ := fnC_list hx
  rw [Nat.zero_add, h.cell (by omega)]
  unfold stV; rw [if_pos hj]
theorem StAt.rest {w : World} {b : Nat} {v : Sh.S8} {r : Nat → Nat} {n : Nat} (h : StAt w b v r n) : w.rangeAt b 8 (b64 r).toList := fun j x hx => by
  obtain ⟨hj, rfl⟩ := fnC_list hx
  rw [h.cell (by omega)]
  unfold stV; rw [if_neg (by omega), if_pos (by omega), Nat.add_sub_cancel_left]
theorem StAt.len {w : World} {b : Nat} {v : Sh.S8} {r : Nat → Nat} {n : Nat} (h : StAt w b v r n) : w.cell? ⟨b, 72, none⟩ = some (.int .i64 (n : Nat)) := h.cell (p := 72) (by omega)
theorem StAt.byte {w : World} {b : Nat} {v : Sh.S8} {r : Nat → Nat} {n : Nat} (h : StAt w b v r n) {p : Nat} (hp : p < 64) : w.cell? ⟨b, 8 + p, none⟩ = some (.int .u8 (r p : Nat)) := by
  rw [h.cell (by omega)]
  unfold stV; rw [if_neg (by omega), if_pos (by omega), Nat.add_sub_cancel_left]
theorem StAt.there {w : World} {b : Nat} {v : Sh.S8} {r : Nat → Nat} {n : Nat} (h : StAt w b v r n) {o m : Nat} (hm : o + m ≤ 73) : w.there b o m := fun j hj => ⟨by rw [h.cell (by omega)]; rfl, h.free _⟩
theorem StAt.setWords {w : World} {b : Nat} {v : Sh.S8} {r : Nat → Nat} {n : Nat} (h : StAt w b v r n) (v' : Sh.S8) : StAt (w.setCells b 0 (a8 v').toList) b v' r n := by
  refine FnAt.congr (FnAt.setCells (a8 v').toList 0 h) fun p _ => ?_
  have hl : (a8 v').toList.length = 8 := by simp [a8, fnC]
  rw [hl]
  by_cases c : p < 8
  · rw [if_pos (by omega), Nat.sub_zero, a8, fnC_getD c]
    unfold stV; rw [if_pos c]
  · rw [if_neg (by omega)]
    unfold stV; rw [if_neg c, if_neg c]
theorem StAt.setRest {w : World} {b : Nat} {v : Sh.S8} {r : Nat → Nat} {n : Nat} (h : StAt w b v r n) (r' : Nat → Nat) : StAt (w.setCells b 8 (b64 r').toList) b v r' n := by
  refine FnAt.congr (FnAt.setCells (b64 r').toList 8 h) fun p _ => ?_
  have hl : (b64 r').toList.length = 64 := by simp [b64, fnC]
  rw [hl]
  by_cases c : 8 ≤ p ∧ p < 8 + 64
  · rw [if_pos c, b64, fnC_getD (by omega)]
    unfold stV; rw [if_neg (by omega), if_pos (by omega)]
  · rw [if_neg c]
    unfold stV
    by_cases d : p < 8
    · rw [if_pos d, if_pos d]
    · rw [if_neg d, if_neg d, if_neg (by omega), if_neg (by omega)]
theorem StAt.setLen {w : World} {b : Nat} {v : Sh.S8} {r : Nat → Nat} {n : Nat} (h : StAt w b v r n) (n' : Nat) : StAt (w.setCell ⟨b, 72, none⟩ (.int .i64 (n' : Nat))) b v r n' := by
  refine FnAt.congr (h.set 72 _) fun p hp => ?_
  by_cases e : p = 72
  · subst e; rfl
  · rw [if_neg e]
    unfold stV
    by_cases d : p < 8
    · rw [if_pos d, if_pos d]
    · rw [if_neg d, if_neg d, if_pos (by omega), if_pos (by omega)]
theorem StAt.setByte {w : World} {b : Nat} {v : Sh.S8} {r : Nat → Nat} {n : Nat} (h : StAt w b v r n) {p : Nat} (hp : p < 64) (x : Nat) : StAt (w.setCell ⟨b, 8 + p, none⟩ (.int .u8 (x : Nat))) b v (fun q => if q = p then x else r q) n := by
  refine FnAt.congr (h.set (8 + p) _) fun q hq => ?_
  unfold stV
  by_cases e : q = 8 + p
  · subst e
    rw [if_pos rfl, if_neg (by omega), if_pos (by omega), Nat.add_sub_cancel_left]
    show _ = Value.int .u8 ((if p = p then x else r p : Nat) : Int)
    rw [if_pos rfl]
  · rw [if_neg e]
    by_cases d : q < 8
    · rw [if_pos d, if_pos d]
    · rw [if_neg d, if_neg d]
      by_cases c : q < 72
      · rw [if_pos c, if_pos c]
        show _ = Value.int .u8 ((if q - 8 = p then x else r (q - 8) : Nat) : Int)
        rw [if_neg (by omega)]
      · rw [if_neg c, if_neg c]
theorem StAt.congr {w : World} {b : Nat} {v : Sh.S8} {r r' : Nat → Nat} {n : Nat} (h : StAt w b v r n) (e : ∀ p, p < 64 → r p = r' p) : StAt w b v r' n := by
  refine FnAt.congr h fun q hq => ?_
  unfold stV
  by_cases d : q < 8
  · rw [if_pos d, if_pos d]
  · rw [if_neg d, if_neg d]
    by_cases c : q < 72
    · rw [if_pos c, if_pos c, e _ (by omega)]
    · rw [if_neg c, if_neg c]
theorem s8_len (v : Sh.S8) : (Tryz.prog.info? 111).map (·.size) = some (a8 v).toList.length := by rw [Array.length_toList]; exact s8_info' v
theorem b64_len (r : Nat → Nat) : (Tryz.prog.info? 114).map (·.size) = some (b64 r).toList.length := by rw [Array.length_toList]; exact b64_info' r
set_option maxRecDepth 100000 in
set_option maxHeartbeats 1000000 in
theorem new_any (w : World) : Calls Tryz.prog 57 #[] w fun e w' => ∃ b, e = .returned (.pointer (some ⟨b, 0, none⟩)) ∧ w.heap.size ≤ b ∧ StAt w' b Sh.iv8 (fun _ => 0) 0 ∧ Below w.heap.size w w' := by
  go_enter Tryz.func57, Tryz.ntmps57
  go_wp2_with fail
  refine (first_any w).mono ?_
  rintro e w1 ⟨rfl, hb1⟩
  rw [a8_lit]
  have hz := zero_st
  have hsz := st_size z8 (fun _ => 0) 0
  go_wp2_with fail
  go_ret
  refine ⟨_, rfl, hb1.size, ?_, hb1.alloc hb1.size _⟩
  rw [new_cells]
  exact heap_alloc_new _ _
end Go.Proofs.YtlpibpkbgmcclaaGreatDoor
namespace Go.Proofs.YtlpibpkbgmcclaaGreatDoor
open Go.RowKit
/-- the last block, with the length's bytes from the back, k of them -/
def lenB (r : Nat → Nat) (n k p : Nat) : Nat := if 64 - k ≤ p ∧ p < 64 then (8 * n) >>> (8 * (63 - p)) % 256 else r p
def markB (r : Nat → Nat) (a p : Nat) : Nat := if p = a then 128 else r p
/-- the state behind the end -/
def endS (v : Sh.S8) (r : Nat → Nat) (n : Nat) : Sh.S8 :=
  if n % 64 < 56 then Sh.blk v (lenB (markB r (n % 64)) n 8) else Sh.blk (Sh.blk v (markB r (n % 64))) (lenB (fun _ => 0) n 8)
theorem lenB_zero (r : Nat → Nat) (n p : Nat) : lenB r n 0 p = r p := by unfold lenB; rw [if_neg (by omega)]
theorem lenB_step (r : Nat → Nat) (n : Nat) {k : Nat} (hk : k < 8) (p : Nat) : (if p = 63 - k then (8 * n) >>> (8 * k) % 256 else lenB r n k p) = lenB r n (k + 1) p := by
  unfold lenB
  by_cases e : p = 63 - k
  · rw [if_pos e, if_pos (by omega)]
    congr 2
    omega
  · rw [if_neg e]
    by_cases c : 64 - k ≤ p ∧ p < 64
    · rw [if_pos c, if_pos (by omega)]
    · rw [if_neg c, if_neg (by omega)]
theorem lenB_lt {r : Nat → Nat} (h : ∀ p, r p < 256) (n k p : Nat) : lenB r n k p < 256 := by
  unfold lenB; split
  · exact Nat.mod_lt _ (by decide)
  · exact h p
theorem markB_lt {r : Nat → Nat} (h : ∀ p, r p < 256) (a p : Nat) : markB r a p < 256 := by
  unfold markB; split
  · decide
  · exact h p
theorem add8_in (u v : Sh.S8) : Sh.In (Sh.add8 u v) := by
  intro q
  unfold Sh.at8 Sh.add8
  split <;> exact Nat.mod_lt _ (by decide)
theorem blk_in (v : Sh.S8) (b : Nat → Nat) : Sh.In (Sh.blk v b) := by unfold Sh.blk; exact add8_in _ _
theorem len_u8 (n k : Nat) : (n : Int) * 8 / 2 ^ (8 * k) % 256 = (((8 * n) >>> (8 * k) % 256 : Nat) : Int) := by
  rw [Nat.shiftRight_eq_div_pow, Nat.mul_comm 8 n]
  simp
theorem StAt.there_words {w : World} {b : Nat} {v : Sh.S8} {r : Nat → Nat} {n : Nat} (h : StAt w b v r n) (u : Sh.S8) : w.there b 0 (a8 u).size := by rw [a8, fnC_size]; exact h.there (by omega)
theorem StAt.there_rest {w : World} {b : Nat} {v : Sh.S8} {r : Nat → Nat} {n : Nat} (h : StAt w b v r n) (f : Nat → Nat) : w.there b 8 (b64 f).size := by rw [b64, fnC_size]; exact h.there (by omega)
/-- what ended's parts keep -/
def EnRel (w wr : World) (v : Sh.S8) (r : Nat → Nat) (n : Nat) : Prop := StAt wr w.heap.size v r n ∧ S8At wr (w.heap.size + 1) z8 ∧ Below w.heap.size w wr
theorem EnRel.byte {w wr : World} {v : Sh.S8} {r : Nat → Nat} {n : Nat} (h : EnRel w wr v r n) {p : Nat} (hp : p < 64) (x : Nat) : EnRel w (wr.setCell ⟨w.heap.size, 8 + p, none⟩ (.int .u8 (x : Nat))) v (fun q => if q = p then x else r q) n :=
  ⟨h.1.setByte hp x, h.2.1.other (by simp) _, h.2.2.setCell (Nat.le_refl _) _⟩
theorem EnRel.congr {w wr : World} {v : Sh.S8} {r r' : Nat → Nat} {n : Nat} (h : EnRel w wr v r n) (e : ∀ p, p < 64 → r p = r' p) : EnRel w wr v r' n := ⟨h.1.congr e, h.2⟩
theorem EnRel.below {w wr w' : World} {v : Sh.S8} {r : Nat → Nat} {n : Nat} (h : EnRel w wr v r n) (hb : Below wr.heap.size wr w') : EnRel w w' v r n :=
  ⟨FnAt.below h.1 hb h.1.lt, FnAt.below h.2.1 hb h.2.1.lt, h.2.2.trans (hb.mono h.2.2.size)⟩
theorem EnRel.block {w wr : World} {v : Sh.S8} {r : Nat → Nat} {n : Nat} (h : EnRel w wr v r n) (v' : Sh.S8) (r' : Nat → Nat) : EnRel w ((wr.setCells w.heap.size 0 (a8 v').toList).setCells w.heap.size 8 (b64 r').toList) v' r' n :=
  ⟨(h.1.setWords v').setRest r', FnAt.setCellsOther (by omega) _ _ (FnAt.setCellsOther (by omega) _ _ h.2.1), below_setCells (Nat.le_refl _) _ _ (below_setCells (Nat.le_refl _) _ _ h.2.2)⟩
/-- the last part: the length's bytes, and the last block -/
theorem b64_zero : Array.replicate 64 (Value.int .u8 0) = b64 (fun _ => 0) := fnC_rep _ _
theorem blk_zero_info : (Tryz.prog.info? 114).map (fun i => i.zero) = some (some (.agg (Array.replicate 64 (.int .u8 0)))) := by kernel_rfl
theorem zero_blk (w : World) : Sem.run Tryz.prog (zeroValue 114) w = .ok (.agg (b64 fun _ => 0)) w := by
  have h := blk_zero_info
  cases hi : Tryz.prog.info? 114 with
  | none => rw [hi] at h; cases h
  | some i =>
    rw [hi] at h
    have hz : i.zero = some (.agg (Array.replicate 64 (.int .u8 0))) := by simpa using h
    simp [zeroValue, typeInfo, hi, hz, b64_zero]
set_option maxRecDepth 100000 in
set_option maxHeartbeats 1000000 in
theorem ended_any (v : Sh.S8) (r : Nat → Nat) (n : Nat) (w : World) (hK : KAt w) (hv : Sh.In v) (hr : ∀ p, r p < 256) (hn : n < 1099511627776) :
    Calls Tryz.prog 77 #[.agg (stC v r n)] w fun e w' => e = .returned (.agg (a8 (endS v r n))) ∧ Below w.heap.size w w' := by
  have hz8 := zero_s8
  have HST : Hid (EnRel w ((w.alloc (.cells (stC v r n) 116)).alloc (.cells (a8 z8) 111)) v r n) := by
    have h1 : StAt (w.alloc (.cells (stC v r n) 116)) w.heap.size v r n := heap_alloc_new _ _
    have h2 := heap_alloc_new (w.alloc (.cells (stC v r n) 116)) (.cells (a8 z8) 111)
    rw [World.size_alloc] at h2
    exact ⟨FnAt.alloc h1 _, h2, ((Below.refl _ _).alloc (Nat.le_refl _) _).alloc (by simp) _⟩
  have hl := HST.out.1.len
  have hmd : (n : Int) % 64 = ((n % 64 : Nat) : Int) := by omega
  have HE : Hid (endS v r n = if n % 64 < 56 then Sh.blk v (lenB (markB r (n % 64)) n 8) else Sh.blk (Sh.blk v (markB r (n % 64))) (lenB (fun _ => 0) n 8)) := rfl
  have hm : n % 64 < 64 := Nat.mod_lt _ (by decide)
  generalize n % 64 = m at *
  have hc1 := HST.out.1.byte hm
  have hf1 := HST.out.1.free (8 + m)
  have H1 : Hid (EnRel w (((w.alloc (.cells (stC v r n) 116)).alloc (.cells (a8 z8) 111)).setCell ⟨w.heap.size, 8 + m, none⟩ (.int .u8 128)) v (markB r m) n) := (HST.out.byte hm 128).congr (r' := markB r m) fun p _ => rfl
  clear HST
  have HK := hide hK
  have HV := hide hv
  have HR := hide hr
  clear hK hv hr
  generalize hW : (w.alloc (.cells (stC v r n) 116)).alloc (.cells (a8 z8) 111) = W at *
  go_enter Tryz.func77, Tryz.ntmps77
  by_cases h56 : m < 56
  · have hge : decide ((56 : Int) ≤ (m : Int)) = false := by simp; omega
    go_wp2_with fail
    have HX := H1
    clear H1
    clear hl hc1 hf1 hge hW hmd
    generalize W.setCell ⟨w.heap.size, 8 + m, none⟩ (.int .u8 128) = W1 at *
    go_loopw [26] (fun y wr => ∃ k : Nat, k ≤ 8 ∧ y = .int .i64 k ∧ EnRel w wr v (lenB (markB r m) n k) n) (fun y _ => 8 - (intOf y).toNat)
    case atStart => exact ⟨0, by omega, rfl, HX.out.congr fun p _ => (lenB_zero _ _ _).symm⟩
    case round =>
      obtain ⟨k, hk, rfl, hrel⟩ := hrel
      have H := hide hrel
      by_cases hlt : k < 8
      · obtain ⟨j, hj⟩ : ∃ j, j + k = 63 := ⟨63 - k, by omega⟩
        have hd : decide ((k : Int) < 8) = true := by simp; omega
        have hsub : (63 : Int) - (k : Int) = (j : Int) := by omega
        have hc := hrel.1.byte (p := j) (by omega)
        have hf := hrel.1.free (8 + j)
        have hj64 : j < 64 := by omega
        clear hrel
        go_wp2_with fail
        refine ⟨⟨k + 1, by omega, by go_num, ?_⟩, by simp [intOf]; omega⟩
        rw [len_u8]
        refine (H.out.byte hj64 _).congr fun p _ => ?_
        rw [← lenB_step _ _ hlt, show j = 63 - k by omega]
      · obtain rfl : k = 8 := by omega
        have hcz : ∀ u, (a8 z8).size = (a8 u).size := fun u => by rw [a8, a8, fnC_size, fnC_size]
        clear hrel
        go_wp2_with (first
          | (refine wpList_load_mid rfl 111 (.tmp 39) rfl w.heap.size 0 rfl (a8 v).toList _ H.out.1.words Tryz.underlying111 rfl (s8_len _) ?_)
          | (refine wpList_load_mid rfl 114 (.tmp 41) rfl w.heap.size 8 rfl (b64 (lenB (markB r m) n 8)).toList _ H.out.1.rest Tryz.underlying114 rfl (b64_len _) ?_))
        refine (mixed_any v (lenB (markB r m) n 8) wr (HK.out.below H.out.2.2) HV.out (lenB_lt (markB_lt HR.out m) n 8)).mono ?_
        rintro e w2 ⟨rfl, hb2⟩
        have H2 := hide (H.out.below hb2)
        clear hb2 H
        have hF : Hid (endS v r n = Sh.blk v (lenB (markB r m) n 8)) := by unfold Hid; rw [HE.out, if_pos h56]
        generalize Sh.blk v (lenB (markB r m) n 8) = F at *
        go_wp2_with (refine wpList_store_row rfl 111 (.tmp 2) (.tmp 43) rfl (w.heap.size + 1) (a8 F) rfl rfl 111 (a8 z8) H2.out.2.1 (s8_info' _) (hcz _) (a8_one _) ?_)
        refine bodyPost_ret (res_s8 rfl _ _ (w.heap.size + 1) _ rfl (FnAt.put H2.out.2.1 _)) rfl ⟨by rw [hF.out], below_setRow H2.out.2.2 (by omega) _⟩
  · have hge : decide ((56 : Int) ≤ (m : Int)) = true := by simp; omega
    obtain ⟨zf, hzf⟩ : ∃ zf : Nat → Nat, zf = fun _ => 0 := ⟨_, rfl⟩
    have hzb := zero_blk
    rw [← hzf] at hzb HE
    have HZ := hide hzf
    clear hzf
    have hl1 := H1.out.1.len
    go_wp2_with (first
      | (refine wpList_load_mid rfl 111 (.tmp 14) rfl w.heap.size 0 rfl (a8 v).toList _ H1.out.1.words Tryz.underlying111 rfl (s8_len _) ?_)
      | (refine wpList_load_mid rfl 114 (.tmp 16) rfl w.heap.size 8 rfl (b64 (markB r m)).toList _ H1.out.1.rest Tryz.underlying114 rfl (b64_len _) ?_))
    refine (mixed_any v (markB r m) _ (HK.out.below H1.out.2.2) HV.out (markB_lt HR.out m)).mono ?_
    have HIN := hide (blk_in v (markB r m))
    generalize Sh.blk v (markB r m) = U at *
    rintro e w2 ⟨rfl, hb2⟩
    have H2 := hide (H1.out.below hb2)
    clear hb2 hl hc1 hf1 hge hW hmd hl1
    have hlw : ((w2.setCells w.heap.size 0 (a8 U).toList).setCells w.heap.size 8 (b64 zf).toList).cell? ⟨w.heap.size, 72, none⟩ = some (.int .i64 (n : Nat)) := (H2.out.block U zf).1.len
    have HX := hide (H2.out.block U zf)
    have HY := hide (H2.out.1.setWords U)
    go_wp2_with (first
      | (refine wpList_store_mid rfl 111 (.tmp 19) (.tmp 18) rfl w.heap.size 0 (a8 U) rfl rfl (StAt.there_words H2.out.1 U) (s8_info' U) (a8_one U) ?_; generalize w2.setCells w.heap.size 0 (a8 U).toList = W3 at *)
      | (refine wpList_store_mid rfl 114 (.tmp 21) (.tmp 20) rfl w.heap.size 8 (b64 zf) rfl rfl ?_ (b64_info' zf) (b64_one zf) ?_; (exact StAt.there_rest HY.out zf); generalize W3.setCells w.heap.size 8 (b64 zf).toList = W2 at *))
    clear hlw HY H2 hzb
    go_loopw [26] (fun y wr => ∃ k : Nat, k ≤ 8 ∧ y = .int .i64 k ∧ EnRel w wr U (lenB zf n k) n) (fun y _ => 8 - (intOf y).toNat)
    case atStart => exact ⟨0, by omega, rfl, HX.out.congr fun p _ => (lenB_zero _ _ _).symm⟩
    case round =>
      obtain ⟨k, hk, rfl, hrel⟩ := hrel
      have H := hide hrel
      by_cases hlt : k < 8
      · obtain ⟨j, hj⟩ : ∃ j, j + k = 63 := ⟨63 - k, by omega⟩
        have hd : decide ((k : Int) < 8) = true := by simp; omega
        have hsub : (63 : Int) - (k : Int) = (j : Int) := by omega
        have hc := hrel.1.byte (p := j) (by omega)
        have hf := hrel.1.free (8 + j)
        have hj64 : j < 64 := by omega
        clear hrel
        go_wp2_with fail
        refine ⟨⟨k + 1, by omega, by go_num, ?_⟩, by simp [intOf]; omega⟩
        rw [len_u8]
        refine (H.out.byte hj64 _).congr fun p _ => ?_
        rw [← lenB_step _ _ hlt, show j = 63 - k by omega]
      · obtain rfl : k = 8 := by omega
        have hcz : ∀ u, (a8 z8).size = (a8 u).size := fun u => by rw [a8, a8, fnC_size, fnC_size]
        clear hrel
        go_wp2_with (first
          | (refine wpList_load_mid rfl 111 (.tmp 39) rfl w.heap.size 0 rfl (a8 U).toList _ H.out.1.words Tryz.underlying111 rfl (s8_len _) ?_)
          | (refine wpList_load_mid rfl 114 (.tmp 41) rfl w.heap.size 8 rfl (b64 (lenB zf n 8)).toList _ H.out.1.rest Tryz.underlying114 rfl (b64_len _) ?_))
        refine (mixed_any U (lenB zf n 8) wr (HK.out.below H.out.2.2) HIN.out (lenB_lt (fun _ => by rw [HZ.out]; exact (by decide : (0 : Nat) < 256)) n 8)).mono ?_
        rintro e w2 ⟨rfl, hb2⟩
        have H2 := hide (H.out.below hb2)
        clear hb2 H
        have hF : Hid (endS v r n = Sh.blk U (lenB zf n 8)) := by unfold Hid; rw [HE.out, if_neg h56]
        generalize Sh.blk U (lenB zf n 8) = F at *
        go_wp2_with (refine wpList_store_row rfl 111 (.tmp 2) (.tmp 43) rfl (w.heap.size + 1) (a8 F) rfl rfl 111 (a8 z8) H2.out.2.1 (s8_info' _) (hcz _) (a8_one _) ?_)
        refine bodyPost_ret (res_s8 rfl _ _ (w.heap.size + 1) _ rfl (FnAt.put H2.out.2.1 _)) rfl ⟨by rw [hF.out], below_setRow H2.out.2.2 (by omega) _⟩
end Go.Proofs.YtlpibpkbgmcclaaGreatDoor
