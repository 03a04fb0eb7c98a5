/- What digest.text, first and New answer. -/
import Derived.Test.YtlpibpkbgmcclaaDoorShMixed
namespace Go.Proofs.YtlpibpkbgmcclaaDoor
open Go.RowKit
/-- byte p of eight words -/
def by8 (v : Sh.S8) (p : Nat) : Nat := Sh.at8 v (p / 4) >>> (8 * (3 - p % 4)) % 256
theorem by8_lt (v : Sh.S8) (p : Nat) : by8 v p < 256 := Nat.mod_lt _ (by decide)
theorem by8_four (v : Sh.S8) (k : Nat) : bys (by8 v) (4 * (k + 1)) = bys (by8 v) (4 * k) ++ [.int .u8 (((Sh.at8 v k : Nat) : Int) / 16777216 % 256), .int .u8 (((Sh.at8 v k : Nat) : Int) / 65536 % 256), .int .u8 (((Sh.at8 v k : Nat) : Int) / 256 % 256), .int .u8 (((Sh.at8 v k : Nat) : Int) % 256)] := by
  rw [show 4 * (k + 1) = 4 * k + 1 + 1 + 1 + 1 by omega, bys_succ, bys_succ, bys_succ, bys_succ, List.append_assoc, List.append_assoc, List.append_assoc]
  congr 1
  have e : ∀ r, r < 4 → by8 v (4 * k + r) = Sh.at8 v k >>> (8 * (3 - r)) % 256 := fun r hr => by
    unfold by8
    rw [show (4 * k + r) / 4 = k by omega, show (4 * k + r) % 4 = r by omega]
  have e0 := e 0 (by omega)
  have e1 := e 1 (by omega)
  have e2 := e 2 (by omega)
  have e3 := e 3 (by omega)
  simp only [Nat.add_zero] at e0
  rw [e0, show 4 * k + 1 + 1 = 4 * k + 2 by omega, show 4 * k + 2 + 1 = 4 * k + 3 by omega, e1, e2, e3]
  simp only [Nat.shiftRight_eq_div_pow, List.cons_append, List.nil_append, Nat.reduceSub, Nat.reduceMul, Nat.reducePow, Nat.pow_zero, Nat.div_one, Nat.mul_zero, Nat.sub_self]
  simp
theorem a8_lit (v : Sh.S8) : a8 v = #[.int .u32 (v.a : Nat), .int .u32 (v.b : Nat), .int .u32 (v.c : Nat), .int .u32 (v.d : Nat), .int .u32 (v.e : Nat), .int .u32 (v.f : Nat), .int .u32 (v.g : Nat), .int .u32 (v.h : Nat)] := rfl
theorem index_a8 (v : Sh.S8) {k : Nat} (hk : k < 8) (w : World) : (Instr.index 100 (.agg (a8 v)) (.int .i64 (k : Int))).run Tryd.prog w = .ok (.int .u32 (Sh.at8 v k : Nat)) w := by
  have hi := u32_size
  cases hq : Tryd.prog.info? 95 with
  | none => rw [hq] at hi; cases hi
  | some i =>
    rw [hq] at hi
    have h1 : i.size = 1 := by simpa using hi
    rw [a8_lit]
    rcases lt8' hk with rfl | rfl | rfl | rfl | rfl | rfl | rfl | rfl <;> simp [Instr.index, run_underlying Tryd.underlying100, asIntOf, sizeOf, typeInfo, hq, h1, go_sem, Sh.at8]
def TxRel (w wr : World) (v : Sh.S8) (x : Value) (k : Nat) : Prop := wr.ownsRow w.heap.size 5 1 x (4 * k) (bys (by8 v) (4 * k)) ∧ Below w.heap.size w wr
theorem cells_new (w : World) (l : List Value) (t : TypeId) : ∀ j u, l[j]? = some u → (w.alloc (.cells l.toArray t)).cell? ((⟨w.heap.size, 0, none⟩ : Addr).add j) = some u := fun j u h => by
  rw [add_zero_at, World.cell?_alloc_new]
  simpa using h
theorem txRel_step {w wr w1 : World} {v : Sh.S8} {y v' : Value} {k x : Nat} {o : Obj} (h : TxRel w wr v y k) (hx : x < 4294967296) (e : Sh.at8 v k = x) (hown : w1.ownsRow w.heap.size 5 1 v' (4 * k + 4) (bys (by8 v) (4 * k) ++ [.int .u8 ((x : Int) / 16777216), .int .u8 ((x : Int) / 65536 % 256), .int .u8 ((x : Int) / 256 % 256), .int .u8 ((x : Int) % 256)])) (hgr : (wr.alloc o).grownBy w1 y.ownBlock) : TxRel w w1 v v' (k + 1) := by
  refine ⟨?_, ?_⟩
  · rw [by8_four, e, show 4 * (k + 1) = 4 * k + 4 by omega, show (x : Int) / 16777216 % 256 = (x : Int) / 16777216 by omega]
    exact hown
  · refine Below.grown (h.2.alloc h.2.size o) hgr ?_ fun g hg => row_base h.1 hg
    rw [World.size_alloc]
    exact Nat.le_succ_of_le h.2.size
set_option maxRecDepth 100000 in
set_option maxHeartbeats 1000000 in
theorem text_any (v : Sh.S8) (w : World) (hv : Sh.In v) :
    Calls Tryd.prog 65 #[.agg (a8 v)] w fun e w' => e = .returned (.string (mkS 32 (by8 v))) ∧ Below w.heap.size w w' := by
  have hA : S8At (w.alloc (.cells (a8 v) 100)) w.heap.size v := heap_alloc_new _ _
  have HA := hide hA
  clear hA
  have hmk := make_room 32 (by omega) (w.alloc (.cells (a8 v) 100))
  rw [show ((32 : Nat) : Int) = 32 from rfl] at hmk
  have HST : Hid (TxRel w ((w.alloc (.cells (a8 v) 100)).alloc (.cells (fnC 32 fun _ => .int .u8 0) 5)) v (.slice (some ⟨w.heap.size + 1, 0, none⟩) 0 32) 0) := by
    have := room_own 32 (by omega) (w.alloc (.cells (a8 v) 100)) (by8 v) w.heap.size (by simp)
    rw [World.size_alloc] at this
    exact ⟨this, ((Below.refl _ _).alloc (Nat.le_refl _) _).alloc (by simp) _⟩
  have HA2 := hide (FnAt.alloc HA.out (.cells (fnC 32 fun _ => .int .u8 0) 5))
  obtain ⟨i0, hi0, hz0, hz1, hz2⟩ := info_parts u8_info
  have HI := hide hi0
  have HI0 := hide hz0
  have HI1 := hide hz1
  have HI2 := hide hz2
  clear hi0 hz0 hz1 hz2
  go_enter Tryd.func65, Tryd.ntmps65
  go_wp2_with (refine wpList_load_row rfl 100 (.tmp 1) rfl w.heap.size rfl 100 (a8 v) (0, 0) _ HA2.out Tryd.underlying100 rfl (s8_info' _) ?_)
  clear hmk HA HA2
  go_loopw [3, 8] (fun x y wr => ∃ k : Nat, k ≤ 8 ∧ y = .int .i64 k ∧ TxRel w wr v x k) (fun _ y _ => 8 - (intOf y).toNat)
  case atStart => exact ⟨0, by omega, rfl, HST.out⟩
  case round =>
    obtain ⟨k, hk, rfl, hrel⟩ := hrel
    have H := hide hrel
    have hsz := hrel.2.size
    clear hrel
    by_cases hlt : k < 8
    · have hd : decide ((k : Int) < 8) = true := by simp; omega
      have hx := hv k
      have hix := index_a8 v hlt wr
      generalize hX : Sh.at8 v k = x at *
      have HX := hide hX
      clear hX
      go_wp2_with (first | (at_builtin; refine wpList_append_own _ rfl (.tmp 11) (.tmp 23) 48 rfl w.heap.size 5 i0 (.int .u8 0) 1 1 Tryd.underlying48 HI.out HI0.out HI1.out HI2.out rfl (by decide) _ (4 * k) (bys (by8 v) (4 * k)) rfl (H.out.1.alloc _) ⟨wr.heap.size, 0, none⟩ 4 4 [.int .u8 ((x : Int) / 16777216), .int .u8 ((x : Int) / 65536 % 256), .int .u8 ((x : Int) / 256 % 256), .int .u8 ((x : Int) % 256)] rfl rfl (cells_new _ _ _) (by simp [Value.oneCell']) (by unfold maxLen; omega) (by omega) (by simp; omega) ?_; intro v' w3 hown hgr hnil; clear hnil; have HN3 := hide (txRel_step H.out hx HX.out hown hgr); clear hown hgr hix))
      exact ⟨⟨k + 1, by omega, by go_num, HN3.out⟩, by simp [intOf]; omega⟩
    · obtain rfl : k = 8 := by omega
      have hcv := own_string H.out.1
      go_wp2_with fail
      go_ret
      exact ⟨rfl, H.out.2⟩
set_option maxRecDepth 100000 in
set_option maxHeartbeats 1000000 in
theorem first_any (w : World) : Calls Tryd.prog 63 #[] w fun e w' => e = .returned (.agg (a8 Sh.iv8)) ∧ Below w.heap.size w w' := by
  go_enter Tryd.func63, Tryd.ntmps63
  go_wp2_with fail
  refine bodyPost_ret (res_s8 rfl _ _ w.heap.size Sh.iv8 rfl (heap_alloc_new _ _)) rfl ⟨rfl, (Below.refl _ _).alloc (Nat.le_refl _) _⟩
end Go.Proofs.YtlpibpkbgmcclaaDoor
