/- What sluicegateref03.words answers: the 64 words of a block, in a row of their own. What sluicegateref03.block answers: the state behind a block, in a row of its own. -/
import Derived.Test.YtlpibpkbgmcclaaGreatDoorShSpread
import Derived.Test.YtlpibpkbgmcclaaGreatDoorShMixed
import Derived.Test.YtlpibpkbgmcclaaGreatDoorShTextX
import Derived.Deep.AppendSrc
import Derived.Lib.QuietBelow
namespace Go.Proofs.YtlpibpkbgmcclaaGreatDoor
open Go.RowKit
def u32V (l : List Nat) : List Value := l.map fun n : Nat => .int .u32 (n : Int)
theorem u32_info : (Tryz.prog.info? 75).map (fun i => (i.zero, i.size, i.bytes)) = some (some (.int .u32 0), 1, 4) := by kernel_rfl
def WdRel (w wr : World) (b : Nat → Nat) (v : Value) (k : Nat) : Prop := wr.ownsRow w.heap.size 75 1 v k (u32V (Sh.wl b k)) ∧ Below w.heap.size w wr
theorem shl_u32 {x n : Nat} (h : x * 2 ^ n < 4294967296) : IntKind.u32.wrap ((x : Int) * ((2 ^ n : Nat) : Int)) = ((x <<< n : Nat) : Int) := by
  rw [IntKind.wrap_u32', Nat.shiftLeft_eq, ← Int.natCast_mul]
  omega
theorem word_int {b : Nat → Nat} (k : Nat) (hb : ∀ p, b p < 256) : bits .or .u32 (bits .or .u32 (bits .or .u32 (IntKind.u32.wrap (((b (4 * k) : Nat) : Int) * 16777216)) (IntKind.u32.wrap (((b (4 * k + 1) : Nat) : Int) * 65536))) (IntKind.u32.wrap (((b (4 * k + 2) : Nat) : Int) * 256))) ((b (4 * k + 3) : Nat) : Int) = ((Sh.wd b k : Nat) : Int) := by
  have l0 := hb (4 * k)
  have l1 := hb (4 * k + 1)
  have l2 := hb (4 * k + 2)
  have l3 := hb (4 * k + 3)
  have e0 := shl_u32 (x := b (4 * k)) (n := 24) (by omega)
  have e1 := shl_u32 (x := b (4 * k + 1)) (n := 16) (by omega)
  have e2 := shl_u32 (x := b (4 * k + 2)) (n := 8) (by omega)
  have m0 : b (4 * k) <<< 24 < 2 ^ 32 := by rw [Nat.shiftLeft_eq]; omega
  have m1 : b (4 * k + 1) <<< 16 < 2 ^ 32 := by rw [Nat.shiftLeft_eq]; omega
  have m2 : b (4 * k + 2) <<< 8 < 2 ^ 32 := by rw [Nat.shiftLeft_eq]; omega
  rw [show (16777216 : Int) = ((2 ^ 24 : Nat) : Int) from rfl, show (65536 : Int) = ((2 ^ 16 : Nat) : Int) from rfl, show (256 : Int) = ((2 ^ 8 : Nat) : Int) from rfl, e0, e1, e2,
    u32_or_nat _ _ m0 m1, u32_or_nat _ _ (Nat.or_lt_two_pow m0 m1) m2, u32_or_nat _ _ (Nat.or_lt_two_pow (Nat.or_lt_two_pow m0 m1) m2) (by omega)]
  rfl
theorem wdRel_put {w wr w1 : World} {b : Nat → Nat} {v v' : Value} {k x : Nat} {o : Obj} (h : WdRel w wr b v k) (hx : x = Sh.nxt b (Sh.wl b k) k) (hown : w1.ownsRow w.heap.size 75 1 v' (k + 1) (u32V (Sh.wl b k) ++ [.int .u32 (x : Int)])) (hgr : (wr.drew.alloc o).grownBy w1 v.ownBlock) : WdRel w w1 b v' (k + 1) := by
  refine ⟨?_, ?_⟩
  · unfold u32V at *
    rw [Sh.wl, List.map_append, ← hx]
    exact hown
  · refine Below.grown (h.2.drew.alloc h.2.size o) hgr ?_ fun g hg => row_base h.1 hg
    rw [World.size_alloc]
    exact Nat.le_succ_of_le h.2.size
theorem wdRel_word {w wr w1 : World} {b : Nat → Nat} {v v' : Value} {k : Nat} {o : Obj} (hk : k < 16) (hb : ∀ p, b p < 256) (h : WdRel w wr b v k) (hown : w1.ownsRow w.heap.size 75 1 v' (k + 1) (u32V (Sh.wl b k) ++ [.int .u32 (bits .or .u32 (bits .or .u32 (bits .or .u32 (IntKind.u32.wrap (((b (4 * k) : Nat) : Int) * 16777216)) (IntKind.u32.wrap (((b (4 * k + 1) : Nat) : Int) * 65536))) (IntKind.u32.wrap (((b (4 * k + 2) : Nat) : Int) * 256))) ((b (4 * k + 3) : Nat) : Int))])) (hgr : (wr.drew.alloc o).grownBy w1 v.ownBlock) : WdRel w w1 b v' (k + 1) := by
  rw [word_int k hb] at hown
  exact wdRel_put h (by unfold Sh.nxt; rw [if_pos hk]) hown hgr
theorem WdRel.bel {w wr : World} {b : Nat → Nat} {v : Value} {k : Nat} (h : WdRel w wr b v k) : Below w.heap.size w wr := h.2
theorem WdRel.form {w wr : World} {b : Nat → Nat} {v : Value} {k : Nat} (h : WdRel w wr b v k) (hk : 0 < k) : ∃ g cp, v = .slice (some ⟨g, 0, none⟩) k cp ∧ k ≤ cp ∧ cp ≤ maxLen ∧ ∀ i, i < k → wr.cell? ⟨g, i, none⟩ = some (.int .u32 (Sh.ww b i : Nat)) := by
  obtain ⟨hl, ⟨rfl, h0⟩ | ⟨g, cap, cur, rfl, hb, hg, hc, hm, hs, ht⟩⟩ := h.1
  · omega
  · refine ⟨g, cap, rfl, hc, hm, fun i hi => ?_⟩
    rw [cell_of_block hg]
    have h1 : (cur.toList.take (k * 1))[i]? = (u32V (Sh.wl b k))[i]? := by rw [ht]
    rw [List.getElem?_take, if_pos (by omega), Array.getElem?_toList] at h1
    rw [h1]
    unfold u32V
    rw [List.getElem?_map, Sh.wl_at b hi]
    rfl
theorem refRot_7 (x : Nat) (w : World) (n : Nat) (hx : x < 4294967296) :
    Calls Tryz.prog 49 #[.int .u32 (x : Int), .int .u64 7] (w.drewN n) fun e w' => e = .returned (.int .u32 (Sh.rot x 7 : Nat)) ∧ ∃ m, w' = w.drewN m :=
  Calls.quiet_of_same ((refRot_any x 7 (w.drewN n) hx (by decide) (by decide)).mono fun _ _ h => ⟨h.1, h.2.symm⟩)
theorem refRot_18 (x : Nat) (w : World) (n : Nat) (hx : x < 4294967296) :
    Calls Tryz.prog 49 #[.int .u32 (x : Int), .int .u64 18] (w.drewN n) fun e w' => e = .returned (.int .u32 (Sh.rot x 18 : Nat)) ∧ ∃ m, w' = w.drewN m :=
  Calls.quiet_of_same ((refRot_any x 18 (w.drewN n) hx (by decide) (by decide)).mono fun _ _ h => ⟨h.1, h.2.symm⟩)
theorem refRot_17 (x : Nat) (w : World) (n : Nat) (hx : x < 4294967296) :
    Calls Tryz.prog 49 #[.int .u32 (x : Int), .int .u64 17] (w.drewN n) fun e w' => e = .returned (.int .u32 (Sh.rot x 17 : Nat)) ∧ ∃ m, w' = w.drewN m :=
  Calls.quiet_of_same ((refRot_any x 17 (w.drewN n) hx (by decide) (by decide)).mono fun _ _ h => ⟨h.1, h.2.symm⟩)
theorem refRot_19 (x : Nat) (w : World) (n : Nat) (hx : x < 4294967296) :
    Calls Tryz.prog 49 #[.int .u32 (x : Int), .int .u64 19] (w.drewN n) fun e w' => e = .returned (.int .u32 (Sh.rot x 19 : Nat)) ∧ ∃ m, w' = w.drewN m :=
  Calls.quiet_of_same ((refRot_any x 19 (w.drewN n) hx (by decide) (by decide)).mono fun _ _ h => ⟨h.1, h.2.symm⟩)
theorem WdRel.drewN {w wr : World} {b : Nat → Nat} {v : Value} {k : Nat} (h : WdRel w wr b v k) (n : Nat) : WdRel w (wr.drewN n) b v k := ⟨h.1, below_draws h.2 n⟩
theorem s0_int {x : Nat} (hx : x < 4294967296) : bits .xor .u32 (bits .xor .u32 ((Sh.rot x 7 : Nat) : Int) ((Sh.rot x 18 : Nat) : Int)) ((x : Int) / 8) = ((Sh.s0 x : Nat) : Int) := by
  rw [show (x : Int) / (8 : Int) = ((x >>> 3 : Nat) : Int) by rw [Nat.shiftRight_eq_div_pow]; omega]
  exact xor3_int (Sh.rot_lt hx) (Sh.rot_lt hx) (Nat.lt_of_le_of_lt (Nat.shiftRight_le x 3) hx)
theorem s1_int {x : Nat} (hx : x < 4294967296) : bits .xor .u32 (bits .xor .u32 ((Sh.rot x 17 : Nat) : Int) ((Sh.rot x 19 : Nat) : Int)) ((x : Int) / 1024) = ((Sh.s1 x : Nat) : Int) := by
  rw [show (x : Int) / (1024 : Int) = ((x >>> 10 : Nat) : Int) by rw [Nat.shiftRight_eq_div_pow]; omega]
  exact xor3_int (Sh.rot_lt hx) (Sh.rot_lt hx) (Nat.lt_of_le_of_lt (Nat.shiftRight_le x 10) hx)
theorem k4_drew {W : World} {B o p : Nat} {x1 x2 x3 x4 : Option Value} (h : W.cell? ⟨B, o + p, none⟩ = x1 ∧ W.cell? ⟨B, o + (p + 1), none⟩ = x2 ∧ W.cell? ⟨B, o + (p + 2), none⟩ = x3 ∧ W.cell? ⟨B, o + (p + 3), none⟩ = x4) :
    W.drew.cell? ⟨B, o + p, none⟩ = x1 ∧ W.drew.cell? ⟨B, o + (p + 1), none⟩ = x2 ∧ W.drew.cell? ⟨B, o + (p + 2), none⟩ = x3 ∧ W.drew.cell? ⟨B, o + (p + 3), none⟩ = x4 := h
theorem k4_below {W W' : World} {B o p n : Nat} {x1 x2 x3 x4 : Option Value} (hb : Below n W W') (hB : B < n) (h : W.cell? ⟨B, o + p, none⟩ = x1 ∧ W.cell? ⟨B, o + (p + 1), none⟩ = x2 ∧ W.cell? ⟨B, o + (p + 2), none⟩ = x3 ∧ W.cell? ⟨B, o + (p + 3), none⟩ = x4) :
    W'.cell? ⟨B, o + p, none⟩ = x1 ∧ W'.cell? ⟨B, o + (p + 1), none⟩ = x2 ∧ W'.cell? ⟨B, o + (p + 2), none⟩ = x3 ∧ W'.cell? ⟨B, o + (p + 3), none⟩ = x4 :=
  ⟨(hb.cell (p := ⟨B, o + p, none⟩) hB).trans h.1, (hb.cell (p := ⟨B, o + (p + 1), none⟩) hB).trans h.2.1, (hb.cell (p := ⟨B, o + (p + 2), none⟩) hB).trans h.2.2.1, (hb.cell (p := ⟨B, o + (p + 3), none⟩) hB).trans h.2.2.2⟩
set_option maxRecDepth 100000 in
set_option maxHeartbeats 4000000 in
theorem refWords_any (bb o cap : Nat) (b : Nat → Nat) (w : World) (hb : ∀ p, b p < 256) (hbb : bb < w.heap.size) (hc : ∀ p, p < 64 → w.cell? ⟨bb, o + p, none⟩ = some (.int .u8 (b p : Nat))) :
    Calls Tryz.prog 48 #[.slice (some ⟨bb, o, none⟩) 64 cap] w fun e w' => ∃ v, e = .returned v ∧ w'.ownsRow w.heap.size 75 1 v 64 (u32V (Sh.wl b 64)) ∧ Below w.heap.size w w' := by
  obtain ⟨i0, hi0, hz0, hz1, hz2⟩ := info_parts u32_info
  have HI := hide hi0
  have HI0 := hide hz0
  have HI1 := hide hz1
  have HI2 := hide hz2
  have HC := hide hc
  have HBT := hide hb
  clear hi0 hz0 hz1 hz2 hc
  go_enter Tryz.func48, Tryz.ntmps48
  go_wp2_with fail
  go_loopw [3, 4] (fun v y wr => ∃ k : Nat, k ≤ 16 ∧ y = .int .i64 k ∧ WdRel w wr b v k) (fun _ y _ => 16 - (intOf y).toNat)
  case atStart => exact ⟨0, by omega, rfl, World.ownsRow_nil _ _ _ _, Below.refl _ _⟩
  case round =>
    obtain ⟨k, hk, rfl, hrel⟩ := hrel
    have H := hide hrel
    have hsz := hrel.2.size
    clear hrel
    by_cases hlt : k < 16
    · have hS0 : wr.cell? ⟨bb, o + 4 * k, none⟩ = some (.int .u8 (b (4 * k) : Nat)) ∧ wr.cell? ⟨bb, o + (4 * k + 1), none⟩ = some (.int .u8 (b (4 * k + 1) : Nat)) ∧ wr.cell? ⟨bb, o + (4 * k + 2), none⟩ = some (.int .u8 (b (4 * k + 2) : Nat)) ∧ wr.cell? ⟨bb, o + (4 * k + 3), none⟩ = some (.int .u8 (b (4 * k + 3) : Nat)) :=
        k4_below H.out.2 hbb ⟨HC.out (4 * k) (by omega), HC.out (4 * k + 1) (by omega), HC.out (4 * k + 2) (by omega), HC.out (4 * k + 3) (by omega)⟩
      have hk0 : (0 : Int) ≤ (k : Int) := Int.natCast_nonneg _
      have b0 : 4 * (k : Int) < 64 := by omega
      have b1 : 4 * (k : Int) + 1 < 64 := by omega
      have b2 : 4 * (k : Int) + 2 < 64 := by omega
      have b3 : 4 * (k : Int) + 3 < 64 := by omega
      have hw0 : IntKind.i64.wrap (4 * (k : Int)) = 4 * (k : Int) := by rw [IntKind.wrap_i64]; omega
      have hw1 : IntKind.i64.wrap (4 * (k : Int) + 1) = 4 * (k : Int) + 1 := by rw [IntKind.wrap_i64]; omega
      have hw2 : IntKind.i64.wrap (4 * (k : Int) + 2) = 4 * (k : Int) + 2 := by rw [IntKind.wrap_i64]; omega
      have hw3 : IntKind.i64.wrap (4 * (k : Int) + 3) = 4 * (k : Int) + 3 := by rw [IntKind.wrap_i64]; omega
      have ht0 : (4 * (k : Int)).toNat = 4 * k := by omega
      have ht1 : (4 * (k : Int) + 1).toNat = 4 * k + 1 := by omega
      have ht2 : (4 * (k : Int) + 2).toNat = 4 * k + 2 := by omega
      have ht3 : (4 * (k : Int) + 3).toNat = 4 * k + 3 := by omega
      have hn0 : (0 : Int) ≤ 4 * (k : Int) := by omega
      have hn1 : (0 : Int) ≤ 4 * (k : Int) + 1 := by omega
      have hn2 : (0 : Int) ≤ 4 * (k : Int) + 2 := by omega
      have hn3 : (0 : Int) ≤ 4 * (k : Int) + 3 := by omega
      have hu0 : IntKind.u32.wrap ((b (4 * k) : Nat) : Int) = ((b (4 * k) : Nat) : Int) := by have := hb (4 * k); rw [IntKind.wrap_u32']; omega
      have hu1 : IntKind.u32.wrap ((b (4 * k + 1) : Nat) : Int) = ((b (4 * k + 1) : Nat) : Int) := by have := hb (4 * k + 1); rw [IntKind.wrap_u32']; omega
      have hu2 : IntKind.u32.wrap ((b (4 * k + 2) : Nat) : Int) = ((b (4 * k + 2) : Nat) : Int) := by have := hb (4 * k + 2); rw [IntKind.wrap_u32']; omega
      have hu3 : IntKind.u32.wrap ((b (4 * k + 3) : Nat) : Int) = ((b (4 * k + 3) : Nat) : Int) := by have := hb (4 * k + 3); rw [IntKind.wrap_u32']; omega
      go_wp2_with fail
      go_region_held3 (fun w' => w'.cell? ⟨bb, o + 4 * k, none⟩ = some (.int .u8 (b (4 * k) : Nat)) ∧ w'.cell? ⟨bb, o + (4 * k + 1), none⟩ = some (.int .u8 (b (4 * k + 1) : Nat)) ∧ w'.cell? ⟨bb, o + (4 * k + 2), none⟩ = some (.int .u8 (b (4 * k + 2) : Nat)) ∧ w'.cell? ⟨bb, o + (4 * k + 3), none⟩ = some (.int .u8 (b (4 * k + 3) : Nat)))
        (first | (with_reducible refine k4_drew ?_; assumption) | (with_reducible exact k4_below ((Below.refl wr.heap.size wr).drew.alloc (Nat.le_refl _) _) (Nat.lt_of_lt_of_le hbb hsz) hS0) | (with_reducible exact k4_below (WdRel.bel HN3.out) hbb ⟨HC.out (4 * k) (by omega), HC.out (4 * k + 1) (by omega), HC.out (4 * k + 2) (by omega), HC.out (4 * k + 3) (by omega)⟩))
        (first | (refine step_append_own rfl (.tmp 12) (.tmp 46) 76 rfl w.heap.size 75 i0 (.int .u32 0) 1 4 Tryz.underlying76 HI.out HI0.out HI1.out HI2.out rfl (by decide) _ k (u32V (Sh.wl b k)) (by simp [Act.eval]) ((own_drew H.out.1).alloc _) ⟨wr.heap.size, 0, none⟩ 1 1 [.int .u32 (bits .or .u32 (bits .or .u32 (bits .or .u32 (IntKind.u32.wrap (((b (4 * k) : Nat) : Int) * 16777216)) (IntKind.u32.wrap (((b (4 * k + 1) : Nat) : Int) * 65536))) (IntKind.u32.wrap (((b (4 * k + 2) : Nat) : Int) * 256))) ((b (4 * k + 3) : Nat) : Int))] (by simp [Act.eval]) rfl (cell_one_new wr.drew _ _) (by simp [Value.oneCell']) (by unfold maxLen; omega) (by omega) (by simp; omega) ?_; intro v' w3 hown hgr hnil; clear hnil; have HN3 := hide (wdRel_word hlt HBT.out H.out hown hgr); clear hown hgr))
      all_goals
        rename_i hS
        clear hS hS0
        go_wp2_with fail
        exact ⟨⟨k + 1, by omega, by go_num, HN3.out⟩, by simp [intOf]; omega⟩
    · have he : k = 16 := by omega
      have H0 : Hid (WdRel w wr b u3 16) := by unfold Hid; rw [← he]; exact H.out
      clear H he
      go_wp2_with fail
      go_loopw [3, 5] (fun v y wr => ∃ k : Nat, 16 ≤ k ∧ k ≤ 64 ∧ y = .int .i64 k ∧ WdRel w wr b v k) (fun _ y _ => 64 - (intOf y).toNat)
      case atStart => exact ⟨16, by omega, by omega, rfl, H0.out⟩
      case round =>
        obtain ⟨k, hk16, hk, rfl, hrel⟩ := hrel
        by_cases hlt : k < 64
        · obtain ⟨g, cp, rfl, hkc, hcm, hcl⟩ := hrel.form (by omega)
          have H := hide hrel
          have hsz := hrel.2.size
          have HCL := hide hcl
          clear hrel hcl
          have l1 := Sh.ww_lt HBT.out (k - 15)
          have l2 := Sh.ww_lt HBT.out (k - 2)
          have c1 := HCL.out (k - 15) (by omega)
          have c2 := HCL.out (k - 2) (by omega)
          have hnk : k ≤ maxLen := Nat.le_trans hkc hcm
          have hw15 : IntKind.i64.wrap ((k : Int) - 15) = (k : Int) - 15 := by rw [IntKind.wrap_i64]; omega
          have hn15 : (15 : Int) ≤ (k : Int) := by omega
          have hb15 : (k : Int) - 15 < (k : Int) := by omega
          have ht15 : ((k : Int) - 15).toNat = k - 15 := by omega
          have hw2 : IntKind.i64.wrap ((k : Int) - 2) = (k : Int) - 2 := by rw [IntKind.wrap_i64]; omega
          have hn2 : (2 : Int) ≤ (k : Int) := by omega
          have hb2 : (k : Int) - 2 < (k : Int) := by omega
          have ht2 : ((k : Int) - 2).toNat = k - 2 := by omega
          have hd : decide ((k : Int) < 64) = true := by simp; omega
          go_wp2_with fail
          go_quiet (first | (go_at_call 49; with_reducible exact refRot_7 _ _ _ l1) | (go_at_call 49; with_reducible exact refRot_18 _ _ _ l1))
          rw [s0_int l1]
          have HQ := hide (H.out.drewN nq)
          clear c1 c2 HCL
          generalize wr.drewN nq = wq at *
          generalize hX : Sh.s0 (Sh.ww b (k - 15)) = X at *
          have HX := hide hX
          clear hX H hsz
          have hsz := HQ.out.2.size
          obtain ⟨g', cp', hgg, _, _, hcl⟩ := HQ.out.form (by omega)
          cases hgg
          have HCL := hide hcl
          clear hcl
          have c2 := HCL.out (k - 2) (by omega)
          go_wp2_with fail
          go_quiet (first | (go_at_call 49; with_reducible exact refRot_17 _ _ _ l2) | (go_at_call 49; with_reducible exact refRot_19 _ _ _ l2))
          rw [s1_int l2]
          have HR := hide (HQ.out.drewN nq)
          clear c2 HCL HQ hsz
          generalize wq.drewN nq = wp at *
          generalize hY : Sh.s1 (Sh.ww b (k - 2)) = Y at *
          have HY := hide hY
          clear hY
          have hsz := HR.out.2.size
          obtain ⟨g', cp', hgg, _, _, hcl⟩ := HR.out.form (by omega)
          cases hgg
          have HCL := hide hcl
          clear hcl
          have c3 := HCL.out (k - 16) (by omega)
          have c4 := HCL.out (k - 7) (by omega)
          have hw16 : IntKind.i64.wrap ((k : Int) - 16) = (k : Int) - 16 := by rw [IntKind.wrap_i64]; omega
          have hn16 : (16 : Int) ≤ (k : Int) := by omega
          have hb16 : (k : Int) - 16 < (k : Int) := by omega
          have ht16 : ((k : Int) - 16).toNat = k - 16 := by omega
          have hw7 : IntKind.i64.wrap ((k : Int) - 7) = (k : Int) - 7 := by rw [IntKind.wrap_i64]; omega
          have hn7 : (7 : Int) ≤ (k : Int) := by omega
          have hb7 : (k : Int) - 7 < (k : Int) := by omega
          have ht7 : ((k : Int) - 7).toNat = k - 7 := by omega
          have HN : Hid (∀ v' w1 o, w1.ownsRow w.heap.size 75 1 v' (k + 1) (u32V (Sh.wl b k) ++ [.int .u32 (IntKind.u32.wrap (IntKind.u32.wrap (IntKind.u32.wrap (((Sh.ww b (k - 16) : Nat) : Int) + (X : Int)) + ((Sh.ww b (k - 7) : Nat) : Int)) + (Y : Int)))]) → (wp.drew.alloc o).grownBy w1 (Value.slice (some ⟨g, 0, none⟩) k cp).ownBlock → WdRel w w1 b v' (k + 1)) := by
            intro v' w1 o hown hgr
            rw [← HX.out, ← HY.out, ww_int hk16] at hown
            exact wdRel_put HR.out rfl hown hgr
          go_wp2_with fail
          go_region_law (refine step_append_own rfl (.tmp 92) (.tmp 108) 76 rfl w.heap.size 75 i0 (.int .u32 0) 1 4 Tryz.underlying76 HI.out HI0.out HI1.out HI2.out rfl (by decide) _ k (u32V (Sh.wl b k)) (by simp [Act.eval]) ((own_drew HR.out.1).alloc _) ⟨wp.heap.size, 0, none⟩ 1 1 [.int .u32 (IntKind.u32.wrap (IntKind.u32.wrap (IntKind.u32.wrap (((Sh.ww b (k - 16) : Nat) : Int) + (X : Int)) + ((Sh.ww b (k - 7) : Nat) : Int)) + (Y : Int)))] (by simp [Act.eval]) rfl (cell_one_new wp.drew _ _) (by simp [Value.oneCell']) (by unfold maxLen; omega) (by omega) (by simp; omega) ?_; intro v' w3 hown hgr hnil; clear hnil; have HN3 := hide (HN.out _ _ _ hown hgr); clear hown hgr)
          all_goals
            clear c3 c4 HN
            go_wp2_with fail
            exact ⟨⟨k + 1, by omega, by omega, by go_num, HN3.out⟩, by simp [intOf]; omega⟩
        · obtain rfl : k = 64 := by omega
          have H := hide hrel
          clear hrel
          go_wp2_with fail
          go_ret
          exact ⟨_, rfl, H.out.1, H.out.2⟩
end Go.Proofs.YtlpibpkbgmcclaaGreatDoor
namespace Go.Proofs.YtlpibpkbgmcclaaGreatDoor
open Go.RowKit
/-- eight words as cells -/
def w8 (v : Sh.S8) : List Value := [.int .u32 (v.a : Nat), .int .u32 (v.b : Nat), .int .u32 (v.c : Nat), .int .u32 (v.d : Nat), .int .u32 (v.e : Nat), .int .u32 (v.f : Nat), .int .u32 (v.g : Nat), .int .u32 (v.h : Nat)]
/-- a slice of eight words -/
def Sl8 (w : World) (g o : Nat) (v : Sh.S8) : Prop := g < w.heap.size ∧ ∀ q, q < 8 → w.cell? ⟨g, o + q, none⟩ = some (.int .u32 (Sh.at8 v q : Nat))
theorem Sl8.below {w w' : World} {g o B : Nat} {v : Sh.S8} (h : Sl8 w g o v) (hb : Below B w w') (hB : g < B) : Sl8 w' g o v := ⟨Nat.lt_of_lt_of_le h.1 hb.size, fun q hq => (hb.cell (p := ⟨g, o + q, none⟩) hB).trans (h.2 q hq)⟩
theorem news8 {w : World} {g o : Nat} {v : Sh.S8} (h : Sl8 w g o v) : ∀ j u, (w8 v)[j]? = some u → w.cell? ((⟨g, o, none⟩ : Addr).add j) = some u := fun j u hj => by
  have hl : j < 8 := (List.getElem?_eq_some_iff.1 hj).1
  rw [Addr.add_mid, h.2 j hl]
  rcases lt8' hl with rfl | rfl | rfl | rfl | rfl | rfl | rfl | rfl <;> simpa [w8, Sh.at8] using hj
/-- the cells of the state at hand, of the words, as a drawn region's loads want them -/
def BkC (B : Nat) (wp : World) (g gw k : Nat) (v : Sh.S8) (x : Nat) (w' : World) : Prop :=
  Below B wp w' ∧ w'.cell? ⟨g, 0, none⟩ = some (.int .u32 (v.a : Nat)) ∧ w'.cell? ⟨g, 4, none⟩ = some (.int .u32 (v.e : Nat)) ∧ w'.cell? ⟨g, 5, none⟩ = some (.int .u32 (v.f : Nat)) ∧ w'.cell? ⟨g, 6, none⟩ = some (.int .u32 (v.g : Nat)) ∧ w'.cell? ⟨g, 7, none⟩ = some (.int .u32 (v.h : Nat)) ∧ w'.cell? ⟨gw, k, none⟩ = some (.int .u32 (x : Nat))
theorem BkC.next {B : Nat} {wp w1 w2 : World} {g gw k : Nat} {v : Sh.S8} {x : Nat} (h : BkC B wp g gw k v x w1) (hb : Below B w1 w2) (hg : g < B) (hw : gw < B) : BkC B wp g gw k v x w2 :=
  ⟨h.1.trans hb, (hb.cell (p := ⟨g, 0, none⟩) hg).trans h.2.1, (hb.cell (p := ⟨g, 4, none⟩) hg).trans h.2.2.1, (hb.cell (p := ⟨g, 5, none⟩) hg).trans h.2.2.2.1, (hb.cell (p := ⟨g, 6, none⟩) hg).trans h.2.2.2.2.1, (hb.cell (p := ⟨g, 7, none⟩) hg).trans h.2.2.2.2.2.1, (hb.cell (p := ⟨gw, k, none⟩) hw).trans h.2.2.2.2.2.2⟩
theorem below_down {B : Nat} {a w w' : World} (h : Below B a w) (hB : B ≤ w.heap.size) (hb : Below w.heap.size w w') : Below B a w' := h.trans ⟨hb.os, hb.tape, hb.output, hb.size, fun k hk => hb.block k (Nat.lt_of_lt_of_le hk hB)⟩
/-- the state at hand, in a block behind the words -/
def BkSt (w1 wr : World) (g : Nat) (u : Sh.S8) : Prop := w1.heap.size ≤ g ∧ Sl8 wr g 0 u ∧ Below w1.heap.size w1 wr
theorem BkSt.next {w1 wr wq : World} {g : Nat} {u : Sh.S8} (h : BkSt w1 wr g u) (hb : Below wr.heap.size wr wq) : BkSt w1 wq g u := ⟨h.1, h.2.1.below hb h.2.1.1, below_down h.2.2 h.2.2.size hb⟩
theorem BkSt.cell {w1 wr : World} {g : Nat} {u : Sh.S8} (h : BkSt w1 wr g u) {q : Nat} (hq : q < 8) : wr.cell? ⟨g, q, none⟩ = some (.int .u32 (Sh.at8 u q : Nat)) := by
  have := h.2.1.2 q hq
  rwa [Nat.zero_add] at this
def BkRel (w1 wr : World) (x : Value) (u : Sh.S8) (k : Nat) : Prop := ∃ g c, x = .slice (some ⟨g, 0, none⟩) 8 c ∧ 8 ≤ c ∧ BkSt w1 wr g u ∧ (0 < k → FnAt wr g 75 8 (fun q => .int .u32 (Sh.at8 u q : Nat)))
theorem bkRel_first {w1 w3 : World} {v' : Value} {v : Sh.S8} (hown : w3.ownsRow w1.heap.size 75 1 v' (0 + 8) ([] ++ w8 v)) (hb : Below w1.heap.size w1 w3) : BkRel w1 w3 v' v 0 := by
  obtain ⟨hl, ⟨rfl, h0⟩ | ⟨g, cap, cur, rfl, hbb, hg, hc, hm, hs, ht⟩⟩ := hown
  · omega
  · refine ⟨g, cap, rfl, by omega, ⟨hbb, ⟨lt_of_block hg, fun i hi => ?_⟩, hb⟩, fun h => by omega⟩
    rw [Nat.zero_add, cell_of_block hg]
    have h1 : (cur.toList.take ((0 + 8) * 1))[i]? = ([] ++ w8 v)[i]? := by rw [ht]
    rw [List.getElem?_take, if_pos (by omega), Array.getElem?_toList] at h1
    rw [h1]
    rcases lt8' hi with rfl | rfl | rfl | rfl | rfl | rfl | rfl | rfl <;> rfl
theorem bkRot (x n : Nat) (w : World) (hx : x < 4294967296) (h0 : 0 < n) (hn : n < 32) : ∀ d os, Calls Tryz.prog 49 #[.int .u32 (x : Int), .int .u64 (n : Int)] (Go.Sort.grow (redrawn w d) os) fun e w'' => e = .returned (.int .u32 (Sh.rot x n : Nat)) ∧ ∃ p : Regrown, w'' = Go.Sort.grow (redrawn w p.d) p.os := fun _ _ =>
  Calls.regrown_of ((refRot_any x n _ hx h0 hn).mono fun _ _ h => ⟨h.1, h.2 ▸ Below.refl _ _⟩)
theorem bkK (k : Nat) (w : World) (hk : k < 64) : ∀ d os, Calls Tryz.prog 50 #[.int .i64 (k : Int)] (Go.Sort.grow (redrawn w d) os) fun e w'' => e = .returned (.int .u32 (Sh.kk k : Nat)) ∧ ∃ p : Regrown, w'' = Go.Sort.grow (redrawn w p.d) p.os := fun _ _ =>
  Calls.regrown_of (refK_any k _ hk)
theorem bkRotQ (x n : Nat) (w : World) (hx : x < 4294967296) (h0 : 0 < n) (hn : n < 32) : ∀ m, Calls Tryz.prog 49 #[.int .u32 (x : Int), .int .u64 (n : Int)] (w.drewN m) fun e w' => e = .returned (.int .u32 (Sh.rot x n : Nat)) ∧ ∃ m, w' = w.drewN m := fun _ =>
  Calls.quiet_of_same ((refRot_any x n _ hx h0 hn).mono fun _ _ h => ⟨h.1, h.2.symm⟩)
theorem bkT (U : Sh.S8) (k x : Nat) (h4 : U.e < 4294967296) (h5 : U.f < 4294967296) (h6 : U.g < 4294967296) : IntKind.u32.wrap (IntKind.u32.wrap (IntKind.u32.wrap (IntKind.u32.wrap ((U.h : Int) + bits .xor .u32 (bits .xor .u32 ((Sh.rot U.e 6 : Nat) : Int) ((Sh.rot U.e 11 : Nat) : Int)) ((Sh.rot U.e 25 : Nat) : Int)) + bits .xor .u32 (bits .and .u32 (U.e : Int) (U.f : Int)) (bits .and .u32 (bits .xor .u32 (if IntKind.u32.signed = true then -1 else IntKind.u32.max) (U.e : Int)) (U.g : Int))) + (k : Int)) + (x : Int)) = ((Sh.rT U k x : Nat) : Int) := by
  have h1 : Sh.M - 1 - U.e < 4294967296 := by unfold Sh.M; omega
  rw [if_neg (by decide), xor3_int (Sh.rot_lt h4) (Sh.rot_lt h4) (Sh.rot_lt h4), not_int h4, u32_and_nat _ _ h4 h5, u32_and_nat _ _ h1 h6, u32_xor_nat _ _ (Nat.and_lt_two_pow (n := 32) _ h5) (Nat.and_lt_two_pow (n := 32) _ h6)]
  rw [IntKind.wrap_u32', IntKind.wrap_u32', IntKind.wrap_u32', IntKind.wrap_u32']
  show _ = (((U.h + Sh.S1 U.e + Sh.ch U.e U.f U.g + k + x) % 4294967296 : Nat) : Int)
  show ((((((U.h : Nat) : Int) + ((Sh.S1 U.e : Nat) : Int)) % 4294967296 + ((Sh.ch U.e U.f U.g : Nat) : Int)) % 4294967296 + (k : Int)) % 4294967296 + (x : Int)) % 4294967296 = _
  omega
theorem bkU (U : Sh.S8) (h0 : U.a < 4294967296) (h1 : U.b < 4294967296) (h2 : U.c < 4294967296) : (bits .xor .u32 (bits .xor .u32 ((Sh.rot U.a 2 : Nat) : Int) ((Sh.rot U.a 13 : Nat) : Int)) ((Sh.rot U.a 22 : Nat) : Int) + bits .xor .u32 (bits .xor .u32 (bits .and .u32 (U.a : Int) (U.b : Int)) (bits .and .u32 (U.a : Int) (U.c : Int))) (bits .and .u32 (U.b : Int) (U.c : Int))) % 4294967296 = ((Sh.rU U : Nat) : Int) := by
  rw [xor3_int (Sh.rot_lt h0) (Sh.rot_lt h0) (Sh.rot_lt h0), u32_and_nat _ _ h0 h1, u32_and_nat _ _ h0 h2, u32_and_nat _ _ h1 h2, xor3_int (Nat.and_lt_two_pow (n := 32) _ h1) (Nat.and_lt_two_pow (n := 32) _ h2) (Nat.and_lt_two_pow (n := 32) _ h2)]
  rfl
theorem bkRel_new {w1 wp : World} {g k kk ww T X : Nat} {U : Sh.S8} (h : BkSt w1 wp g U) (hT : Sh.rT U kk ww = T) (hX : Sh.rU U = X) : BkRel w1 (wp.alloc (.cells #[.int .u32 (((T : Int) + (X : Int)) % 4294967296), .int .u32 (U.a : Int), .int .u32 (U.b : Int), .int .u32 (U.c : Int), .int .u32 (((U.d : Int) + (T : Int)) % 4294967296), .int .u32 (U.e : Int), .int .u32 (U.f : Int), .int .u32 (U.g : Int)] 75)).drew (.slice (some ⟨wp.heap.size, 0, none⟩) 8 8) (Sh.rnd U kk ww) k := by
  have e : (#[.int .u32 (((T : Int) + (X : Int)) % 4294967296), .int .u32 (U.a : Int), .int .u32 (U.b : Int), .int .u32 (U.c : Int), .int .u32 (((U.d : Int) + (T : Int)) % 4294967296), .int .u32 (U.e : Int), .int .u32 (U.f : Int), .int .u32 (U.g : Int)] : Array Value) = fnC 8 fun q => .int .u32 (Sh.at8 (Sh.rnd U kk ww) q : Nat) := by
    rw [show ((U.d : Int) + (T : Int)) % 4294967296 = (((U.d + T) % Sh.M : Nat) : Int) by unfold Sh.M; omega, show ((T : Int) + (X : Int)) % 4294967296 = (((T + X) % Sh.M : Nat) : Int) by unfold Sh.M; omega]
    unfold Sh.rnd
    rw [hT, hX]
    exact (a8_lit ⟨(T + X) % Sh.M, U.a, U.b, U.c, (U.d + T) % Sh.M, U.e, U.f, U.g⟩).symm
  rw [e]
  have hF : FnAt (wp.alloc (.cells (fnC 8 fun q => .int .u32 (Sh.at8 (Sh.rnd U kk ww) q : Nat)) 75)).drew wp.heap.size 75 8 (fun q => .int .u32 (Sh.at8 (Sh.rnd U kk ww) q : Nat)) := heap_alloc_new wp _
  refine ⟨wp.heap.size, 8, rfl, Nat.le_refl _, ⟨h.2.2.size, ⟨hF.lt, fun q hq => ?_⟩, (h.2.2.alloc h.2.2.size _).drew⟩, fun _ => hF⟩
  rw [Nat.zero_add]
  exact hF.cell hq
/-- the last loop's state -/
def Bk2 (w1 wr : World) (g : Nat) (u : Sh.S8) : Prop := w1.heap.size ≤ g ∧ FnAt wr g 75 8 (fun q => .int .u32 (Sh.at8 u q : Nat)) ∧ Below w1.heap.size w1 wr
theorem Bk2.step {w1 wr : World} {g q : Nat} {R v : Sh.S8} (h : Bk2 w1 wr g (mix8 R v q)) (hq : q < 8) : Bk2 w1 (wr.setCell ⟨g, q, none⟩ (.int .u32 (((Sh.at8 R q + Sh.at8 v q) % Sh.M : Nat) : Int))) g (mix8 R v (q + 1)) := by
  refine ⟨h.1, (h.2.1.set q _).congr fun p hp => ?_, h.2.2.setCell h.1 _⟩
  rw [← mix8_step R v hq hp]
  split <;> rfl
theorem Bk2.drewN {w1 wr : World} {g : Nat} {u : Sh.S8} (h : Bk2 w1 wr g u) (n : Nat) : Bk2 w1 (wr.drewN n) g u := ⟨h.1, h.2.1.drewN n, below_draws h.2.2 n⟩
end Go.Proofs.YtlpibpkbgmcclaaGreatDoor
