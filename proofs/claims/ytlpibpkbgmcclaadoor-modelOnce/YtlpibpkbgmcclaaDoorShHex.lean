/- What digest.Hex answers. -/
import Derived.Test.YtlpibpkbgmcclaaDoorBaseX
namespace Go.Proofs.YtlpibpkbgmcclaaDoor
open Go.RowKit
def digs : ByteArray := ⟨#[48, 49, 50, 51, 52, 53, 54, 55, 56, 57, 97, 98, 99, 100, 101, 102]⟩
/-- a digit of sixteen -/
def dgt (n : Nat) : Nat := if n < 10 then 48 + n else 87 + n
theorem lt16 {n : Nat} (h : n < 16) : n = 0 ∨ n = 1 ∨ n = 2 ∨ n = 3 ∨ n = 4 ∨ n = 5 ∨ n = 6 ∨ n = 7 ∨ n = 8 ∨ n = 9 ∨ n = 10 ∨ n = 11 ∨ n = 12 ∨ n = 13 ∨ n = 14 ∨ n = 15 := by omega
theorem digs_at {n : Nat} (h : n < 16) : bt digs n = dgt n := by
  rcases lt16 h with rfl | rfl | rfl | rfl | rfl | rfl | rfl | rfl | rfl | rfl | rfl | rfl | rfl | rfl | rfl | rfl <;> decide
theorem dgt_lt {n : Nat} (h : n < 16) : dgt n < 256 := by unfold dgt; split <;> omega
theorem dig_lit {n : Nat} (h : n < 16) : ∀ h', ((⟨#[48, 49, 50, 51, 52, 53, 54, 55, 56, 57, 97, 98, 99, 100, 101, 102]⟩ : ByteArray)[n]'h').toNat = dgt n := fun h' => by
  have := digs_at h
  rw [← bt_eq (s := digs) h'] at this
  exact this
/-- byte p of the digits of s -/
def hx (f : Nat → Nat) (p : Nat) : Nat := if p % 2 = 0 then dgt (f (p / 2) / 16) else dgt (f (p / 2) % 16)
theorem hx_lt {f : Nat → Nat} (h : ∀ p, f p < 256) (p : Nat) : hx f p < 256 := by
  have := h (p / 2)
  unfold hx; split
  · exact dgt_lt (by omega)
  · exact dgt_lt (by omega)
theorem hx_two (f : Nat → Nat) (k : Nat) : bys (hx f) (2 * (k + 1)) = bys (hx f) (2 * k) ++ [.int .u8 ((dgt (f k / 16) : Nat) : Int), .int .u8 ((dgt (f k % 16) : Nat) : Int)] := by
  rw [show 2 * (k + 1) = 2 * k + 1 + 1 by omega, bys_succ, bys_succ, List.append_assoc]
  congr 1
  have e0 : hx f (2 * k) = dgt (f k / 16) := by unfold hx; rw [if_pos (by omega), show 2 * k / 2 = k by omega]
  have e1 : hx f (2 * k + 1) = dgt (f k % 16) := by unfold hx; rw [if_neg (by omega), show (2 * k + 1) / 2 = k by omega]
  rw [e0, e1]
  rfl
theorem hexCells (w : World) (l : List Value) (t : TypeId) : ∀ j u, (l)[j]? = some u → (w.alloc (.cells l.toArray t)).cell? ((⟨w.heap.size, 0, none⟩ : Addr).add j) = some u := fun j u h => by
  rw [show (⟨w.heap.size, 0, none⟩ : Addr).add j = ⟨w.heap.size, j, none⟩ by cases j <;> simp [Addr.add], World.cell?_alloc_new]
  simpa using h
def HxRel (w wr : World) (f : Nat → Nat) (x : Value) (k : Nat) : Prop := wr.ownsRow w.heap.size 5 1 x (2 * k) (bys (hx f) (2 * k)) ∧ Below w.heap.size w wr
theorem hxRel_step {w wr w1 : World} {f : Nat → Nat} {y v' : Value} {k : Nat} {o : Obj} (h : HxRel w wr f y k) (hown : w1.ownsRow w.heap.size 5 1 v' (2 * k + 2) (bys (hx f) (2 * k) ++ [.int .u8 ((dgt (f k / 16) : Nat) : Int), .int .u8 ((dgt (f k % 16) : Nat) : Int)])) (hgr : (wr.drew.alloc o).grownBy w1 y.ownBlock) : HxRel w w1 f v' (k + 1) := by
  refine ⟨?_, ?_⟩
  · rw [hx_two, show 2 * (k + 1) = 2 * k + 2 by omega]
    exact hown
  · refine Below.grown (h.2.drew.alloc h.2.size o) hgr ?_ fun g hg => row_base h.1 hg
    rw [World.size_alloc]
    exact Nat.le_succ_of_le h.2.size
set_option maxRecDepth 100000 in
set_option maxHeartbeats 4000000 in
theorem hex_any (s : ByteArray) (w : World) (hs : s.size ≤ 100000) :
    Calls Tryd.prog 21 #[.string s] w fun e w' => e = .returned (.string (mkS (2 * s.size) (hx (bt s)))) ∧ Below w.heap.size w w' := by
  have hmk := make_room (2 * s.size) (by omega) w
  rw [show ((2 * s.size : Nat) : Int) = 2 * (s.size : Int) by omega] at hmk
  have HST : Hid (HxRel w (w.alloc (.cells (fnC (2 * s.size) fun _ => .int .u8 0) 5)) (bt s) (.slice (some ⟨w.heap.size, 0, none⟩) 0 (2 * s.size)) 0) := ⟨room_own (2 * s.size) (by omega) w (hx (bt s)) w.heap.size (Nat.le_refl _), (Below.refl _ _).alloc (Nat.le_refl _) _⟩
  obtain ⟨i0, hi0, hz0, hz1, hz2⟩ := info_parts u8_info
  have HI := hide hi0
  have HI0 := hide hz0
  have HI1 := hide hz1
  have HI2 := hide hz2
  clear hi0 hz0 hz1 hz2
  go_enter Tryd.func21, Tryd.ntmps21
  go_wp2_with fail
  clear hmk
  go_loopw [3, 11] (fun x y wr => ∃ k : Nat, k ≤ s.size ∧ y = .int .i64 k ∧ HxRel w wr (bt s) x k) (fun _ y _ => s.size - (intOf y).toNat)
  case atStart => exact ⟨0, by omega, rfl, HST.out⟩
  case round =>
    obtain ⟨k, hk, rfl, hrel⟩ := hrel
    have H := hide hrel
    have hsz := hrel.2.size
    clear hrel
    by_cases hlt : k < s.size
    · have hd : decide ((k : Int) < (s.size : Int)) = true := by simp; omega
      have b1 : (k : Int) < s.size := by omega
      have hb0 : (s[k]'hlt).toNat < 256 := UInt8.toNat_lt _
      have HBT := hide (bt_eq hlt)
      generalize hc : (s[k]'hlt).toNat = c at *
      have hand : bits .and .u8 (c : Int) 15 = ((c % 16 : Nat) : Int) := by rw [show (15 : Int) = ((15 : Nat) : Int) from rfl, u8_and_nat _ _ hb0 (by omega), nat_mask4]
      have hdiv : (c : Int) / 16 = ((c / 16 : Nat) : Int) := by omega
      have hq1 : c / 16 < 16 := by omega
      have hq2 : c % 16 < 16 := by omega
      have HN : Hid (∀ v' w1 o, w1.ownsRow w.heap.size 5 1 v' (2 * k + 2) (bys (hx (bt s)) (2 * k) ++ [.int .u8 ((dgt (c / 16) : Nat) : Int), .int .u8 ((dgt (c % 16) : Nat) : Int)]) → (wr.drew.alloc o).grownBy w1 u3.ownBlock → HxRel w w1 (bt s) v' (k + 1)) := by
        intro v' w1 o hown hgr
        rw [HBT.out] at hown
        exact hxRel_step H.out hown hgr
      generalize c / 16 = q at *
      generalize c % 16 = r at *
      have hdq := dig_lit hq1
      have hdr := dig_lit hq2
      have hi1 : (q : Int) < 16 := by omega
      have hi2 : (r : Int) < 16 := by omega
      go_wp2_with fail
      go_region_law (refine step_append_own rfl (.tmp 14) (.tmp 25) 48 rfl w.heap.size 5 i0 (.int .u8 0) 1 1 Tryd.underlying48 HI.out HI0.out HI1.out HI2.out rfl (by decide) _ (2 * k) (bys (hx (bt s)) (2 * k)) (by simp [Act.eval]) ((own_drew H.out.1).alloc _) ⟨wr.heap.size, 0, none⟩ 2 2 [.int .u8 ((dgt q : Nat) : Int), .int .u8 ((dgt r : Nat) : Int)] (by simp [Act.eval]) rfl (hexCells wr.drew _ _) (by simp [Value.oneCell']) (by unfold maxLen; omega) (by omega) (by simp; omega) ?_; intro v' w3 hown hgr hnil; clear hnil; have HN3 := hide (HN.out _ _ _ hown hgr); clear hown hgr)
      all_goals
        go_wp2_with fail
        exact ⟨⟨k + 1, by omega, by go_num, HN3.out⟩, by simp [intOf]; omega⟩
    · obtain rfl : k = s.size := by omega
      have hcv := own_string H.out.1
      go_wp2_with fail
      go_ret
      exact ⟨rfl, H.out.2⟩
end Go.Proofs.YtlpibpkbgmcclaaDoor
