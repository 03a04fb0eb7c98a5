/- What becomes of a write: whole, half, not. -/
import Derived.Test.YtnpioaidbmllkaaDkSet
namespace Go.Proofs.Ytnpioaidbmllkaa
open Go.RowKit
/-- a sector is written -/
def putS (x : Dk) (n : Nat) (s : ByteArray) : Dk := ⟨x.lost, fun m => if m = n then s else x.sec m, x.wv, x.ws⟩
theorem Bk.put {w : World} {b : Nat} {D : Nat → Dk} (h : Bk w b D) {d n : Nat} (hd : d < 12) (hn : n < 112) (s : ByteArray) {w1 : World} (hb : Below w.heap.size w w1) :
    Bk (w1.setCell ⟨b, d * 114 + 1 + n, none⟩ (.string s)) b (upd D d (putS (D d) n s)) ∧ Step b D w (upd D d (putS (D d) n s)) (w1.setCell ⟨b, d * 114 + 1 + n, none⟩ (.string s)) := by
  have h1 := (h.below hb).setSec hd hn s
  exact ⟨h1.1, (Step.of_below hb).trans h1.2⟩
theorem box_below (w : World) (o : Obj) : Below w.heap.size w (w.alloc o).drew := ((Below.refl _ _).alloc (Nat.le_refl _) _).drew
set_option maxRecDepth 100000 in
set_option maxHeartbeats 2000000 in
theorem whole_any (b d n : Nat) (s : ByteArray) (D : Nat → Dk) (w : World) (h : Bk w b D) (hd : d < 12) (hn : n < 112) :
    Calls Try.prog 38 #[.pointer (some ⟨b, d * 114, none⟩), .agg #[.int .i64 (n : Int), .string s]] w fun e w' => e = .returned (.tuple #[]) ∧ Bk w' b (upd D d (putS (D d) n s)) ∧ Step b D w (upd D d (putS (D d) n s)) w' := by
  have HN := hide (h.put hd hn s (box_below w (.cells #[.int .i64 (n : Int), .string s] 72)))
  have hb1 := h.below (box_below w (.cells #[.int .i64 (n : Int), .string s] 72))
  have hc := hb1.sector hd hn
  have hf := hb1.free (d * 114 + 1 + n)
  have hni : (0 : Int) ≤ (n : Int) := by omega
  have hnl : (n : Int) < 112 := by omega
  clear h hb1
  go_enter Try.func38, Try.ntmps38
  go_wp2_with fail
  go_region
  go_wp2_with fail
  go_end0
  exact ⟨rfl, HN.out.1, HN.out.2⟩
theorem half_lt (s : ByteArray) : s.size / 2 ≤ s.size := Nat.div_le_self _ _
def halfS (s : ByteArray) : ByteArray := s.extract 0 (s.size / 2)
set_option maxRecDepth 100000 in
set_option maxHeartbeats 2000000 in
theorem half_any (b d n : Nat) (s : ByteArray) (D : Nat → Dk) (w : World) (h : Bk w b D) (hd : d < 12) (hn : n < 112) (hs : s.size ≤ 1000000) :
    Calls Try.prog 51 #[.pointer (some ⟨b, d * 114, none⟩), .agg #[.int .i64 (n : Int), .string s]] w fun e w' => e = .returned (.tuple #[]) ∧ Bk w' b (upd D d (putS (D d) n (halfS s))) ∧ Step b D w (upd D d (putS (D d) n (halfS s))) w' := by
  have HN := hide (h.put hd hn (halfS s) (box_below w (.cells #[.int .i64 (n : Int), .string s] 72)))
  have hb1 := h.below (box_below w (.cells #[.int .i64 (n : Int), .string s] 72))
  have hc := hb1.sector hd hn
  have hf := hb1.free (d * 114 + 1 + n)
  have hni : (0 : Int) ≤ (n : Int) := by omega
  have hnl : (n : Int) < 112 := by omega
  obtain ⟨m, hm⟩ : ∃ m, m = s.size / 2 := ⟨_, rfl⟩
  have hq1 : Int.tdiv (s.size : Int) 2 = (m : Int) := by rw [Int.tdiv_eq_ediv_of_nonneg (by omega)]; omega
  have hq2 : (s.size : Int) / 2 = (m : Int) := by omega
  have hq3 : IntKind.i64.wrap (m : Int) = (m : Int) := by rw [IntKind.wrap_i64]; omega
  have hml : m ≤ s.size := by omega
  have hmi : (m : Int) ≤ (s.size : Int) := by omega
  have HM : Hid (halfS s = s.extract 0 m) := by unfold halfS; rw [hm]; exact rfl
  rw [HM.out] at HN ⊢
  clear h hb1 hm
  go_enter Try.func51, Try.ntmps51
  go_wp2_with fail
  go_region
  go_wp2_with fail
  go_end0
  exact ⟨rfl, HN.out.1, HN.out.2⟩
set_option maxRecDepth 100000 in
set_option maxHeartbeats 2000000 in
theorem not_any (p : Value) (n : Int) (s : ByteArray) (w : World) :
    Calls Try.prog 50 #[p, .agg #[.int .i64 n, .string s]] w fun e w' => e = .returned (.tuple #[]) ∧ Below w.heap.size w w' := by
  go_enter Try.func50, Try.ntmps50
  go_wp2_with fail
  go_end0
  exact ⟨rfl, (Below.refl _ _).alloc (Nat.le_refl _) _⟩
end Go.Proofs.Ytnpioaidbmllkaa
