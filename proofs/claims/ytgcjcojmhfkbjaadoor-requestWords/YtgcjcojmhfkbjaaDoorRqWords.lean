/- The words of a line: what the document's Words answers; a kind's word. -/
import Derived.Test.YtgcjcojmhfkbjaaDoorRqMath
import Derived.Test.YtgcjcojmhfkbjaaDoorRqRow
import Derived.Handy
namespace Go.Proofs.YtgcjcojmhfkbjaaDoor
open Go.RowKit
set_option linter.unusedVariables false
/-- how far Words is: L is what it has so far, the word under way began at a, i bytes are behind -/
structure WR (s : ByteArray) (w : World) (L : List ByteArray) (v : Value) (a i : Nat) (wr : World) : Prop where
  row : GR w wr 9 1 v L.length (ksS L)
  le : a ≤ i
  now : (i ≤ s.size ∧ wds s = L ++ wdF s (s.size - i) a i) ∨ (i = s.size + 1 ∧ wds s = L)
  len : L.length ≤ i
theorem WR.skip {s : ByteArray} {w wr : World} {L : List ByteArray} {v : Value} {a i : Nat} (h : WR s w L v a i wr) (hi : i < s.size) (hb : bt s i ≠ 32) : WR s w L v a (i + 1) wr := by
  refine ⟨h.row, by have := h.le; omega, .inl ⟨by omega, ?_⟩, by have := h.len; omega⟩
  rcases h.now with ⟨_, q⟩ | ⟨q, _⟩
  · rw [q, show s.size - i = (s.size - (i + 1)) + 1 by omega]
    conv => lhs; unfold wdF
    rw [if_neg hb]
  · omega
theorem WR.push {s : ByteArray} {w wr w1 : World} {L : List ByteArray} {v v' : Value} {a i : Nat} {o : Obj} (h : WR s w L v a i wr) (hi : i ≤ s.size) (hb : i = s.size ∨ bt s i = 32) (hown : w1.ownsRow w.heap.size 9 1 v' (L.length + 1) (ksS L ++ [.string (s.extract a i)])) (hgr : (wr.alloc o).grownBy w1 v.ownBlock) : WR s w (L ++ [s.extract a i]) v' (i + 1) (i + 1) w1 := by
  have hg := h.row.step hown hgr
  rw [← ksS_snoc] at hg
  refine ⟨by rw [List.length_append]; exact hg, Nat.le_refl _, ?_, by rw [List.length_append]; have := h.len; simp; omega⟩
  rcases h.now with ⟨_, q⟩ | ⟨q, _⟩
  · by_cases e : i = s.size
    · subst e
      refine .inr ⟨rfl, ?_⟩
      rw [q, Nat.sub_self]
      rfl
    · refine .inl ⟨by omega, ?_⟩
      rw [q, show s.size - i = (s.size - (i + 1)) + 1 by omega]
      conv => lhs; unfold wdF
      rw [if_pos (by rcases hb with z | z; exact absurd z e; exact z), List.append_assoc]
      rfl
  · omega
set_option maxRecDepth 100000 in
set_option maxHeartbeats 8000000 in
theorem words_any (s : ByteArray) (w : World) (hs : s.size ≤ 100000) : Calls Tryd.prog 19 #[.string s] w fun e w' => ∃ a c, e = .returned (.slice a (wds s).length c) ∧ (wds s).length ≤ c ∧ StrsAt w' a (wds s) ∧ Below w.heap.size w w' := by
  obtain ⟨i0, hi0, hz0, hz1, hz2⟩ := info_parts kstr_info
  have HI := hide hi0
  have HI0 := hide hz0
  have HI1 := hide hz1
  have HI2 := hide hz2
  clear hi0 hz0 hz1 hz2
  go_enter Tryd.func19, Tryd.ntmps19
  go_wp2_with fail
  go_loopw [3, 4, 5] (fun v x y wr => ∃ (L : List ByteArray) (a i : Nat), i ≤ s.size + 1 ∧ x = .int .i64 (a : Int) ∧ y = .int .i64 (i : Int) ∧ Hid (WR s w L v a i wr)) (fun _ _ y _ => s.size + 1 - (kIx y).toNat)
  case atStart => exact ⟨[], 0, 0, by omega, rfl, rfl, hide ⟨GR.nil _ _ _ _ (Below.refl _ _), Nat.le_refl _, .inl ⟨Nat.zero_le _, rfl⟩, Nat.le_refl _⟩⟩
  case round =>
    obtain ⟨L, a, i, hi, rfl, rfl, H⟩ := hrel
    have hsz := H.out.row.2.size
    have hai := H.out.le
    have hLl := H.out.len
    by_cases hle : i ≤ s.size
    · have hd : decide ((i : Int) ≤ (s.size : Int)) = true := by simp; omega
      by_cases he : i = s.size
      · have h1 : ((i : Int) == (s.size : Int)) = true := by simp; omega
        have HP : Hid (∀ v' w3 o, w3.ownsRow w.heap.size 9 1 v' (L.length + 1) (ksS L ++ [.string (s.extract a i)]) → (wr.alloc o).grownBy w3 u3.ownBlock → WR s w (L ++ [s.extract a i]) v' (i + 1) (i + 1) w3) := fun v' w3 o q1 q2 => H.out.push hle (.inl he) q1 q2
        have hb1 : (a : Int) ≤ (i : Int) := by omega
        have hb2 : (i : Int) ≤ (s.size : Int) := by omega
        clear he
        go_wp2_with (first | (at_builtin; refine wpList_append_own _ rfl (.tmp 22) (.tmp 27) 34 rfl w.heap.size 9 i0 (.string ByteArray.empty) 1 16 Tryd.underlying34 HI.out HI0.out HI1.out HI2.out rfl (by decide) _ L.length (ksS L) rfl (own_alloc H.out.row.1 _) ⟨wr.heap.size, 0, none⟩ 1 1 [.string (s.extract a i)] rfl rfl (cell_one_str wr (.string (s.extract a i)) 9) (by simp [Value.oneCell']) (by unfold maxLen; omega) (by omega) (by rw [World.size_alloc]; omega) ?_; intro v' w6 hown hgr hnil; clear hnil; have HOP := hide (HP.out _ _ _ hown hgr); clear hown hgr))
        exact ⟨⟨_, i + 1, i + 1, by omega, by go_num, by go_num, HOP⟩, by simp [kIx]; omega⟩
      · have h1 : ((i : Int) == (s.size : Int)) = false := by simp; omega
        have hlt : i < s.size := by omega
        have hix : ∀ W, (Instr.index 9 (.string s) (.int .i64 (i : Int))).run Tryd.prog W = .ok (.int .u8 ((bt s i : Nat) : Int)) W := fun W => str_atw s hlt W
        by_cases hb : bt s i = 32
        · have HP : Hid (∀ v' w3 o, w3.ownsRow w.heap.size 9 1 v' (L.length + 1) (ksS L ++ [.string (s.extract a i)]) → (wr.alloc o).grownBy w3 u3.ownBlock → WR s w (L ++ [s.extract a i]) v' (i + 1) (i + 1) w3) := fun v' w3 o q1 q2 => H.out.push hle (.inr hb) q1 q2
          have hb1 : (a : Int) ≤ (i : Int) := by omega
          have hb2 : (i : Int) ≤ (s.size : Int) := by omega
          rw [hb] at hix
          clear hb he
          go_wp2_with (first | (at_builtin; refine wpList_append_own _ rfl (.tmp 22) (.tmp 27) 34 rfl w.heap.size 9 i0 (.string ByteArray.empty) 1 16 Tryd.underlying34 HI.out HI0.out HI1.out HI2.out rfl (by decide) _ L.length (ksS L) rfl (own_alloc H.out.row.1 _) ⟨wr.heap.size, 0, none⟩ 1 1 [.string (s.extract a i)] rfl rfl (cell_one_str wr (.string (s.extract a i)) 9) (by simp [Value.oneCell']) (by unfold maxLen; omega) (by omega) (by rw [World.size_alloc]; omega) ?_; intro v' w6 hown hgr hnil; clear hnil; have HOP := hide (HP.out _ _ _ hown hgr); clear hown hgr))
          exact ⟨⟨_, i + 1, i + 1, by omega, by go_num, by go_num, HOP⟩, by simp [kIx]; omega⟩
        · have HN := hide (H.out.skip hlt hb)
          have h2 : (((bt s i : Nat) : Int) == 32) = false := by simp; omega
          clear hb he
          generalize bt s i = c at *
          go_wp2_with fail
          exact ⟨⟨L, a, i + 1, by omega, rfl, by go_num, HN⟩, by simp [kIx]; omega⟩
    · have hd : decide ((i : Int) ≤ (s.size : Int)) = false := by simp; omega
      have HE : Hid (wds s = L) := by
        rcases H.out.now with ⟨q, _⟩ | ⟨_, q⟩
        · omega
        · exact q
      obtain ⟨b, c, e1, e2, _, e3⟩ := H.out.row.strs
      subst e1
      have HC := hide e2
      have HST := hide e3
      clear e2 e3
      go_wp2_with fail
      first | go_ret | go_returns
      exact ⟨b, c, by rw [HE.out]; rfl, by rw [HE.out]; exact HC.out, by rw [HE.out]; exact HST.out, H.out.row.2⟩
/-- the words of kinds lie in a slice of their own -/
def wordCs : Array Value := #[.string putS, .string getS, .string delS, .string statS, .string listS]
set_option maxRecDepth 100000 in
set_option maxHeartbeats 8000000 in
theorem refword_any (d : Nat) (hd : d < 5) (w : World) : Calls Tryd.prog 22 #[.int .i64 (d : Int)] w fun e w' => e = .returned (.string (wordS d)) ∧ Below w.heap.size w w' := by
  have HB : Hid (Below w.heap.size w (w.alloc (.cells wordCs 9))) := (Below.refl _ _).alloc (Nat.le_refl _) _
  unfold wordCs putS getS delS statS listS at HB
  have hlt : (d : Int) < 5 := by omega
  match d, hd with
  | 0, _ | 1, _ | 2, _ | 3, _ | 4, _ =>
    go_enter Tryd.func22, Tryd.ntmps22
    go_wp2_with fail
    first | go_ret | go_returns
    exact ⟨rfl, HB.out⟩
set_option maxRecDepth 100000 in
set_option maxHeartbeats 8000000 in
theorem wordOf_any (d : Int) (h0 : 0 ≤ d) (h4 : d ≤ 4) (w : World) : Calls Tryd.prog 20 #[.int .i64 d] w fun e w' => e = .returned (.string (wordS d)) ∧ w = w' := by
  have hc : d = 0 ∨ d = 1 ∨ d = 2 ∨ d = 3 ∨ d = 4 := by omega
  rcases hc with rfl | rfl | rfl | rfl | rfl
  all_goals
    go_enter Tryd.func20, Tryd.ntmps20
    go_wp2_with fail
    first | go_ret | go_returns
    exact ⟨rfl, rfl⟩
end Go.Proofs.YtgcjcojmhfkbjaaDoor
