/- What Live, Lose and Replace of the disks answer. -/
import Derived.Test.YtnpioaidbmllkaaDkBank
import Derived.Test.YtnpioaidbmllkaaDkWrite
namespace Go.Proofs.Ytnpioaidbmllkaa
open Go.RowKit
set_option linter.unusedVariables false
/-- numbers as cells -/
def numV (l : List Nat) : List Value := l.map fun (x : Nat) => .int .i64 (x : Int)
/-- those of the first k disks of which f is true -/
def thereL (f : Nat → Bool) : Nat → List Nat
  | 0 => []
  | k + 1 => if f k then thereL f k ++ [k] else thereL f k
theorem thereL_len (f : Nat → Bool) : ∀ k, (thereL f k).length ≤ k
  | 0 => Nat.le_refl _
  | k + 1 => by
    have := thereL_len f k
    unfold thereL
    split
    · rw [List.length_append]; exact Nat.succ_le_succ this
    · omega
theorem int_info : (Try.prog.info? 3).map (fun i => (i.zero, i.size, i.bytes)) = some (some (.int .i64 0), 1, 8) := by kernel_rfl
theorem one_new (w : World) (x : Int) (t : TypeId) : ∀ j u, ([.int .i64 x] : List Value)[j]? = some u → (w.alloc (.cells #[.int .i64 x] t)).cell? ((⟨w.heap.size, 0, none⟩ : Addr).add j) = some u := fun j u h => by
  have ha : (⟨w.heap.size, 0, none⟩ : Addr).add j = ⟨w.heap.size, j, none⟩ := by unfold Addr.add; split <;> simp_all
  rw [ha, cell_of_block (c := #[.int .i64 x]) (heap_alloc_new _ _)]
  simpa using h
theorem row_low {W : World} {base : Nat} {e : TypeId} {size : Nat} {v : Value} {n : Nat} {xs : List Value} (h : W.ownsRow base e size v n xs) {g : Nat} (hg : v.ownBlock = some g) : base ≤ g := by
  rcases h.2 with ⟨rfl, _⟩ | ⟨g', cap, cur, rfl, hb, _⟩
  · cases hg
  · cases hg; exact hb
/-- a list of numbers in a row that is one's own -/
def NumsAt (w : World) (base : Nat) (v : Value) (l : List Nat) : Prop := w.ownsRow base 3 1 v l.length (numV l)
theorem nums_step {w wr w1 : World} {v v' : Value} {l : List Nat} {x : Nat} {o : Obj} (h : NumsAt wr w.heap.size v l) (hb : Below w.heap.size w wr) (hown : w1.ownsRow w.heap.size 3 1 v' (l.length + 1) (numV l ++ [.int .i64 (x : Int)])) (hgr : (wr.alloc o).grownBy w1 v.ownBlock) : NumsAt w1 w.heap.size v' (l ++ [x]) ∧ Below w.heap.size w w1 := by
  refine ⟨?_, Below.grown (hb.alloc hb.size o) hgr (by rw [World.size_alloc]; exact Nat.le_succ_of_le hb.size) fun g hg => row_low h hg⟩
  unfold NumsAt
  rw [List.length_append, show numV (l ++ [x]) = numV l ++ [.int .i64 (x : Int)] by unfold numV; rw [List.map_append]; rfl]
  exact hown
theorem nums_nil (w : World) (base : Nat) : NumsAt w base (.slice none 0 0) [] := World.ownsRow_nil _ _ _ _
set_option maxRecDepth 100000 in
set_option maxHeartbeats 2000000 in
theorem live_of (p : Value) (q : Nat → Value) (E : Nat → Nat) (w : World) (hE : ∀ d, E d < 100) (h : ∀ d : Nat, d < 12 → ∀ w1, Below w.heap.size w w1 → Calls Try.prog 31 #[p, .int .i64 (d : Int)] w1 fun e w' => e = .returned (.tuple #[q d, .int .i64 (E d : Nat)]) ∧ w1 = w') :
    Calls Try.prog 13 #[p] w fun e w' => ∃ v, e = .returned v ∧ NumsAt w' w.heap.size v (thereL (fun d => E d == 0) 12) ∧ Below w.heap.size w w' := by
  obtain ⟨i0, hi0, hz0, hz1, hz2⟩ := info_parts int_info
  have HI := hide hi0
  have HI0 := hide hz0
  have HI1 := hide hz1
  have HI2 := hide hz2
  have H := hide h
  have HE := hide hE
  clear hi0 hz0 hz1 hz2 h hE
  go_enter Try.func13, Try.ntmps13
  go_wp2_with fail
  go_loopw [3, 7] (fun v y wr => ∃ k : Nat, k ≤ 12 ∧ y = .int .i64 k ∧ NumsAt wr w.heap.size v (thereL (fun d => E d == 0) k) ∧ Below w.heap.size w wr) (fun _ y _ => 12 - (intOf y).toNat)
  case atStart => exact ⟨0, by omega, rfl, nums_nil _ _, Below.refl _ _⟩
  case round =>
    obtain ⟨k, hk, rfl, hN, hB⟩ := hrel
    have HN := hide hN
    have HB := hide hB
    have hsz := hB.size
    have hlen := thereL_len (fun d => E d == 0) k
    clear hN hB
    by_cases hlt : k < 12
    · have hd1 : decide ((k : Int) < 12) = true := by simp; omega
      go_wp2_with fail
      refine (H.out k hlt _ HB.out).mono ?_
      rintro e w1 ⟨rfl, rfl⟩
      have hek := HE.out k
      generalize hEk : E k = ek at *
      by_cases he : ek = 0
      · have hq : ((ek : Int) == 0) = true := by simp; omega
        have HT : Hid (thereL (fun d => E d == 0) (k + 1) = thereL (fun d => E d == 0) k ++ [k]) := by show (if (E k == 0) = true then _ else _) = _; rw [hEk, he]; rfl
        generalize thereL (fun d => E d == 0) k = l at *
        have hl63 : l.length ≤ 12 := by omega
        clear hlen hEk
        go_wp2_with (first | (at_builtin; refine wpList_append_own _ rfl (.tmp 18) (.tmp 20) 33 rfl w.heap.size 3 i0 (.int .i64 0) 1 8 Try.underlying33 HI.out HI0.out HI1.out HI2.out rfl (by decide) _ l.length (numV l) rfl (row_keep HN.out (fun g hg => Below.heap_alloc _ _ _ (row_lt HN.out hg))) ⟨wr.heap.size, 0, none⟩ 1 1 [.int .i64 (k : Int)] rfl rfl (one_new _ _ _) (by simp [Value.oneCell']) (by unfold maxLen; omega) (by omega) (by rw [World.size_alloc]; omega) ?_; intro v' w3 hown hgr hnil; clear hnil; have HS := hide (nums_step HN.out HB.out hown hgr); clear hown hgr))
        exact ⟨⟨k + 1, by omega, by go_num, by rw [HT.out]; exact HS.out.1, HS.out.2⟩, by simp [intOf]; omega⟩
      · have hq : ((ek : Int) == 0) = false := by simp; omega
        have HT : Hid (thereL (fun d => E d == 0) (k + 1) = thereL (fun d => E d == 0) k) := by show (if (E k == 0) = true then _ else _) = _; rw [hEk, if_neg (by simpa using he)]
        clear hEk
        go_wp2_with fail
        exact ⟨⟨k + 1, by omega, by go_num, by rw [HT.out]; exact HN.out, HB.out⟩, by simp [intOf]; omega⟩
    · have hk12 : k = 12 := by omega
      have hd1 : decide ((k : Int) < 12) = false := by simp; omega
      have HK := hide hk12
      clear hk12
      go_wp2_with fail
      go_ret
      exact ⟨_, rfl, by rw [← HK.out]; exact HN.out, HB.out⟩
theorem eLive_lt (D : Nat → Dk) (d : Int) : eLive D d < 100 := by unfold eLive; split; · decide
                                                                  · split <;> decide
theorem liveB_any (b : Nat) (D : Nat → Dk) (w : World) (h : Bk w b D) : Calls Try.prog 13 #[.pointer (some ⟨b, 0, none⟩)] w fun e w' => ∃ v, e = .returned v ∧ NumsAt w' w.heap.size v (thereL (fun d => eLive D (d : Int) == 0) 12) ∧ Below w.heap.size w w' :=
  live_of _ (fun d => pDisk b (d : Int) (eLive D (d : Int))) (fun d => eLive D (d : Int)) w (fun d => eLive_lt D _) fun d _ w1 hb => liveD_any b d D w1 (h.below hb)
theorem liveB_nil (w : World) : Calls Try.prog 13 #[.pointer none] w fun e w' => ∃ v, e = .returned v ∧ NumsAt w' w.heap.size v [] ∧ Below w.heap.size w w' :=
  live_of _ (fun _ => .pointer none) (fun _ => 1) w (fun _ => by decide) fun d _ w1 _ => live_nil d w1
/-- Lose, Replace: the disks that are known -/
theorem lose_nil (d : Int) (w : World) : Calls Try.prog 24 #[.pointer none, .int .i64 d] w fun e w' => e = .returned (.int .i64 1) ∧ Below w.heap.size w w' :=
  lose_of _ d w _ ((exchange_nil d dkL w).mono fun e w' h => ⟨1, h.1, rfl, h.2⟩)
theorem replace_nil (d : Int) (w : World) : Calls Try.prog 25 #[.pointer none, .int .i64 d] w fun e w' => e = .returned (.int .i64 1) ∧ Below w.heap.size w w' :=
  replace_of _ d w _ ((exchange_nil d dk0 w).mono fun e w' h => ⟨1, h.1, rfl, h.2⟩)
theorem lose_bad (b : Nat) (d : Int) (w : World) (hd : d < 0 ∨ 11 < d) : Calls Try.prog 24 #[.pointer (some ⟨b, 0, none⟩), .int .i64 d] w fun e w' => e = .returned (.int .i64 1) ∧ Below w.heap.size w w' :=
  lose_of _ d w _ ((exchange_bad b d dkL w hd).mono fun e w' h => ⟨1, h.1, rfl, h.2⟩)
theorem replace_bad (b : Nat) (d : Int) (w : World) (hd : d < 0 ∨ 11 < d) : Calls Try.prog 25 #[.pointer (some ⟨b, 0, none⟩), .int .i64 d] w fun e w' => e = .returned (.int .i64 1) ∧ Below w.heap.size w w' :=
  replace_of _ d w _ ((exchange_bad b d dk0 w hd).mono fun e w' h => ⟨1, h.1, rfl, h.2⟩)
theorem lose_ok (b d : Nat) (D : Nat → Dk) (w : World) (h : Bk w b D) (hd : d < 12) : Calls Try.prog 24 #[.pointer (some ⟨b, 0, none⟩), .int .i64 (d : Int)] w fun e w' => e = .returned (.int .i64 0) ∧ Bk w' b (upd D d dkL) ∧ Step b D w (upd D d dkL) w' :=
  lose_of _ d w _ ((exchange_ok b d dkL D w h hd rfl rfl).mono fun e w' h => ⟨0, h.1, rfl, h.2⟩)
theorem replace_ok (b d : Nat) (D : Nat → Dk) (w : World) (h : Bk w b D) (hd : d < 12) : Calls Try.prog 25 #[.pointer (some ⟨b, 0, none⟩), .int .i64 (d : Int)] w fun e w' => e = .returned (.int .i64 0) ∧ Bk w' b (upd D d dk0) ∧ Step b D w (upd D d dk0) w' :=
  replace_of _ d w _ ((exchange_ok b d dk0 D w h hd rfl rfl).mono fun e w' h => ⟨0, h.1, rfl, h.2⟩)
end Go.Proofs.Ytnpioaidbmllkaa
