/- What request.Print answers, and the document's. (Written by genrqp.py.) -/
import Derived.Test.YtgcjcojmhfkbjaaDoorRqCheck
import Derived.Test.YtgcjcojmhfkbjaaDoorRqWords
import Derived.Test.YtgcjcojmhfkbjaaDoorRqDigits
import Derived.Lib.QuietBelow
namespace Go.Proofs.YtgcjcojmhfkbjaaDoor
open Go.RowKit
set_option linter.unusedVariables false
theorem wordS_size (d : Int) : (wordS d).size ≤ 4 := by
  unfold wordS
  split
  · decide
  split
  · decide
  split
  · decide
  split <;> decide
theorem dgS_size (s : ByteArray) : (dgS s).size ≤ 2 * s.size + 1 := by
  unfold dgS
  split
  · rw [dash_size]; omega
  · rw [hexS_size]; omega
theorem lineS_put {k v : ByteArray} : lineS ⟨0, k, v⟩ = putS ++ blank ++ k ++ blank ++ dgS v := by unfold lineS; rw [if_pos rfl]
theorem lineS_one {d : Int} {k v : ByteArray} (hd : d ≠ 0) (hk : k.size = 0) : lineS ⟨d, k, v⟩ = wordS d := by unfold lineS; rw [if_neg hd, if_pos hk]
theorem lineS_twov {d : Int} {k v : ByteArray} (hd : d ≠ 0) (hk : k.size ≠ 0) : lineS ⟨d, k, v⟩ = wordS d ++ blank ++ k := by unfold lineS; rw [if_neg hd, if_neg hk]
/-- a request in a block of its own -/
def RqB (b : Nat) (r : Rq) (w : World) : Prop := w.heap[b]? = some (.cells (rqs r) 23 (0, 0))
theorem RqB.c0 {b : Nat} {r : Rq} {w : World} (h : RqB b r w) : w.cell? ⟨b, 0, none⟩ = some (.int .i64 r.d) := cell_of_block h
theorem RqB.c1 {b : Nat} {r : Rq} {w : World} (h : RqB b r w) : w.cell? ⟨b, 1, none⟩ = some (.string r.k) := cell_of_block h
theorem RqB.c2 {b : Nat} {r : Rq} {w : World} (h : RqB b r w) : w.cell? ⟨b, 2, none⟩ = some (.string r.v) := cell_of_block h
theorem RqB.lt {b : Nat} {r : Rq} {w : World} (h : RqB b r w) : b < w.heap.size := lt_of_block h
theorem RqB.below {b : Nat} {r : Rq} {w w' : World} (h : RqB b r w) (hb : Below w.heap.size w w') : RqB b r w' := (hb.block b h.lt).trans h
theorem rqB_new (r : Rq) (w : World) : RqB w.heap.size r (w.alloc (.cells (rqs r) 23)) := heap_alloc_new _ _
set_option maxRecDepth 100000 in
set_option maxHeartbeats 8000000 in
theorem print_any (r : Rq) (w : World) (hk : r.k.size ≤ 10000) (hv : r.v.size ≤ 10000) : Calls Tryd.prog 10 #[.agg (rqs r)] w fun e w' => e = .returned (.tuple #[.string (prS r), .int .i64 (rqE r)]) ∧ Below w.heap.size w w' := by
  have HB : Hid (Below w.heap.size w (w.alloc (.cells (rqs r) 23))) := (Below.refl _ _).alloc (Nat.le_refl _) _
  have HN := hide (rqB_new r w)
  have HC := hide (fun W => qcheck_any r W (by omega) (by omega))
  by_cases he : rqE r = 0
  case neg =>
    have HE : Hid (prS r = ByteArray.empty) := by show _ = _; unfold prS; rw [if_neg he]
    have g1 : (rqE r != 0) = true := by simpa using he
    clear he
    generalize rqE r = E at *
    obtain ⟨d, k, v⟩ := r
    simp only [rqs] at HB HN HC hk hv ⊢
    go_enter Tryd.func10, Tryd.ntmps10
    go_wp2_with fail
    refine (HC.out _).mono ?_
    rintro e w1 ⟨rfl, hb⟩
    have HB1 := hide (HB.out.trans (hb.mono HB.out.size))
    clear hb
    go_wp2_with fail
    first | go_ret | go_returns
    exact ⟨by rw [HE.out]; rfl, HB1.out⟩
  obtain ⟨o0, o4, ov, ok⟩ := rqE_ok he
  have HE : Hid (prS r = lineS r) := by show _ = _; unfold prS; rw [if_pos he]
  rw [he] at HC ⊢
  clear he
  obtain ⟨d, k, v⟩ := r
  have HW := hide (fun W => wordOf_any d o0 o4 W)
  have zw := wordS_size d
  have zd := dgS_size v
  have zb := blank_size
  simp only at o0 o4 ov ok hk hv
  by_cases h0 : d = 0
  · subst h0
    have HL : Hid (prS ⟨0, k, v⟩ = wordS 0 ++ blank ++ k ++ blank ++ dgS v) := by rw [HE.out, lineS_put]; exact rfl
    have HD := hide (fun W => inDigits_any v W (by omega))
    have sz1 : ¬ 9223372036854775807 < (wordS 0).size + blank.size := by omega
    have sz2 : ¬ 9223372036854775807 < (wordS 0 ++ blank).size + k.size := by rw [ByteArray.size_append]; omega
    have sz3 : ¬ 9223372036854775807 < (wordS 0 ++ blank ++ k).size + blank.size := by rw [ByteArray.size_append, ByteArray.size_append]; omega
    have sz4 : ¬ 9223372036854775807 < (wordS 0 ++ blank ++ k ++ blank).size + (dgS v).size := by rw [ByteArray.size_append, ByteArray.size_append, ByteArray.size_append]; omega
    clear ok ov zw zd HE
    simp only [rqs, blank] at HB HN HC sz1 sz2 sz3 sz4 HL zb ⊢
    generalize wordS 0 = X at *
    generalize dgS v = D at *
    go_enter Tryd.func10, Tryd.ntmps10
    go_wp2_with fail
    refine (HC.out _).mono ?_
    rintro e w1 ⟨rfl, hb⟩
    have HB1 := hide (HB.out.trans (hb.mono HB.out.size))
    have HN1 : Hid (RqB w.heap.size ⟨0, k, v⟩ w1) := HN.out.below hb
    have c0 := HN1.out.c0
    have c1 := HN1.out.c1
    have c2 := HN1.out.c2
    simp only at c0 c1 c2
    clear hb
    go_wp2_with fail
    refine (HW.out _).mono ?_
    rintro e w2 ⟨rfl, rfl⟩
    have hs1 : ∀ wx, (Op.stringOp .add X ⟨#[32]⟩).run Tryd.prog wx = .ok (.string (X ++ ⟨#[32]⟩)) wx := fun wx => run_string_add_sum wx _ _ (by omega)
    have hs2 : ∀ wx, (Op.stringOp .add (X ++ ⟨#[32]⟩) k).run Tryd.prog wx = .ok (.string (X ++ ⟨#[32]⟩ ++ k)) wx := fun wx => run_string_add_sum wx _ _ (by omega)
    have hs3 : ∀ wx, (Op.stringOp .add (X ++ ⟨#[32]⟩ ++ k) ⟨#[32]⟩).run Tryd.prog wx = .ok (.string (X ++ ⟨#[32]⟩ ++ k ++ ⟨#[32]⟩)) wx := fun wx => run_string_add_sum wx _ _ (by omega)
    have hs4 : ∀ wx, (Op.stringOp .add (X ++ ⟨#[32]⟩ ++ k ++ ⟨#[32]⟩) D).run Tryd.prog wx = .ok (.string (X ++ ⟨#[32]⟩ ++ k ++ ⟨#[32]⟩ ++ D)) wx := fun wx => run_string_add_sum wx _ _ (by omega)
    go_upto_region 6 with fail
    have e1 := cell_regrown c1
    have e2 := cell_regrown c2
    have r0 : ∀ q os, Calls Tryd.prog 21 #[.string v] (Go.Sort.grow (redrawn w1 q) os) fun e w'' => e = .returned (.string D) ∧ ∃ p : Regrown, w'' = Go.Sort.grow (redrawn w1 p.d) p.os := fun q os => Calls.regrown_of (HD.out _)
    refine wp_region_quiet_below (by kernel_rfl) (by kernel_rfl) ?_
    repeat (quiet_step (first | (with_reducible exact r0 _ _)))
    refine wpQuiet_nil ?_
    intro _ hw'
    obtain ⟨pq, hw''⟩ := hw'
    subst hw''
    have HQ := hide (HB1.out.trans ((below_regrown w1 pq.d pq.os).mono HB1.out.size))
    generalize Go.Sort.grow (redrawn w1 pq.d) pq.os = WQ at *
    clear e1 e2 r0
    go_wp2_with fail
    first | go_ret | go_returns
    exact ⟨by rw [HL.out]; rfl, HQ.out⟩
  have h0b : (d == 0) = false := by simpa using h0
  by_cases hz : k.size = 0
  · have ek := is_empty hz
    have HL : Hid (prS ⟨d, k, v⟩ = wordS d) := by rw [HE.out, lineS_one h0 hz]; exact rfl
    clear ok ov zw zd HE h0 hz
    simp only [rqs] at HB HN HC ⊢
    generalize wordS d = X at *
    go_enter Tryd.func10, Tryd.ntmps10
    go_wp2_with fail
    refine (HC.out _).mono ?_
    rintro e w1 ⟨rfl, hb⟩
    have HB1 := hide (HB.out.trans (hb.mono HB.out.size))
    have HN1 : Hid (RqB w.heap.size ⟨d, k, v⟩ w1) := HN.out.below hb
    have c0 := HN1.out.c0
    have c1 := HN1.out.c1
    simp only at c0 c1
    clear hb
    go_wp2_with fail
    refine (HW.out _).mono ?_
    rintro e w2 ⟨rfl, rfl⟩
    go_wp2_with fail
    first | go_ret | go_returns
    exact ⟨by rw [HL.out]; rfl, HB1.out⟩
  · have ek := not_empty hz
    have HL : Hid (prS ⟨d, k, v⟩ = wordS d ++ blank ++ k) := by rw [HE.out, lineS_twov h0 hz]; exact rfl
    have sz1 : ¬ 9223372036854775807 < (wordS d).size + blank.size := by omega
    have sz2 : ¬ 9223372036854775807 < (wordS d ++ blank).size + k.size := by rw [ByteArray.size_append]; omega
    clear ok ov zw zd HE h0 hz
    simp only [rqs, blank] at HB HN HC sz1 sz2 HL zb ⊢
    generalize wordS d = X at *
    go_enter Tryd.func10, Tryd.ntmps10
    go_wp2_with fail
    refine (HC.out _).mono ?_
    rintro e w1 ⟨rfl, hb⟩
    have HB1 := hide (HB.out.trans (hb.mono HB.out.size))
    have HN1 : Hid (RqB w.heap.size ⟨d, k, v⟩ w1) := HN.out.below hb
    have c0 := HN1.out.c0
    have c1 := HN1.out.c1
    simp only at c0 c1
    clear hb
    go_wp2_with fail
    refine (HW.out _).mono ?_
    rintro e w2 ⟨rfl, rfl⟩
    go_wp2_with fail
    first | go_ret | go_returns
    exact ⟨by rw [HL.out]; rfl, HB1.out⟩
end Go.Proofs.YtgcjcojmhfkbjaaDoor
