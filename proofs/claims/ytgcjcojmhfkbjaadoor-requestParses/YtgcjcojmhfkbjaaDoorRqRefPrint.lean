/- What the document's Print answers. -/
import Derived.Test.YtgcjcojmhfkbjaaDoorRqPrint
namespace Go.Proofs.YtgcjcojmhfkbjaaDoor
open Go.RowKit
set_option linter.unusedVariables false
theorem refword_i (d : Int) (h0 : 0 ≤ d) (h4 : d ≤ 4) (w : World) : Calls Tryd.prog 22 #[.int .i64 d] w fun e w' => e = .returned (.string (wordS d)) ∧ Below w.heap.size w w' := by
  obtain ⟨n, rfl⟩ : ∃ n : Nat, d = n := ⟨d.toNat, by omega⟩
  exact refword_any n (by omega) w
set_option maxRecDepth 100000 in
set_option maxHeartbeats 8000000 in
theorem rprint_any (r : Rq) (w : World) (hk : r.k.size ≤ 1000) (hv : r.v.size ≤ 10000) : Calls Tryd.prog 11 #[.agg (rqs r)] w fun e w' => e = .returned (.tuple #[.string (prS r), .int .i64 (rqE r)]) ∧ Below w.heap.size w w' := by
  have HB : Hid (Below w.heap.size w (w.alloc (.cells (rqs r) 23))) := (Below.refl _ _).alloc (Nat.le_refl _) _
  have HN := hide (rqB_new r w)
  have HC := hide (fun W => qrcheck_any r W (by omega) (by omega))
  by_cases he : rqE r = 0
  case neg =>
    have HE : Hid (prS r = ByteArray.empty) := by show _ = _; unfold prS; rw [if_neg he]
    have g1 : (rqE r != 0) = true := by simpa using he
    clear he
    generalize rqE r = E at *
    obtain ⟨d, k, v⟩ := r
    simp only [rqs] at HB HN HC hk hv ⊢
    go_enter Tryd.func11, Tryd.ntmps11
    go_wp2_with fail
    refine (HC.out _).mono ?_
    rintro e w1 ⟨rfl, hb⟩
    have HB1 := hide (HB.out.trans (hb.mono HB.out.size))
    clear hb
    go_wp2_with fail
    first | go_ret | go_returns
    exact ⟨by rw [HE.out]; rfl, HB1.out⟩
  obtain ⟨o0, o4, ov, ok⟩ := rqE_ok he
  have HE : Hid (prS r = lineS r) := by show _ = _; unfold prS; rw [if_pos he]
  rw [he] at HC ⊢
  clear he
  obtain ⟨d, k, v⟩ := r
  have HW := hide (fun W => refword_i d o0 o4 W)
  have zw := wordS_size d
  have zd := dgS_size v
  have zb := blank_size
  simp only at o0 o4 ov ok hk hv
  by_cases h0 : d = 0
  · subst h0
    have hkz : k.size ≠ 0 := by
      rcases ok with q | q
      · exact absurd q.1 (by decide)
      · have := q.1.1; omega
    have ek := not_empty hkz
    have HL : Hid (prS ⟨0, k, v⟩ = wordS 0 ++ blank ++ k ++ blank ++ dgS v) := by rw [HE.out, lineS_put]; exact rfl
    have HD := hide (fun W => refdigits_any v W (by omega))
    have sz1 : (wordS 0).size + blank.size ≤ 9223372036854775807 := by omega
    have sz2 : (wordS 0 ++ blank).size + k.size ≤ 9223372036854775807 := by rw [ByteArray.size_append]; omega
    have sz3 : (wordS 0 ++ blank ++ k).size + blank.size ≤ 9223372036854775807 := by rw [ByteArray.size_append, ByteArray.size_append]; omega
    have sz4 : (wordS 0 ++ blank ++ k ++ blank).size + (dgS v).size ≤ 9223372036854775807 := by rw [ByteArray.size_append, ByteArray.size_append, ByteArray.size_append]; omega
    clear ok ov zw zd HE hkz
    simp only [rqs, blank] at HB HN HC sz1 sz2 sz3 sz4 HL zb ⊢
    generalize wordS 0 = X at *
    generalize dgS v = D at *
    have hs1 : ∀ wx, (Op.stringOp .add X ⟨#[32]⟩).run Tryd.prog wx = .ok (.string (X ++ ⟨#[32]⟩)) wx := fun wx => run_string_add_sum wx _ _ (by omega)
    have hs2 : ∀ wx, (Op.stringOp .add (X ++ ⟨#[32]⟩) k).run Tryd.prog wx = .ok (.string (X ++ ⟨#[32]⟩ ++ k)) wx := fun wx => run_string_add_sum wx _ _ (by omega)
    have hs3 : ∀ wx, (Op.stringOp .add (X ++ ⟨#[32]⟩ ++ k) ⟨#[32]⟩).run Tryd.prog wx = .ok (.string (X ++ ⟨#[32]⟩ ++ k ++ ⟨#[32]⟩)) wx := fun wx => run_string_add_sum wx _ _ (by omega)
    have hs4 : ∀ wx, (Op.stringOp .add (X ++ ⟨#[32]⟩ ++ k ++ ⟨#[32]⟩) D).run Tryd.prog wx = .ok (.string (X ++ ⟨#[32]⟩ ++ k ++ ⟨#[32]⟩ ++ D)) wx := fun wx => run_string_add_sum wx _ _ (by omega)
    go_enter Tryd.func11, Tryd.ntmps11
    go_wp2_with fail
    refine (HC.out _).mono ?_
    rintro e w1 ⟨rfl, hb⟩
    have HB1 := hide (HB.out.trans (hb.mono HB.out.size))
    have HN1 : Hid (RqB w.heap.size ⟨0, k, v⟩ w1) := HN.out.below hb
    have c0 := HN1.out.c0
    simp only at c0
    clear hb
    go_wp2_with fail
    refine (HW.out _).mono ?_
    rintro e w2 ⟨rfl, hb⟩
    have HB2 := hide (HB1.out.trans (hb.mono HB1.out.size))
    have HN2 : Hid (RqB w.heap.size ⟨0, k, v⟩ w2) := HN1.out.below hb
    have d0 := HN2.out.c0
    have d1 := HN2.out.c1
    have d2 := HN2.out.c2
    simp only at d0 d1 d2
    clear hb c0
    go_wp2_with fail
    refine (HD.out _).mono ?_
    rintro e w3 ⟨rfl, hb⟩
    have HB3 := hide (HB2.out.trans (hb.mono HB2.out.size))
    clear hb
    go_wp2_with fail
    first | go_ret | go_returns
    exact ⟨by rw [HL.out]; rfl, HB3.out⟩
  have h0b : (d == 0) = false := by simpa using h0
  by_cases hz : k.size = 0
  · have ek := is_empty hz
    have HL : Hid (prS ⟨d, k, v⟩ = wordS d) := by rw [HE.out, lineS_one h0 hz]; exact rfl
    clear ok ov zw zd HE h0 hz
    simp only [rqs] at HB HN HC ⊢
    generalize wordS d = X at *
    go_enter Tryd.func11, Tryd.ntmps11
    go_wp2_with fail
    refine (HC.out _).mono ?_
    rintro e w1 ⟨rfl, hb⟩
    have HB1 := hide (HB.out.trans (hb.mono HB.out.size))
    have HN1 : Hid (RqB w.heap.size ⟨d, k, v⟩ w1) := HN.out.below hb
    have c0 := HN1.out.c0
    simp only at c0
    clear hb
    go_wp2_with fail
    refine (HW.out _).mono ?_
    rintro e w2 ⟨rfl, hb⟩
    have HB2 := hide (HB1.out.trans (hb.mono HB1.out.size))
    have HN2 : Hid (RqB w.heap.size ⟨d, k, v⟩ w2) := HN1.out.below hb
    have d0 := HN2.out.c0
    have d1 := HN2.out.c1
    simp only at d0 d1
    clear hb c0
    go_wp2_with fail
    first | go_ret | go_returns
    exact ⟨by rw [HL.out]; rfl, HB2.out⟩
  · have ek := not_empty hz
    have HL : Hid (prS ⟨d, k, v⟩ = wordS d ++ blank ++ k) := by rw [HE.out, lineS_twov h0 hz]; exact rfl
    have sz1 : (wordS d).size + blank.size ≤ 9223372036854775807 := by omega
    have sz2 : (wordS d ++ blank).size + k.size ≤ 9223372036854775807 := by rw [ByteArray.size_append]; omega
    clear ok ov zw zd HE h0 hz
    simp only [rqs, blank] at HB HN HC sz1 sz2 HL zb ⊢
    generalize wordS d = X at *
    have hs1 : ∀ wx, (Op.stringOp .add X ⟨#[32]⟩).run Tryd.prog wx = .ok (.string (X ++ ⟨#[32]⟩)) wx := fun wx => run_string_add_sum wx _ _ (by omega)
    have hs2 : ∀ wx, (Op.stringOp .add (X ++ ⟨#[32]⟩) k).run Tryd.prog wx = .ok (.string (X ++ ⟨#[32]⟩ ++ k)) wx := fun wx => run_string_add_sum wx _ _ (by omega)
    go_enter Tryd.func11, Tryd.ntmps11
    go_wp2_with fail
    refine (HC.out _).mono ?_
    rintro e w1 ⟨rfl, hb⟩
    have HB1 := hide (HB.out.trans (hb.mono HB.out.size))
    have HN1 : Hid (RqB w.heap.size ⟨d, k, v⟩ w1) := HN.out.below hb
    have c0 := HN1.out.c0
    simp only at c0
    clear hb
    go_wp2_with fail
    refine (HW.out _).mono ?_
    rintro e w2 ⟨rfl, hb⟩
    have HB2 := hide (HB1.out.trans (hb.mono HB1.out.size))
    have HN2 : Hid (RqB w.heap.size ⟨d, k, v⟩ w2) := HN1.out.below hb
    have d0 := HN2.out.c0
    have d1 := HN2.out.c1
    simp only at d0 d1
    clear hb c0
    go_wp2_with fail
    first | go_ret | go_returns
    exact ⟨by rw [HL.out]; rfl, HB2.out⟩
end Go.Proofs.YtgcjcojmhfkbjaaDoor
