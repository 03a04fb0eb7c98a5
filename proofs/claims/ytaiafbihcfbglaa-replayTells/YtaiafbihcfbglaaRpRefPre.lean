/- What the document's Prefix answers: the records that sectors begin with. -/
import Derived.Test.YtaiafbihcfbglaaRpPre
import Derived.Test.YtaiafbihcfbglaaRcRefRead
namespace Go.Proofs.Ytaiafbihcfbglaa
open Go.RowKit
set_option linter.unusedVariables false
theorem LocB.low {w w' : World} {b : Nat} (h : LocB w b) (hb : Below w.heap.size w w') : LocB w' b := h.keep (hb.block b h.lt)
set_option maxRecDepth 100000 in
set_option maxHeartbeats 8000000 in
theorem qprefix_any (a : Option Addr) (c n : Nat) (ss : List ByteArray) (w : World) (hl : ss.length = n) (hn : n ≤ 100000) (h : StrsAt w a ss) (hsz : ∀ s ∈ ss, s.size ≤ 100000) : Calls Try.prog 13 #[.slice a n c] w (PfP ss w) := by
  have HL := hide hl
  have HR := hide h
  have HZ := hide hsz
  obtain ⟨i0, hi, hz0, hz1, hz2⟩ := info_parts ref_full
  have HI := hide hi
  have HI0 := hide hz0
  have HI1 := hide hz1
  have HI2 := hide hz2
  clear hl h hi hz0 hz1 hz2 hsz
  go_enter Try.func13, Try.ntmps13
  go_wp2_with fail
  go_loopw [3, 4] (fun x y wr => ∃ k : Nat, k ≤ n ∧ y = .int .i64 k ∧ ∃ l, PfI w wr 33 ss x k l) (fun _ y _ => n - (intOf y).toNat)
  case atStart => exact ⟨0, by omega, rfl, [], PfI.nil w w 33 ss (Below.refl _ _)⟩
  case round =>
    obtain ⟨k, hk, rfl, l, hg⟩ := hrel
    have HG := hide hg
    clear hg
    by_cases hlt : k < n
    · have hd : decide ((k : Int) < (n : Int)) = true := by simp; omega
      have hdi : (k : Int) < (n : Int) := by omega
      have hd0 : (0 : Int) ≤ (k : Int) := by omega
      obtain ⟨s, hs⟩ : ∃ x, ss[k]? = some x := ⟨_, List.getElem?_eq_getElem (by have := HL.out; omega)⟩
      obtain ⟨b1, o1, rfl, hb1, e1⟩ := (HR.out.below HG.out.gr.2).nth hs
      have HS := hide hs
      have hssz : s.size ≤ 100000 := HZ.out s (List.mem_of_getElem? hs)
      clear hs
      go_wp2_with fail
      refine (qread_any s wr hssz).mono ?_
      rintro e w1 ⟨ra, rc, rfl, hla, hfr, hb2⟩
      have P1 := hide (HG.out.below hb2)
      have PL1 : Hid (PlOk w.heap.size w1 (rdC s, ra, rc)) := ⟨hla, fun b o q => ⟨Nat.le_trans HG.out.gr.2.size (hfr b o q).1, (hfr b o q).2⟩⟩
      have hal1 : Below w1.heap.size w1 (w1.alloc (.cells #[.int .i64 0, .int .i64 0, .int .i64 0, .int .i64 0, .int .i64 0, .slice none 0 0, .string { data := #[] }, .int .i64 0, .int .i64 0, .int .i64 0, .string { data := #[] }, .string { data := #[] }, .int .i64 0, .int .i64 0] 33)) := (Below.refl _ _).alloc (Nat.le_refl _) _
      have hrow1 := below_setRow hal1 (Nat.le_refl _) (rcs (rdC s) ra rc)
      have N1 : Hid (RBx w1.heap.size 33 Rc.zero none 0 (w1.alloc (.cells #[.int .i64 0, .int .i64 0, .int .i64 0, .int .i64 0, .int .i64 0, .slice none 0 0, .string { data := #[] }, .int .i64 0, .int .i64 0, .int .i64 0, .string { data := #[] }, .string { data := #[] }, .int .i64 0, .int .i64 0] 33))) := rbx_new 33 Rc.zero none 0 w1
      have X1 : Hid (RBx w1.heap.size 33 (rdC s) ra rc ((w1.alloc (.cells #[.int .i64 0, .int .i64 0, .int .i64 0, .int .i64 0, .int .i64 0, .slice none 0 0, .string { data := #[] }, .int .i64 0, .int .i64 0, .int .i64 0, .string { data := #[] }, .string { data := #[] }, .int .i64 0, .int .i64 0] 33)).setRow w1.heap.size (rcs (rdC s) ra rc))) := N1.out.row _ ra rc
      have PI : Hid (PfI w ((w1.alloc (.cells #[.int .i64 0, .int .i64 0, .int .i64 0, .int .i64 0, .int .i64 0, .slice none 0 0, .string { data := #[] }, .int .i64 0, .int .i64 0, .int .i64 0, .string { data := #[] }, .string { data := #[] }, .int .i64 0, .int .i64 0] 33)).setRow w1.heap.size (rcs (rdC s) ra rc)) 33 ss u3 k l) := P1.out.below hrow1
      have PL2 : Hid (PlOk w.heap.size ((w1.alloc (.cells #[.int .i64 0, .int .i64 0, .int .i64 0, .int .i64 0, .int .i64 0, .slice none 0 0, .string { data := #[] }, .int .i64 0, .int .i64 0, .int .i64 0, .string { data := #[] }, .string { data := #[] }, .int .i64 0, .int .i64 0] 33)).setRow w1.heap.size (rcs (rdC s) ra rc)) (rdC s, ra, rc)) := PL1.out.below hrow1
      clear hla hfr hb2 P1 PL1 hal1 hrow1 HG e1
      by_cases hE : rdE s = 0
      · have e0 : (rdE s == 0) = true := by simp [hE]
        have e0' : (rdE s != 0) = false := by simp [hE]
        by_cases hQ : (rdC s).seq = (k : Int)
        · have q0 : ((rdC s).seq == (k : Int)) = true := by simp [hQ]
          have q0' : ((rdC s).seq != (k : Int)) = false := by simp [hQ]
          have OK : Hid (okF k s) := ⟨hE, hQ⟩
          have HSTEP : Hid (∀ (v' : Value) (w3 : World) (o : Obj), w3.ownsRow w.heap.size 33 14 v' (k + 1) (rtV l ++ (rtC (rdC s, ra, rc)).toList) → (((w1.alloc (.cells #[.int .i64 0, .int .i64 0, .int .i64 0, .int .i64 0, .int .i64 0, .slice none 0 0, .string { data := #[] }, .int .i64 0, .int .i64 0, .int .i64 0, .string { data := #[] }, .string { data := #[] }, .int .i64 0, .int .i64 0] 33)).setRow w1.heap.size (rcs (rdC s) ra rc)).alloc o).grownBy w3 u3.ownBlock → PfI w w3 33 ss v' (k + 1) (l ++ [(rdC s, ra, rc)])) := fun v' w3 o hown hgr => PI.out.step (by decide) HS.out OK.out PL2.out hown hgr
          have hz14 : (rcs (rdC s) ra rc).size = 14 := rfl
          clear hE hQ
          go_wp2_with (first | (refine wpList_store_row rfl 33 (.tmp 5) (.tmp 19) rfl w1.heap.size (rcs (rdC s) ra rc) rfl rfl 33 (rcs Rc.zero none 0) N1.out ref_info rfl (rcs_one _ _ _) ?_; generalize ((w1.alloc (.cells #[.int .i64 0, .int .i64 0, .int .i64 0, .int .i64 0, .int .i64 0, .slice none 0 0, .string { data := #[] }, .int .i64 0, .int .i64 0, .int .i64 0, .string { data := #[] }, .string { data := #[] }, .int .i64 0, .int .i64 0] 33)).setRow w1.heap.size (rcs (rdC s) ra rc)) = W1 at *; generalize w1.heap.size = bb1 at *; have c0 := X1.out.c0) | (refine wpList_load_row rfl 33 (.tmp 5) rfl bb1 rfl 33 (rcs (rdC s) ra rc) (0, 0) _ X1.out Try.underlying33 rfl ref_info ?_) | (at_builtin; first | rw [fold_rcs] | rw [fold_14]; refine wpList_append_own _ rfl (.tmp 30) (.tmp 32) 23 rfl w.heap.size 33 i0 (.agg (rcs Rc.zero none 0)) 14 152 Try.underlying23 HI.out HI0.out HI1.out HI2.out rfl (by decide) u3 k (rtV l) rfl (own_alloc PI.out.gr.1 _) ⟨W1.heap.size, 0, none⟩ 1 1 (rtC (rdC s, ra, rc)).toList rfl rfl (cell_rec_new W1 (rdC s, ra, rc) 33) (rtC_one _) (by unfold maxLen; omega) (by omega) (by rw [World.size_alloc]; have := PI.out.gr.2.size; omega) ?_; intro v' w3 hown hgr hnil; clear hnil; have P3 := hide (HSTEP.out v' w3 _ hown hgr); clear hown hgr))
          exact ⟨⟨k + 1, by omega, by go_num, _, P3.out⟩, by simp [intOf]; omega⟩
        · have q0 : ((rdC s).seq == (k : Int)) = false := by simp [hQ]
          have q0' : ((rdC s).seq != (k : Int)) = true := by simp [hQ]
          have NO : Hid (∀ s', ss[k]? = some s' → ¬ okF k s') := fun s' hs' q => by rw [HS.out] at hs'; cases hs'; exact hQ q.2
          clear hE hQ
          go_wp2_with (first | (refine wpList_store_row rfl 33 (.tmp 5) (.tmp 19) rfl w1.heap.size (rcs (rdC s) ra rc) rfl rfl 33 (rcs Rc.zero none 0) N1.out ref_info rfl (rcs_one _ _ _) ?_; generalize ((w1.alloc (.cells #[.int .i64 0, .int .i64 0, .int .i64 0, .int .i64 0, .int .i64 0, .slice none 0 0, .string { data := #[] }, .int .i64 0, .int .i64 0, .int .i64 0, .string { data := #[] }, .string { data := #[] }, .int .i64 0, .int .i64 0] 33)).setRow w1.heap.size (rcs (rdC s) ra rc)) = W1 at *; generalize w1.heap.size = bb1 at *; have c0 := X1.out.c0))
          try go_ret
          exact PI.out.stop NO.out
      · have e0 : (rdE s == 0) = false := by simp [hE]
        have e0' : (rdE s != 0) = true := by simp [hE]
        have NO : Hid (∀ s', ss[k]? = some s' → ¬ okF k s') := fun s' hs' q => by rw [HS.out] at hs'; cases hs'; exact hE q.1
        clear hE
        go_wp2_with (first | (refine wpList_store_row rfl 33 (.tmp 5) (.tmp 19) rfl w1.heap.size (rcs (rdC s) ra rc) rfl rfl 33 (rcs Rc.zero none 0) N1.out ref_info rfl (rcs_one _ _ _) ?_; generalize ((w1.alloc (.cells #[.int .i64 0, .int .i64 0, .int .i64 0, .int .i64 0, .int .i64 0, .slice none 0 0, .string { data := #[] }, .int .i64 0, .int .i64 0, .int .i64 0, .string { data := #[] }, .string { data := #[] }, .int .i64 0, .int .i64 0] 33)).setRow w1.heap.size (rcs (rdC s) ra rc)) = W1 at *; generalize w1.heap.size = bb1 at *; have c0 := X1.out.c0))
        try go_ret
        exact PI.out.stop NO.out
    · have hd : decide ((k : Int) < (n : Int)) = false := by simp; omega
      have hdi : ¬ (k : Int) < (n : Int) := by omega
      have NO : Hid (∀ s', ss[k]? = some s' → ¬ okF k s') := fun s' hs' => by rw [List.getElem?_eq_none (by have := HL.out; omega)] at hs'; cases hs'
      go_wp2_with fail
      try go_ret
      exact HG.out.stop NO.out
end Go.Proofs.Ytaiafbihcfbglaa
