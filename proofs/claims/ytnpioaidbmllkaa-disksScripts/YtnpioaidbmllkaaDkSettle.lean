/- What waits is done, in order: settle, by the method that is handed on; Flush. -/
import Derived.Test.YtnpioaidbmllkaaDkWay
import Derived.Test.YtnpioaidbmllkaaDkWrite
namespace Go.Proofs.Ytnpioaidbmllkaa
open Go.RowKit
/-- the sectors behind writes -/
def secW (f : Nat → ByteArray) : List (Nat × ByteArray) → Nat → ByteArray
  | [] => f
  | x :: l => secW (fun m => if m = x.1 then x.2 else f m) l
theorem secW_snoc (f : Nat → ByteArray) (l : List (Nat × ByteArray)) (x : Nat × ByteArray) : secW f (l ++ [x]) = fun m => if m = x.1 then x.2 else secW f l m := by
  induction l generalizing f with
  | nil => rfl
  | cons y l ih => exact ih _
/-- a disk of which the first i writes were done, while they are still listed -/
def dkDone (x : Dk) (i : Nat) : Dk := ⟨x.lost, secW x.sec (x.ws.take i), x.wv, x.ws⟩
theorem dkDone_zero (x : Dk) : dkDone x 0 = x := rfl
theorem dkDone_step {x : Dk} {i : Nat} {y : Nat × ByteArray} (h : x.ws[i]? = some y) : putS (dkDone x i) y.1 y.2 = dkDone x (i + 1) := by
  unfold putS dkDone
  have : x.ws.take (i + 1) = x.ws.take i ++ [y] := by rw [List.take_add_one, h]; rfl
  simp only [this, secW_snoc]
theorem wait_row {w : World} {b : Nat} {D : Nat → Dk} (h : Bk w b D) {d i : Nat} (hd : d < 12) {x : Nat × ByteArray} (hx : (D d).ws[i]? = some x) : ∃ g c, (D d).wv = .slice (some ⟨g, 0, none⟩) (D d).ws.length c ∧ (D d).ws.length ≤ c ∧ c ≤ 9223372036854775807 ∧ g < w.heap.size ∧ g ≠ b ∧ w.cell? ⟨g, i * 2, none⟩ = some (.int .i64 (x.1 : Int)) ∧ w.cell? ⟨g, i * 2 + 1, none⟩ = some (.string x.2) := by
  have hr := h.rows d hd
  have hi : i < (D d).ws.length := (List.getElem?_eq_some_iff.1 hx).1
  obtain ⟨hl, ⟨h1, h2⟩ | ⟨g, cap, cur, hv, hb, hg, hc, hm, hz, ht⟩⟩ := hr
  · omega
  · have hcell : ∀ p, p < (D d).ws.length * 2 → w.cell? ⟨g, p, none⟩ = (wtV (D d).ws)[p]? := fun p hp => by
      rw [cell_of_block hg, ← ht, List.getElem?_take, if_pos hp, Array.getElem?_toList]
    have hw := wtV_at hx
    refine ⟨g, cap, hv, hc, hm, lt_of_block hg, fun e => h.off d hd (by rw [hv, e]; rfl), ?_, ?_⟩
    · rw [hcell _ (by omega), show i * 2 = 2 * i by omega, hw.1]
    · rw [hcell _ (by omega), show i * 2 + 1 = 2 * i + 1 by omega, hw.2]
set_option maxRecDepth 100000 in
set_option maxHeartbeats 2000000 in
theorem flush1_any (w : World) : Calls Try.prog 37 #[] w fun e w' => e = .returned (.func (.func 38) #[] #[]) ∧ w = w' := by
  go_enter Try.func37, Try.ntmps37
  go_wp2_with fail
  go_ret
  exact ⟨rfl, rfl⟩
theorem wr_size : (Try.prog.info? 72).map (·.size) = some 2 := by kernel_rfl
set_option maxRecDepth 100000 in
set_option maxHeartbeats 2000000 in
theorem settle_flush (b d : Nat) (D : Nat → Dk) (w : World) (h : Bk w b D) (hd : d < 12) :
    Calls Try.prog 36 #[.pointer (some ⟨b, d * 114, none⟩), .func (.func 37) #[] #[]] w fun e w' => e = .returned (.tuple #[]) ∧ Bk w' b (upd D d ⟨(D d).lost, secW (D d).sec (D d).ws, .slice none 0 0, []⟩) ∧ Step b D w (upd D d ⟨(D d).lost, secW (D d).sec (D d).ws, .slice none 0 0, []⟩) w' := by
  have H := hide h
  have hc := h.wait hd
  obtain ⟨a, c, hv⟩ := row_form (h.rows d hd)
  rw [hv] at hc
  have HV := hide hv
  clear h hv
  generalize hL : (D d).ws.length = L at *
  have HL := hide hL
  clear hL
  go_enter Try.func36, Try.ntmps36
  go_wp2_with fail
  go_loopw [12] (fun y wr => ∃ i : Nat, i ≤ L ∧ y = .int .i64 i ∧ Bk wr b (upd D d (dkDone (D d) i)) ∧ Step b D w (upd D d (dkDone (D d) i)) wr) (fun y _ => L - (intOf y).toNat)
  case atStart => exact ⟨0, by omega, rfl, by rw [dkDone_zero, upd_same]; exact H.out, by rw [dkDone_zero, upd_same]; exact Step.refl _ _ _⟩
  case round =>
    obtain ⟨i, hi, rfl, hB, hS⟩ := hrel
    clear hc
    have HB := hide hB
    have HS := hide hS
    by_cases hlt : i < L
    · obtain ⟨x, hx⟩ : ∃ x, (D d).ws[i]? = some x := ⟨_, List.getElem?_eq_getElem (by have := HL.out; omega)⟩
      have hx' : (upd D d (dkDone (D d) i) d).ws[i]? = some x := by rw [upd_at]; exact hx
      obtain ⟨g, cc, hwv, hlc, hcm, hgl, hgb, hr1, hr2⟩ := wait_row hB hd hx'
      rw [upd_at] at hwv hlc
      have hwv' : (D d).wv = .slice (some ⟨g, 0, none⟩) (D d).ws.length cc := hwv
      rw [HV.out, HL.out] at hwv'
      have hac : a = some ⟨g, 0, none⟩ ∧ c = cc := by cases hwv'; exact ⟨rfl, rfl⟩
      obtain ⟨rfl, rfl⟩ := hac
      have hn : x.1 < 112 := by have := hB.secs d hd x (by rw [upd_at]; exact List.mem_of_getElem? hx); exact this
      have HX := hide hx
      have hd1 : decide ((i : Int) < (L : Int)) = true := by simp; omega
      have hdi : (i : Int) < (L : Int) := by omega
      obtain ⟨xn, xs⟩ := x
      have hL63 : L ≤ 9223372036854775807 := by have h9 : (dkDone (D d) i).ws.length = L := HL.out; omega
      clear hx hx' hwv hwv' hlc hB hS
      go_wp2_with fail
      refine (flush1_any _).mono ?_
      rintro e w1 ⟨rfl, rfl⟩
      go_wp2_with fail
      refine (whole_any b d xn xs _ _ (HB.out.below ((Below.refl _ _).alloc (Nat.le_refl _) _)) hd hn).mono ?_
      rw [upd_at, upd_upd, dkDone_step HX.out]
      rintro e w2 ⟨rfl, hB2, hS2⟩
      have HB2 := hide hB2
      have HS2 := hide (HS.out.trans ((Step.of_below ((Below.refl _ _).alloc (Nat.le_refl _) _)).trans hS2))
      clear hB2 hS2 hr1 hr2
      go_wp2_with fail
      exact ⟨⟨i + 1, by omega, by go_num, HB2.out, HS2.out⟩, by simp [intOf]; omega⟩
    · have hd1 : decide ((i : Int) < (L : Int)) = false := by simp; omega
      have HN := hide (HB.out.setNone hd)
      have hc2 := hB.wait hd
      have hf2 := hB.free (d * 114 + 113)
      have HF : Hid (upd (upd D d (dkDone (D d) i)) d ⟨(upd D d (dkDone (D d) i) d).lost, (upd D d (dkDone (D d) i) d).sec, .slice none 0 0, []⟩ = upd D d ⟨(D d).lost, secW (D d).sec (D d).ws, .slice none 0 0, []⟩) := by
        show _ = _
        rw [upd_upd, upd_at]
        show upd D d ⟨(D d).lost, secW (D d).sec ((D d).ws.take i), .slice none 0 0, []⟩ = _
        rw [List.take_of_length_le (by have := HL.out; omega)]
      rw [HF.out] at HN
      clear hB hS
      go_wp2_with fail
      go_end0
      exact ⟨rfl, HN.out.1, HS.out.trans HN.out.2⟩
set_option maxRecDepth 100000 in
set_option maxHeartbeats 2000000 in
theorem flush_ok (b d : Nat) (D : Nat → Dk) (w : World) (h : Bk w b D) (hd : d < 12) (hl : (D d).lost = false) :
    Calls Try.prog 20 #[.pointer (some ⟨b, 0, none⟩), .int .i64 (d : Int)] w fun e w' => e = .returned (.int .i64 0) ∧ Bk w' b (upd D d ⟨(D d).lost, secW (D d).sec (D d).ws, .slice none 0 0, []⟩) ∧ Step b D w (upd D d ⟨(D d).lost, secW (D d).sec (D d).ws, .slice none 0 0, []⟩) w' := by
  have hE : eLive D (d : Int) = 0 := by unfold eLive; rw [if_neg (by omega), Int.toNat_natCast, hl]; rfl
  have hT := liveD_any b (d : Int) D w h
  rw [hE, pDisk_ok, Int.toNat_natCast] at hT
  have HT := hide hT
  have H := hide h
  clear hT hE h hl
  go_enter Try.func20, Try.ntmps20
  go_wp2_with fail
  refine HT.out.mono ?_
  rintro e w1 ⟨rfl, rfl⟩
  go_wp2_with fail
  refine (settle_flush b d D w H.out hd).mono ?_
  rintro e w2 ⟨rfl, hB2, hS2⟩
  have HB2 := hide hB2
  have HS2 := hide hS2
  clear hB2 hS2
  go_wp2_with fail
  go_ret
  exact ⟨rfl, HB2.out, HS2.out⟩
set_option maxRecDepth 100000 in
set_option maxHeartbeats 2000000 in
theorem flush_bad (b : Nat) (d : Int) (D : Nat → Dk) (w : World) (h : Bk w b D) (he : eLive D d ≠ 0) :
    Calls Try.prog 20 #[.pointer (some ⟨b, 0, none⟩), .int .i64 d] w fun e w' => e = .returned (.int .i64 (eLive D d : Nat)) ∧ w = w' := by
  have hT := liveD_any b d D w h
  rw [pDisk_bad he] at hT
  have HT := hide hT
  clear hT h
  generalize eLive D d = E at *
  have hq : ((E : Int) != 0) = true := by simp; omega
  go_enter Try.func20, Try.ntmps20
  go_wp2_with fail
  refine HT.out.mono ?_
  rintro e w1 ⟨rfl, rfl⟩
  go_wp2_with fail
  go_ret
  exact ⟨rfl, rfl⟩
set_option maxRecDepth 100000 in
set_option maxHeartbeats 2000000 in
theorem flush_nil (d : Int) (w : World) : Calls Try.prog 20 #[.pointer none, .int .i64 d] w fun e w' => e = .returned (.int .i64 1) ∧ w = w' := by
  go_enter Try.func20, Try.ntmps20
  go_wp2_with fail
  refine (live_nil d w).mono ?_
  rintro e w1 ⟨rfl, rfl⟩
  go_wp2_with fail
  go_ret
  exact ⟨rfl, rfl⟩
end Go.Proofs.Ytnpioaidbmllkaa
