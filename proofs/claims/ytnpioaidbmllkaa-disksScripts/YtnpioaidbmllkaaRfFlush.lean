/- What the document's Flush answers. -/
import Derived.Test.YtnpioaidbmllkaaRfWrite
import Derived.StillTailTactics
namespace Go.Proofs.Ytnpioaidbmllkaa
open Go.RowKit
set_option linter.unusedVariables false
/-- a disk of which the first i writes were done -/
def rFl (x : Rk) (i : Nat) : Rk := ⟨x.p, x.g, x.wv, ⟨x.ct.lost, secW x.ct.sec (x.ct.ws.take i), x.ct.ws⟩⟩
theorem rFl_zero (x : Rk) : rFl x 0 = x := rfl
theorem rFl_step {x : Rk} {i : Nat} {y : Nat × ByteArray} (h : x.ct.ws[i]? = some y) : rSec (rFl x i) y.1 y.2 = rFl x (i + 1) := by
  unfold rSec rFl
  rw [List.take_add_one, h]
  show Rk.mk _ _ _ (Ct.mk _ _ _) = Rk.mk _ _ _ (Ct.mk _ (secW x.ct.sec (x.ct.ws.take i ++ [y])) _)
  rw [secW_app]
  rfl
theorem rNone (x : Rk) : rWait x (.slice none 0 0) [] = ⟨x.p, x.g, .slice none 0 0, ⟨x.ct.lost, x.ct.sec, []⟩⟩ := rfl
theorem RB.setNone {w : World} {rb : Nat} {v : Value} {k : Nat} {R : Nat → Rk} (h : RB w rb v k R) {e : Nat} (he : e < k) :
    RB (w.setCell ⟨(R e).p, 1, none⟩ (.slice none 0 0)) rb v k (updR R e (rWait (R e) (.slice none 0 0) [])) ∧ RStep rb v k R w (updR R e (rWait (R e) (.slice none 0 0) [])) (w.setCell ⟨(R e).p, 1, none⟩ (.slice none 0 0)) :=
  h.setWait he _ [] (fun y hy => by cases hy) (World.ownsRow_nil _ _ _ _) (grown_refl _ _) (fun q hq => by cases hq)
set_option maxRecDepth 100000 in
set_option maxHeartbeats 4000000 in
theorem rFlush_any (rb : Nat) (v : Value) (R : Nat → Rk) (C : Nat → Ct) (d : Int) (w : World) (h : RB w rb v 12 R) (hC : ContR R C) :
    Calls Try.prog 27 #[.pointer (some ⟨rb, 0, none⟩), .int .i64 d] w fun e w' => e = .returned (.int .i64 (eLiveC C d : Nat)) ∧ DidR rb v R w (flC C d) w' := by
  have HK := hide (rCheck_any rb v R C d 0 ⟨#[]⟩ w h hC (by decide))
  rw [take_live] at HK
  unfold flC
  by_cases hz : eLiveC C d = 0
  · obtain ⟨h4, h5, hl⟩ := live_in hz
    obtain ⟨k, rfl⟩ : ∃ k : Nat, d = (k : Int) := ⟨d.toNat, by omega⟩
    have hk : k < 12 := by omega
    rw [hz] at HK ⊢
    rw [if_pos rfl]
    simp only [Int.toNat_natCast]
    obtain ⟨gd, cap, hv, hc12, hcm, cB, cP, -⟩ := h.at hk
    have HC := hide hC
    have HCK := hide (hC k hk)
    have H := hide h
    have HROW := hide (h.dk k hk).row
    obtain ⟨a9, c9, hv9⟩ := row_form (h.dk k hk).row
    have HV9 := hide hv9
    generalize hL : (R k).ct.ws.length = L at *
    have HL := hide hL
    have g2 : (k : Int) < 12 := by omega
    have g3 : (0 : Int) ≤ (k : Int) := by omega
    clear h hC h4 h5 hl hz hv9 hL
    subst hv
    go_enter Try.func27, Try.ntmps27
    go_wp2_with fail
    refine HK.out.mono ?_
    rintro e w1 ⟨rfl, rfl⟩
    go_wp2_with fail
    clear cB cP
    go_loopw [7] (fun y wr => ∃ i : Nat, i ≤ L ∧ y = .int .i64 i ∧ RB wr rb (.slice (some ⟨gd, 0, none⟩) 12 cap) 12 (updR R k (rFl (R k) i)) ∧ RStep rb (.slice (some ⟨gd, 0, none⟩) 12 cap) 12 R w (updR R k (rFl (R k) i)) wr) (fun y _ => L - (intOf y).toNat)
    case atStart => exact ⟨0, by omega, rfl, by rw [rFl_zero, updR_same]; exact H.out, by rw [rFl_zero, updR_same]; exact RStep.refl _ _ _ _ _⟩
    case round =>
      obtain ⟨i, hi, rfl, hB, hS⟩ := hrel
      have HB := hide hB
      have HS := hide hS
      have hdk := hB.dk k hk
      rw [updR_at] at hdk
      have c0 : wr.cell? ⟨(R k).p, 0, none⟩ = some (.slice (some ⟨(R k).g, 0, none⟩) 112 112) := hdk.c0
      have c1 : wr.cell? ⟨(R k).p, 1, none⟩ = some (R k).wv := hdk.c1
      rw [HV9.out] at c1
      have hL63 : L ≤ 9223372036854775807 := by have := row_max HROW.out; have := HL.out; omega
      by_cases hlt : i < L
      · obtain ⟨y, hy⟩ : ∃ y, (R k).ct.ws[i]? = some y := ⟨_, List.getElem?_eq_getElem (by have := HL.out; omega)⟩
        obtain ⟨g, cc, hvv, hlc, hcm2, hgl, hr1, hr2⟩ := rrow_at hdk.row (i := i) (x := y) hy
        have hvv' : (R k).wv = .slice (some ⟨g, 0, none⟩) (R k).ct.ws.length cc := hvv
        rw [HV9.out, HL.out] at hvv'
        cases hvv'
        have hyn := hdk.wsl y (List.mem_of_getElem? hy)
        have cS := hdk.cs hyn
        have fS := hdk.fs y.1
        have hst := HB.out.setSec hk (n := y.1) y.2
        rw [updR_at, updR_upd, rFl_step hy] at hst
        have hst1 : RB (wr.setCell ⟨(R k).g, y.1, none⟩ (.string y.2)) rb (.slice (some ⟨gd, 0, none⟩) 12 cap) 12 (updR R k (rFl (R k) (i + 1))) := hst.1
        have hst2 : RStep rb (.slice (some ⟨gd, 0, none⟩) 12 cap) 12 R w (updR R k (rFl (R k) (i + 1))) (wr.setCell ⟨(R k).g, y.1, none⟩ (.string y.2)) := HS.out.trans hst.2
        obtain ⟨yn, ys⟩ := y
        have hb5 := drew_below (wr.setCell ⟨(R k).g, yn, none⟩ (.string ys))
        have HN1 := hide (hst1.below hb5)
        have HN2 := hide (hst2.trans (RStep.of_below hb5))
        have cS' : wr.cell? ⟨(R k).g, yn, none⟩ = some (.string ((rFl (R k) i).ct.sec yn)) := cS
        have fS' : wr.frozen? ⟨(R k).g, yn, none⟩ = false := fS
        have hd1 : decide ((i : Int) < (L : Int)) = true := by simp; omega
        have hdi : (i : Int) < (L : Int) := by omega
        have hni : (0 : Int) ≤ (i : Int) := by omega
        have hyi : (yn : Int) < 112 := by have : yn < 112 := hyn; omega
        have hyj : (0 : Int) ≤ (yn : Int) := by omega
        generalize (R k).p = pp at *
        generalize (R k).g = gg at *
        clear hB hS hdk hvv hlc hgl hyn cS fS hst hst1 hst2 hb5 hy
        go_wp2_with fail
        go_still_tail 21, (by kernel_rfl)
        change wpList _ _ _ _ _ wr.drew
        go_wp2_with fail
        exact ⟨⟨i + 1, by omega, by go_num, HN1.out, HN2.out⟩, by simp [intOf]; omega⟩
      · have hd1 : decide ((i : Int) < (L : Int)) = false := by simp; omega
        have hf1 : wr.frozen? ⟨(R k).p, 1, none⟩ = false := hdk.fr 1
        have hst := HB.out.setNone hk
        rw [updR_at, updR_upd] at hst
        have HE : Hid (rWait (rFl (R k) i) (.slice none 0 0) [] = ⟨(R k).p, (R k).g, .slice none 0 0, ⟨(C k).lost, secW (C k).sec (C k).ws, []⟩⟩) := by
          show rWait (rFl (R k) i) (.slice none 0 0) [] = _
          unfold rWait rFl
          rw [← HCK.out]
          simp only [List.take_of_length_le (show (R k).ct.ws.length ≤ i by have := HL.out; omega)]
        have HN := hide hst
        rw [HE.out] at HN
        have HN1 : Hid (RB (wr.setCell ⟨(R k).p, 1, none⟩ (.slice none 0 0)) rb (.slice (some ⟨gd, 0, none⟩) 12 cap) 12 (updR R k ⟨(R k).p, (R k).g, .slice none 0 0, ⟨(C k).lost, secW (C k).sec (C k).ws, []⟩⟩)) := HN.out.1
        have HN2 : Hid (RStep rb (.slice (some ⟨gd, 0, none⟩) 12 cap) 12 R w (updR R k ⟨(R k).p, (R k).g, .slice none 0 0, ⟨(C k).lost, secW (C k).sec (C k).ws, []⟩⟩) (wr.setCell ⟨(R k).p, 1, none⟩ (.slice none 0 0))) := HS.out.trans HN.out.2
        have HCU : Hid (ContR (updR R k ⟨(R k).p, (R k).g, .slice none 0 0, ⟨(C k).lost, secW (C k).sec (C k).ws, []⟩⟩) (updC C k ⟨(C k).lost, secW (C k).sec (C k).ws, []⟩)) := HC.out.upd k _
        generalize (R k).p = pp at *
        generalize (R k).g = gg at *
        clear hB hS hdk hst HN HE
        go_wp2_with fail
        try go_ret
        exact ⟨rfl, _, HN1.out, HN2.out, HCU.out⟩
  · rw [if_neg hz]
    have HD : Hid (DidR rb v R w C w) := didR_same h hC (Below.refl _ _)
    clear h hC
    generalize eLiveC C d = E at *
    have hq : ((E : Int) != 0) = true := by simp; omega
    go_enter Try.func27, Try.ntmps27
    go_wp2_with fail
    refine HK.out.mono ?_
    rintro e w1 ⟨rfl, rfl⟩
    go_wp2_with fail
    try go_ret
    exact ⟨rfl, HD.out⟩
end Go.Proofs.Ytnpioaidbmllkaa
