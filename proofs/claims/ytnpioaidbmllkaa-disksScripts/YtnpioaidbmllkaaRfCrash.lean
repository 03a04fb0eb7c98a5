/- What the document's Crash answers. -/
import Derived.Test.YtnpioaidbmllkaaRfLive
namespace Go.Proofs.Ytnpioaidbmllkaa
open Go.RowKit
set_option linter.unusedVariables false
/-- the document's disks of which the first d went through a crash -/
def crR (kl tl : List Bool) (C : Nat → Ct) (R : Nat → Rk) (d : Nat) : Nat → Rk := fun e => if e < d then ⟨(R e).p, (R e).g, .slice none 0 0, ⟨(C e).lost, secC kl tl (C e).sec (plcC C e) (C e).ws, []⟩⟩ else R e
theorem crR_zero (kl tl : List Bool) (C : Nat → Ct) (R : Nat → Rk) : crR kl tl C R 0 = R := by funext e; unfold crR; rw [if_neg (by omega)]
theorem crR_at (kl tl : List Bool) (C : Nat → Ct) (R : Nat → Rk) (d : Nat) : crR kl tl C R d d = R d := by unfold crR; rw [if_neg (by omega)]
theorem crR_step (kl tl : List Bool) (C : Nat → Ct) (R : Nat → Rk) (d : Nat) : updR (crR kl tl C R d) d ⟨(R d).p, (R d).g, .slice none 0 0, ⟨(C d).lost, secC kl tl (C d).sec (plcC C d) (C d).ws, []⟩⟩ = crR kl tl C R (d + 1) := by
  funext e
  unfold updR crR
  by_cases h : e = d
  · subst h; rw [if_pos rfl, if_pos (by omega)]
  · rw [if_neg h]
    by_cases c : e < d
    · rw [if_pos c, if_pos (by omega)]
    · rw [if_neg c, if_neg (by omega)]
theorem crR_cont (kl tl : List Bool) (C : Nat → Ct) (R : Nat → Rk) : ContR (crR kl tl C R 12) (crC kl tl C) := fun e he => by unfold crR; rw [if_pos he]; rfl
/-- a disk of which the first i writes went through a crash -/
def rCr (kl tl : List Bool) (p : Nat) (x : Rk) (i : Nat) : Rk := ⟨x.p, x.g, x.wv, ⟨x.ct.lost, secC kl tl x.ct.sec p (x.ct.ws.take i), x.ct.ws⟩⟩
theorem rCr_zero (kl tl : List Bool) (p : Nat) (x : Rk) : rCr kl tl p x 0 = x := rfl
theorem rCr_step {kl tl : List Bool} {p : Nat} {x : Rk} {i : Nat} {y : Nat × ByteArray} (h : x.ct.ws[i]? = some y) : rCr kl tl p x (i + 1) = if at_ kl (p + i) then (if at_ tl (p + i) then rSec (rCr kl tl p x i) y.1 (halfS y.2) else rSec (rCr kl tl p x i) y.1 y.2) else rCr kl tl p x i := by
  have hi : i < x.ct.ws.length := (List.getElem?_eq_some_iff.1 h).1
  have e : x.ct.ws.take (i + 1) = x.ct.ws.take i ++ [y] := by rw [List.take_add_one, h]; rfl
  have hl : (x.ct.ws.take i).length = i := by rw [List.length_take]; omega
  unfold rCr rSec
  simp only [e, secC_snoc, hl]
  cases at_ kl (p + i)
  · rfl
  · cases at_ tl (p + i) <;> rfl
theorem rCr_all {kl tl : List Bool} {C : Nat → Ct} {R : Nat → Rk} {d i : Nat} (hC : (R d).ct = C d) (hi : (R d).ct.ws.length ≤ i) : rWait (rCr kl tl (plcC C d) (R d) i) (.slice none 0 0) [] = ⟨(R d).p, (R d).g, .slice none 0 0, ⟨(C d).lost, secC kl tl (C d).sec (plcC C d) (C d).ws, []⟩⟩ := by
  unfold rWait rCr
  simp only [List.take_of_length_le hi]
  rw [hC]
theorem bools_stepR {w wr : World} {rb : Nat} {v : Value} {R R' : Nat → Rk} {a : Option Addr} {l : List Bool} (h : BoolsAt w a l) (hf : l = [] ∨ ∀ x, a = some x → ¬ RFoot rb v 12 R x.block) (s : RStep rb v 12 R w R' wr) : BoolsAt wr a l := by
  rcases h with h | ⟨b, o, rfl, hlt, hc⟩
  · exact .inl h
  · rcases hf with hf | hf
    · exact .inl hf
    · exact .inr ⟨b, o, rfl, Nat.lt_of_lt_of_le hlt s.size, fun i q hq => (World.cell?_of_block (w := w) (a := ⟨b, o + i, none⟩) (s.block b hlt (hf _ rfl))).trans (hc i q hq)⟩
/-- three cells that a region reads -/
def B3 (pp bx : Nat) (v p q : Value) (w : World) : Prop := w.cell? ⟨pp, 0, none⟩ = some v ∧ w.cell? ⟨bx, 0, none⟩ = some p ∧ w.cell? ⟨bx, 1, none⟩ = some q
theorem B3.keep {pp bx : Nat} {v p q : Value} {w w' : World} (h : B3 pp bx v p q w) (hs : ∀ k, k = pp ∨ k = bx → w'.heap[k]? = w.heap[k]?) : B3 pp bx v p q w' :=
  ⟨(World.cell?_of_block (w := w) (a := ⟨pp, 0, none⟩) (hs _ (.inl rfl))).trans h.1, (World.cell?_of_block (w := w) (a := ⟨bx, 0, none⟩) (hs _ (.inr rfl))).trans h.2.1, (World.cell?_of_block (w := w) (a := ⟨bx, 1, none⟩) (hs _ (.inr rfl))).trans h.2.2⟩
set_option maxRecDepth 100000 in
set_option maxHeartbeats 4000000 in
theorem rCrash_any (rb : Nat) (v : Value) (R : Nat → Rk) (C : Nat → Ct) (w : World) (ka ta : Option Addr) (kn tn kc tc : Nat) (kl tl : List Bool) (h : RB w rb v 12 R) (hC : ContR R C) (hk : BoolsAt w ka kl) (ht : BoolsAt w ta tl) (hkl : kl.length = kn) (htl : tl.length = tn) (hkf : kl = [] ∨ ∀ a, ka = some a → ¬ RFoot rb v 12 R a.block) (htf : tl = [] ∨ ∀ a, ta = some a → ¬ RFoot rb v 12 R a.block) {N : Nat} (hN : Few N C) (hN6 : N < 800) :
    Calls Try.prog 28 #[.pointer (some ⟨rb, 0, none⟩), .slice ka kn kc, .slice ta tn tc] w fun e w' => e = .returned (.int .i64 0) ∧ DidR rb v R w (crC kl tl C) w' := by
  have H := hide h
  have HC := hide hC
  have HKA := hide hk
  have HTA := hide ht
  have HKL := hide hkl
  have HTL := hide htl
  have HKF := hide hkf
  have HTF := hide htf
  have HF := hide hN
  obtain ⟨gd, cap, hv, hc12, hcm, -, -, -⟩ := h.at (show 0 < 12 by decide)
  subst hv
  clear h hC hk ht hkl htl hkf htf hN
  go_enter Try.func28, Try.ntmps28
  go_wp2_with fail
  go_loopw [7, 8] (fun x y wr => ∃ d : Nat, d ≤ 12 ∧ x = .int .i64 (plcC C d : Nat) ∧ y = .int .i64 d ∧ RB wr rb (.slice (some ⟨gd, 0, none⟩) 12 cap) 12 (crR kl tl C R d) ∧ RStep rb (.slice (some ⟨gd, 0, none⟩) 12 cap) 12 R w (crR kl tl C R d) wr) (fun _ y _ => 12 - (intOf y).toNat)
  case atStart => exact ⟨0, by omega, rfl, rfl, by rw [crR_zero]; exact H.out, by rw [crR_zero]; exact RStep.refl _ _ _ _ _⟩
  case round =>
    obtain ⟨d, hd, rfl, rfl, hB, hS⟩ := hrel
    have HB0 := hide hB
    have HS0 := hide hS
    by_cases hlt : d < 12
    · obtain ⟨gd', cap', hve, -, -, cB, cP, -⟩ := hB.at hlt
      cases hve
      rw [crR_at] at cP
      have HCD := hide (HC.out d hlt)
      have hFd := HF.out d hlt
      have hpl := plcC_few HF.out (Nat.le_of_lt hlt)
      have hrow := (hB.dk d hlt).row
      rw [crR_at] at hrow
      obtain ⟨a9, c9, hv9⟩ := row_form hrow
      have HV9 := hide hv9
      have hLN : (R d).ct.ws.length ≤ N := by rw [HCD.out]; exact hFd.1
      have HTX : Hid (∀ x ∈ (R d).ct.ws, x.2.size ≤ 200) := by show ∀ x ∈ (R d).ct.ws, _; rw [HCD.out]; exact hFd.2
      have HPN : Hid (plcC C (d + 1) = plcC C d + (R d).ct.ws.length) := by show plcC C (d + 1) = _; rw [HCD.out]; rfl
      generalize hL : (R d).ct.ws.length = L at *
      have HL := hide hL
      have hd1 : decide ((d : Int) < 12) = true := by simp; omega
      have g2 : (d : Int) < 12 := by omega
      have g3 : (0 : Int) ≤ (d : Int) := by omega
      have hp1 : plcC C d ≤ 9600 := by have : d * N ≤ 12 * 800 := Nat.mul_le_mul (by omega) (by omega); omega
      have HI1 : Hid (RB wr rb (.slice (some ⟨gd, 0, none⟩) 12 cap) 12 (updR (crR kl tl C R d) d (rCr kl tl (plcC C d) (R d) 0))) := by rw [rCr_zero, ← crR_at kl tl C R d, updR_same]; exact HB0.out
      have HI2 : Hid (RStep rb (.slice (some ⟨gd, 0, none⟩) 12 cap) 12 R w (updR (crR kl tl C R d) d (rCr kl tl (plcC C d) (R d) 0)) wr) := by rw [rCr_zero, ← crR_at kl tl C R d, updR_same]; exact HS0.out
      clear hB hS hrow hv9 hL hFd hpl HB0 HS0
      go_wp2_with fail
      clear cB cP
      go_loopw [7, 10] (fun x y wr => ∃ i : Nat, i ≤ L ∧ x = .int .i64 ((plcC C d + i : Nat) : Int) ∧ y = .int .i64 i ∧ RB wr rb (.slice (some ⟨gd, 0, none⟩) 12 cap) 12 (updR (crR kl tl C R d) d (rCr kl tl (plcC C d) (R d) i)) ∧ RStep rb (.slice (some ⟨gd, 0, none⟩) 12 cap) 12 R w (updR (crR kl tl C R d) d (rCr kl tl (plcC C d) (R d) i)) wr) (fun _ y _ => L - (intOf y).toNat)
      case atStart => exact ⟨0, by omega, rfl, rfl, HI1.out, HI2.out⟩
      case round =>
        obtain ⟨i, hi, rfl, rfl, hB, hS⟩ := hrel
        have HB := hide hB
        have HS := hide hS
        have hdk := hB.dk d hlt
        rw [updR_at] at hdk
        have c0 : wr.cell? ⟨(R d).p, 0, none⟩ = some (.slice (some ⟨(R d).g, 0, none⟩) 112 112) := hdk.c0
        have c1 : wr.cell? ⟨(R d).p, 1, none⟩ = some (R d).wv := hdk.c1
        rw [HV9.out] at c1
        clear HI1 HI2
        by_cases hlti : i < L
        · obtain ⟨y, hy⟩ : ∃ y, (R d).ct.ws[i]? = some y := ⟨_, List.getElem?_eq_getElem (by have := HL.out; omega)⟩
          obtain ⟨g, cc, hvv, hlc, hcm2, hgl, hr1, hr2⟩ := rrow_at hdk.row (i := i) (x := y) hy
          have hvv' : (R d).wv = .slice (some ⟨g, 0, none⟩) (R d).ct.ws.length cc := hvv
          rw [HV9.out, HL.out] at hvv'
          cases hvv'
          have hyn := hdk.wsl y (List.mem_of_getElem? hy)
          have hys := HTX.out y (List.mem_of_getElem? hy)
          have cS := hdk.cs hyn
          have fS := hdk.fs y.1
          have HPS := hide (rCr_step (kl := kl) (tl := tl) (p := plcC C d) hy)
          obtain ⟨yn, ys⟩ := y
          have hbx : Below wr.heap.size wr (wr.alloc (.cells #[.int .i64 (yn : Int), .string ys] 69)) := (Below.refl _ _).alloc (Nat.le_refl _) _
          have HBX := hide hbx
          have HKW := hide (bools_keep (bools_stepR HKA.out HKF.out hS) hbx)
          have HTW := hide (bools_keep (bools_stepR HTA.out HTF.out hS) hbx)
          have hppl : (R d).p < wr.heap.size := lt_of_block hdk.blk
          have hggl : (R d).g < wr.heap.size := hdk.sec.lt
          have hpg : (R d).p ≠ (R d).g := hdk.d1
          have hst := fun s => ((hB.below hbx).below (drew_below _)).setSec hlt (n := yn) s
          have HWR : Hid (∀ s, RB ((wr.alloc (.cells #[.int .i64 (yn : Int), .string ys] 69)).drew.setCell ⟨(R d).g, yn, none⟩ (.string s)) rb (.slice (some ⟨gd, 0, none⟩) 12 cap) 12 (updR (crR kl tl C R d) d (rSec (rCr kl tl (plcC C d) (R d) i) yn s)) ∧ RStep rb (.slice (some ⟨gd, 0, none⟩) 12 cap) 12 R w (updR (crR kl tl C R d) d (rSec (rCr kl tl (plcC C d) (R d) i) yn s)) ((wr.alloc (.cells #[.int .i64 (yn : Int), .string ys] 69)).drew.setCell ⟨(R d).g, yn, none⟩ (.string s))) := fun s => by
            have h9 := hst s
            rw [updR_at, updR_upd] at h9
            exact ⟨h9.1, hS.trans ((RStep.of_below hbx).trans ((RStep.of_below (drew_below _)).trans h9.2))⟩
          have cS1 : (wr.alloc (.cells #[.int .i64 (yn : Int), .string ys] 69)).cell? ⟨(R d).g, yn, none⟩ = some (.string ((rCr kl tl (plcC C d) (R d) i).ct.sec yn)) := Lib.cell?_alloc_some _ cS
          have fS1 : (wr.alloc (.cells #[.int .i64 (yn : Int), .string ys] 69)).frozen? ⟨(R d).g, yn, none⟩ = false := (World.frozen?_of_block (w := wr) (a := ⟨(R d).g, yn, none⟩) (hbx.block _ hggl)).trans fS
          have c01 : (wr.alloc (.cells #[.int .i64 (yn : Int), .string ys] 69)).cell? ⟨(R d).p, 0, none⟩ = some (.slice (some ⟨(R d).g, 0, none⟩) 112 112) := Lib.cell?_alloc_some _ c0
          have cb0 : (wr.alloc (.cells #[.int .i64 (yn : Int), .string ys] 69)).cell? ⟨wr.heap.size, 0, none⟩ = some (.int .i64 (yn : Int)) := cell_of_block (c := #[.int .i64 (yn : Int), .string ys]) (heap_alloc_new _ _)
          have cb1 : (wr.alloc (.cells #[.int .i64 (yn : Int), .string ys] 69)).cell? ⟨wr.heap.size, 1, none⟩ = some (.string ys) := cell_of_block (c := #[.int .i64 (yn : Int), .string ys]) (heap_alloc_new _ _)
          have HCS1 := hide cS1
          have HFS1 := hide fS1
          have HC01 := hide c01
          have HCB0 := hide cb0
          have HCB1 := hide cb1
          have HST0 := hide ((RStep.of_below hbx : RStep rb (.slice (some ⟨gd, 0, none⟩) 12 cap) 12 (updR (crR kl tl C R d) d (rCr kl tl (plcC C d) (R d) i)) wr (updR (crR kl tl C R d) d (rCr kl tl (plcC C d) (R d) i)) (wr.alloc (.cells #[.int .i64 (yn : Int), .string ys] 69))))
          have hd2 : decide ((i : Int) < (L : Int)) = true := by simp; omega
          have hdi : (i : Int) < (L : Int) := by omega
          have hni : (0 : Int) ≤ (i : Int) := by omega
          have hyi : (yn : Int) < 112 := by have : yn < 112 := hyn; omega
          have hyj : (0 : Int) ≤ (yn : Int) := by omega
          have hL63 : L ≤ 9223372036854775807 := by omega
          have HHF := hide (show ys.size ≤ 1000000 by have : ys.size ≤ 200 := hys; omega)
          have HHH : Hid (∀ u : World, Calls Try.prog 46 #[.string ys] u fun e w' => e = .returned (.string (halfS ys)) ∧ u = w') := fun u => rHalf_any ys u HHF.out
          generalize (R d).p = pp at *
          generalize (R d).g = gg at *
          clear hB hS hdk hvv hlc hgl hyn cS fS hst hbx hy cS1 fS1 c01 cb0 cb1 hys
          generalize hat : plcC C d + i = at1 at *
          have HAE : Hid (((at1 : Nat) : Int) + 1 = ((plcC C d + (i + 1) : Nat) : Int)) := by show _ = _; omega
          have hat6 : at1 ≤ 20000 := by omega
          have HAT := hide hat
          clear hat
          go_wp2_with fail
          refine (rPlace_any ka kn kc at1 kl _ HKL.out HKW.out).mono ?_
          rintro e w1 ⟨rfl, rfl⟩
          cases hkk : at_ kl at1
          · have HNX : Hid (rCr kl tl (plcC C d) (R d) (i + 1) = rCr kl tl (plcC C d) (R d) i) := by show rCr _ _ _ _ _ = _; rw [HPS.out, hkk]; rfl
            go_wp2_with fail
            exact ⟨⟨i + 1, by omega, by rw [HAE.out], by go_num, by rw [HNX.out]; exact HB.out.below HBX.out, by rw [HNX.out]; exact HS.out.trans HST0.out⟩, by simp [intOf]; omega⟩
          · go_wp2_with fail
            refine (rPlace_any ta tn tc at1 tl _ HTL.out HTW.out).mono ?_
            rintro e w1 ⟨rfl, rfl⟩
            cases htt : at_ tl at1
            · have HNX : Hid (rCr kl tl (plcC C d) (R d) (i + 1) = rSec (rCr kl tl (plcC C d) (R d) i) yn ys) := by show rCr _ _ _ _ _ = _; rw [HPS.out, hkk, htt]; rfl
              have HWS := hide (HWR.out ys)
              rw [← HNX.out] at HWS
              have cS1 := HCS1.out
              have fS1 := HFS1.out
              have c01 := HC01.out
              have cb0 := HCB0.out
              have cb1 := HCB1.out
              clear c0 c1 hr1 hr2
              go_upto_region 13 with fail
              generalize wr.alloc (.cells #[.int .i64 (yn : Int), .string ys] 69) = W1 at *
              go_still_tail 9, (by kernel_rfl)
              change wpList _ _ _ _ _ W1.drew
              go_wp2_with fail
              exact ⟨⟨i + 1, by omega, by rw [HAE.out], by go_num, HWS.out.1, HWS.out.2⟩, by simp [intOf]; omega⟩
            · have HNX : Hid (rCr kl tl (plcC C d) (R d) (i + 1) = rSec (rCr kl tl (plcC C d) (R d) i) yn (halfS ys)) := by show rCr _ _ _ _ _ = _; rw [HPS.out, hkk, htt]; rfl
              have HWS := hide (HWR.out (halfS ys))
              rw [← HNX.out] at HWS
              have hS3 : B3 pp wr.heap.size (.slice (some ⟨gg, 0, none⟩) 112 112) (.int .i64 (yn : Int)) (.string ys) (wr.alloc (.cells #[.int .i64 (yn : Int), .string ys] 69)) := ⟨HC01.out, HCB0.out, HCB1.out⟩
              have hne : ∀ q, q = pp ∨ q = wr.heap.size → q ≠ gg := fun q hq => by rcases hq with e | e <;> omega
              have cS1 := HCS1.out
              have fS1 := HFS1.out
              clear c0 c1 hr1 hr2
              go_upto_region 12 with fail
              generalize wr.alloc (.cells #[.int .i64 (yn : Int), .string ys] 69) = W1 at *
              generalize wr.heap.size = bx at *
              generalize halfS ys = hh at *
              have HHA := hide (HHH.out : ∀ u : World, Calls Try.prog 46 #[.string ys] u fun e w' => e = .returned (.string hh) ∧ u = w')
              have HB5 : Hid (B3 pp bx (.slice (some ⟨gg, 0, none⟩) 112 112) (.int .i64 (yn : Int)) (.string ys) (W1.drew.setCell ⟨gg, yn, none⟩ (.string hh))) := (hS3 : B3 pp bx _ _ _ W1.drew).keep fun q hq => Below.heap_setCell _ _ _ _ (hne q hq)
              refine wp_region_noPanic ?_
              refine wp_region_held_drew (S := B3 pp bx (.slice (some ⟨gg, 0, none⟩) 112 112) (.int .i64 (yn : Int)) (.string ys)) (by kernel_rfl) hS3 (fun hHeld => ?_)
              refine wpAnyH_take (i := 0) (v := ?v1) rfl (by kernel_rfl) (by kernel_rfl) (by kernel_rfl) (fun _ _ _ h => h) (Or.inl ⟨by rfl, ?hy1⟩) hHeld ?rest1
              case hy1 => (intro w' hSw; obtain ⟨s1, s2, s3⟩ := hSw; go_simp; try with_reducible rfl)
              try simp [Act.put]
              refine wpAnyH_take (i := 1) (v := ?v2) rfl (by kernel_rfl) (by kernel_rfl) (by kernel_rfl) (fun _ _ _ h => h) (Or.inl ⟨by rfl, ?hy2⟩) hHeld ?rest2
              case hy2 => (intro w' hSw; obtain ⟨s1, s2, s3⟩ := hSw; go_simp; try with_reducible rfl)
              try simp [Act.put]
              refine wpAnyH_take (i := 2) (v := ?v3) rfl (by kernel_rfl) (by kernel_rfl) (by kernel_rfl) (fun _ _ _ h => h) (Or.inl ⟨by rfl, ?hy3⟩) hHeld ?rest3
              case hy3 => (intro w' hSw; obtain ⟨s1, s2, s3⟩ := hSw; go_simp; try with_reducible rfl)
              try simp [Act.put]
              refine wpAnyH_take (i := 3) (v := ?v4) rfl (by kernel_rfl) (by kernel_rfl) (by kernel_rfl) (fun _ _ _ h => h) (Or.inl ⟨by rfl, ?hy4⟩) hHeld ?rest4
              case hy4 => (intro w' hSw; obtain ⟨s1, s2, s3⟩ := hSw; go_simp; try with_reducible rfl)
              try simp [Act.put]
              refine wpAnyH_take (i := 4) (v := ?v5) rfl (by kernel_rfl) (by kernel_rfl) (by kernel_rfl) (fun _ _ _ h => h) (Or.inl ⟨by rfl, ?hy5⟩) hHeld ?rest5
              case hy5 => (intro w' hSw; obtain ⟨s1, s2, s3⟩ := hSw; go_simp; try with_reducible rfl)
              try simp [Act.put]
              refine wpAnyH_take (i := 5) (v := ?v6) rfl (by kernel_rfl) (by kernel_rfl) (by kernel_rfl) (fun _ _ _ h => h) (Or.inl ⟨by rfl, ?hy6⟩) hHeld ?rest6
              case hy6 => (intro w' hSw; obtain ⟨s1, s2, s3⟩ := hSw; go_simp; try with_reducible rfl)
              try simp [Act.put]
              refine wpAnyH_take (i := 6) (v := ?v7) rfl (by kernel_rfl) (by kernel_rfl) (by kernel_rfl) (fun _ _ _ h => h) (Or.inl ⟨by rfl, ?hy7⟩) hHeld ?rest7
              case hy7 => (intro w' hSw; obtain ⟨s1, s2, s3⟩ := hSw; go_simp; try with_reducible rfl)
              try simp [Act.put]
              refine wpAnyH_take (i := 7) (v := ?v8) rfl (by kernel_rfl) (by kernel_rfl) (by kernel_rfl) (fun _ _ _ h => h) (Or.inl ⟨by rfl, ?hy8⟩) hHeld ?rest8
              case hy8 => (intro w' hSw; obtain ⟨s1, s2, s3⟩ := hSw; go_simp; try with_reducible rfl)
              try simp [Act.put]
              refine wpAnyH_ready (rs := [8]) (by kernel_rfl) (by simp) ?_
              refine AllReadyH.cons rfl (fun K hK => ?_) AllReadyH.nil
              go_simp
              refine (HHA.out _).mono ?_
              rintro e w2 ⟨rfl, rfl⟩
              go_simp
              refine hK.out _ _ hS3 (fun hHeld => ?_)
              clear hK K
              try simp [Act.put]
              refine wpAnyH_take (i := 9) (v := ?v9) rfl (by kernel_rfl) (by kernel_rfl) (by kernel_rfl) (fun _ _ _ h => h) (Or.inl ⟨by rfl, ?hy9⟩) hHeld ?rest9
              case hy9 => (intro w' hSw; obtain ⟨s1, s2, s3⟩ := hSw; go_simp; try with_reducible rfl)
              try simp [Act.put]
              refine wpAnyH_ready (rs := [10]) (by kernel_rfl) (by simp) ?_
              refine AllReadyH.cons rfl (fun K hK => ?_) AllReadyH.nil
              go_simp
              refine hK.out _ _ HB5.out (fun hHeld => ?_)
              clear hK K
              try simp [Act.put]
              refine wpAnyH_done (by kernel_rfl) (NoPanic.normal ?_) _
              clear hHeld hS3 cS1 fS1
              go_wp2_with fail
              exact ⟨⟨i + 1, by omega, by rw [HAE.out], by go_num, HWS.out.1, HWS.out.2⟩, by simp [intOf]; omega⟩
        · have hd2 : decide ((i : Int) < (L : Int)) = false := by simp; omega
          have hf1 : wr.frozen? ⟨(R d).p, 1, none⟩ = false := hdk.fr 1
          have hst := HB.out.setNone hlt
          rw [updR_at, updR_upd, rCr_all HCD.out (by have := HL.out; omega), crR_step] at hst
          have HN1 : Hid (RB (wr.setCell ⟨(R d).p, 1, none⟩ (.slice none 0 0)) rb (.slice (some ⟨gd, 0, none⟩) 12 cap) 12 (crR kl tl C R (d + 1))) := hst.1
          have HN2 : Hid (RStep rb (.slice (some ⟨gd, 0, none⟩) 12 cap) 12 R w (crR kl tl C R (d + 1)) (wr.setCell ⟨(R d).p, 1, none⟩ (.slice none 0 0))) := HS.out.trans hst.2
          have HIL : Hid (plcC C d + i = plcC C (d + 1)) := by show plcC C d + i = _; rw [HPN.out]; omega
          generalize (R d).p = pp at *
          generalize (R d).g = gg at *
          clear hB hS hdk hst
          rw [HIL.out]
          go_wp2_with fail
          exact ⟨⟨d + 1, by omega, rfl, by go_num, HN1.out, HN2.out⟩, by simp [intOf]; omega⟩
    · have hd1 : decide ((d : Int) < 12) = false := by simp; omega
      have hd12 : d = 12 := by omega
      subst hd12
      clear hB hS
      go_wp2_with fail
      try go_ret
      exact ⟨rfl, _, HB0.out, HS0.out, crR_cont kl tl C R⟩
end Go.Proofs.Ytnpioaidbmllkaa
