/- What waits is done in a crash: settle, by the methods that next tells. -/
import Derived.Test.YtnpioaidbmllkaaDkCrash
namespace Go.Proofs.Ytnpioaidbmllkaa
open Go.RowKit
theorem wayF_tt : wayF true true = 51 := rfl
theorem wayF_tf : wayF true false = 38 := rfl
theorem wayF_f (t : Bool) : wayF false t = 50 := rfl
/-- the state in the midst of a disk's writes -/
structure Mid (w wr : World) (b d : Nat) (D : Nat → Dk) (pb kb tb q i : Nat) (ka ta : Option Addr) (kn tn kc tc : Nat) (kl tl : List Bool) : Prop where
  bk : Bk wr b (upd D d (dkCr kl tl q (D d) i))
  step : StepP pb b D w (upd D d (dkCr kl tl q (D d) i)) wr
  cr : CrAt wr pb kb tb (((q + i : Nat) : Int) - 1) ka ta kn tn kc tc kl tl
  ext : ∀ k, Ext pb kb tb ka ta kl tl k → ¬ Foot b D k ∧ k < w.heap.size
/-- behind the box of a write and next -/
theorem Mid.next {w wr : World} {b d : Nat} {D : Nat → Dk} {pb kb tb q i : Nat} {ka ta : Option Addr} {kn tn kc tc : Nat} {kl tl : List Bool} (h : Mid w wr b d D pb kb tb q i ka ta kn tn kc tc kl tl) (o : Obj) (m : Nat) :
    Bk (((wr.alloc o).setCell ⟨pb, 0, none⟩ (.int .i64 ((q + i : Nat) : Int))).drewN m) b (upd D d (dkCr kl tl q (D d) i)) ∧ StepP pb b D w (upd D d (dkCr kl tl q (D d) i)) (((wr.alloc o).setCell ⟨pb, 0, none⟩ (.int .i64 ((q + i : Nat) : Int))).drewN m) ∧ CrAt (((wr.alloc o).setCell ⟨pb, 0, none⟩ (.int .i64 ((q + i : Nat) : Int))).drewN m) pb kb tb ((q + i : Nat) : Int) ka ta kn tn kc tc kl tl ∧ CrAt (wr.alloc o) pb kb tb (((q + i : Nat) : Int) - 1) ka ta kn tn kc tc kl tl := by
  have hb : Below wr.heap.size wr (wr.alloc o) := (Below.refl _ _).alloc (Nat.le_refl _) _
  have hc : CrAt (wr.alloc o) pb kb tb (((q + i : Nat) : Int) - 1) ka ta kn tn kc tc kl tl := h.cr.ext hb.size fun k hk => hb.block k (Nat.lt_of_lt_of_le (h.ext k hk).2 h.step.size)
  have hf : ¬ Foot b (upd D d (dkCr kl tl q (D d) i)) pb := fun hx => (h.ext pb (.inl rfl)).1 ((foot_upd (b := b) (d := d) (D := D) (x := dkCr kl tl q (D d) i) rfl pb).1 hx)
  have hk1 : Bk (wr.alloc o) b (upd D d (dkCr kl tl q (D d) i)) := h.bk.below hb
  refine ⟨hk1.keep fun k hk => Below.heap_setCell _ _ _ _ (fun e => hf (by have e' : k = pb := e; rw [← e']; exact hk)), h.step.trans ((StepP.of (Step.of_below hb)).trans (StepP.set _ _)), ?_, hc⟩
  exact (hc.set ((q + i : Nat) : Int)).ext (Nat.le_refl _) (fun _ _ => rfl)
theorem Mid.done {w wr w2 w3 : World} {b d : Nat} {D : Nat → Dk} {pb kb tb q i : Nat} {ka ta : Option Addr} {kn tn kc tc : Nat} {kl tl : List Bool} (h : Mid w wr b d D pb kb tb q i ka ta kn tn kc tc kl tl) (hs : StepP pb b D w (upd D d (dkCr kl tl q (D d) i)) w2) (hc : CrAt w2 pb kb tb ((q + i : Nat) : Int) ka ta kn tn kc tc kl tl) (hB : Bk w3 b (upd D d (dkCr kl tl q (D d) (i + 1)))) (hS : Step b (upd D d (dkCr kl tl q (D d) i)) w2 (upd D d (dkCr kl tl q (D d) (i + 1))) w3) : Mid w w3 b d D pb kb tb q (i + 1) ka ta kn tn kc tc kl tl :=
  ⟨hB, hs.trans (StepP.of hS), by
    rw [show ((q + (i + 1) : Nat) : Int) - 1 = ((q + i : Nat) : Int) by omega]
    exact hc.ext hS.size fun k hk => hS.block k (Nat.lt_of_lt_of_le (h.ext k hk).2 hs.size) fun hf => (h.ext k hk).1 ((foot_upd (b := b) (d := d) (D := D) (x := dkCr kl tl q (D d) i) rfl k).1 hf), h.ext⟩
theorem Mid.wv {w wr : World} {b d : Nat} {D : Nat → Dk} {pb kb tb q i : Nat} {ka ta : Option Addr} {kn tn kc tc : Nat} {kl tl : List Bool} (h : Mid w wr b d D pb kb tb q i ka ta kn tn kc tc kl tl) (hd : d < 12) {x : Nat × ByteArray} (hx : (D d).ws[i]? = some x) : ∃ g c, (D d).wv = .slice (some ⟨g, 0, none⟩) (D d).ws.length c ∧ (D d).ws.length ≤ c ∧ c ≤ 9223372036854775807 ∧ wr.cell? ⟨g, i * 2, none⟩ = some (.int .i64 (x.1 : Int)) ∧ wr.cell? ⟨g, i * 2 + 1, none⟩ = some (.string x.2) ∧ x.1 < 112 := by
  have hx' : (upd D d (dkCr kl tl q (D d) i) d).ws[i]? = some x := by rw [upd_at]; exact hx
  obtain ⟨g, cc, hwv, hlc, hcm, hgl, hgb, hr1, hr2⟩ := wait_row h.bk hd hx'
  have hn : x.1 < 112 := h.bk.secs d hd x (List.mem_of_getElem? hx')
  rw [upd_at] at hwv hlc
  exact ⟨g, cc, hwv, hlc, hcm, hr1, hr2, hn⟩
theorem box_cell {wr : World} {pb : Nat} (hpb : pb < wr.heap.size) (cs : Array Value) (t : TypeId) (v : Value) (m : Nat) {j : Nat} {x : Value} (hj : cs[j]? = some x) : (((wr.alloc (.cells cs t)).setCell ⟨pb, 0, none⟩ v).drewN m).cell? ⟨wr.heap.size, j, none⟩ = some x := by
  show ((wr.alloc (.cells cs t)).setCell ⟨pb, 0, none⟩ v).cell? _ = _
  rw [World.cell?_setCell_other _ _ _ _ (by simp <;> omega), cell_of_block (heap_alloc_new _ _)]
  exact hj
set_option maxRecDepth 100000 in
set_option maxHeartbeats 4000000 in
theorem settle_crash (b d : Nat) (D : Nat → Dk) (w : World) (pb kb tb q : Nat) (ka ta : Option Addr) (kn tn kc tc : Nat) (kl tl : List Bool) (h : Bk w b D) (hd : d < 12) (hc : CrAt w pb kb tb ((q : Int) - 1) ka ta kn tn kc tc kl tl) (hE : ∀ k, Ext pb kb tb ka ta kl tl k → ¬ Foot b D k ∧ k < w.heap.size) (hq : q + (D d).ws.length < 100000) (hsz : ∀ x ∈ (D d).ws, x.2.size ≤ 1000000) :
    Calls Try.prog 36 #[.pointer (some ⟨b, d * 114, none⟩), .func (.func 40) #[] #[.pointer (some ⟨pb, 0, none⟩), .pointer (some ⟨kb, 0, none⟩), .pointer (some ⟨tb, 0, none⟩)]] w fun e w' => e = .returned (.tuple #[]) ∧ Bk w' b (upd D d ⟨(D d).lost, secC kl tl (D d).sec q (D d).ws, .slice none 0 0, []⟩) ∧ StepP pb b D w (upd D d ⟨(D d).lost, secC kl tl (D d).sec q (D d).ws, .slice none 0 0, []⟩) w' ∧ CrAt w' pb kb tb (((q + (D d).ws.length : Nat) : Int) - 1) ka ta kn tn kc tc kl tl := by
  have hw := h.wait hd
  obtain ⟨a, c, hv⟩ := row_form (h.rows d hd)
  rw [hv] at hw
  have HV := hide hv
  have HM : Hid (Mid w w b d D pb kb tb q 0 ka ta kn tn kc tc kl tl) := ⟨by rw [dkCr_zero, upd_same]; exact h, by rw [dkCr_zero, upd_same]; exact StepP.refl _ _ _ _, hc, hE⟩
  have HSZ := hide hsz
  clear h hv hc hE hsz
  generalize hL : (D d).ws.length = L at *
  have HL := hide hL
  clear hL
  go_enter Try.func36, Try.ntmps36
  go_wp2_with fail
  go_loopw [12] (fun y wr => ∃ i : Nat, i ≤ L ∧ y = .int .i64 i ∧ Mid w wr b d D pb kb tb q i ka ta kn tn kc tc kl tl) (fun y _ => L - (intOf y).toNat)
  case atStart => exact ⟨0, by omega, rfl, HM.out⟩
  case round =>
    obtain ⟨i, hi, rfl, hM⟩ := hrel
    clear hw HM
    have HM := hide hM
    clear hM
    by_cases hlt : i < L
    · obtain ⟨x, hx⟩ : ∃ x, (D d).ws[i]? = some x := ⟨_, List.getElem?_eq_getElem (by have := HL.out; omega)⟩
      obtain ⟨g, cc, hwv, hlc, hcm, hr1, hr2, hn⟩ := HM.out.wv hd hx
      have hss := HSZ.out x (List.mem_of_getElem? hx)
      rw [HV.out, HL.out] at hwv
      have hac : a = some ⟨g, 0, none⟩ ∧ c = cc := by cases hwv; exact ⟨rfl, rfl⟩
      obtain ⟨rfl, rfl⟩ := hac
      have HX := hide (dkCr_step (kl := kl) (tl := tl) (p := q) hx)
      have hd1 : decide ((i : Int) < (L : Int)) = true := by simp; omega
      have hdi : (i : Int) < (L : Int) := by omega
      have hpb : pb < wr.heap.size := Nat.lt_of_lt_of_le (HM.out.ext pb (.inl rfl)).2 HM.out.step.size
      have hL63 : L ≤ 100000 := by omega
      obtain ⟨xn, xs⟩ := x
      clear hx hwv hlc
      have HNX := fun m => hide (HM.out.next (.cells #[.int .i64 (xn : Int), .string xs] 72) m)
      have HC1 := hide ((HM.out.next (.cells #[.int .i64 (xn : Int), .string xs] 72) 0).2.2.2)
      have b0 := fun m => box_cell hpb #[.int .i64 (xn : Int), .string xs] 72 (.int .i64 ((q + i : Nat) : Int)) m (j := 0) (x := .int .i64 (xn : Int)) rfl
      have b1 := fun m => box_cell hpb #[.int .i64 (xn : Int), .string xs] 72 (.int .i64 ((q + i : Nat) : Int)) m (j := 1) (x := .string xs) rfl
      have HB0 := hide b0
      have HB1 := hide b1
      have HNX2 := hide HNX
      clear b0 b1 HNX
      go_wp2_with fail
      refine (next_any _ pb kb tb (q + i) ka ta kn tn kc tc kl tl HC1.out (by omega)).mono ?_
      rintro e w1 ⟨rfl, hw1⟩
      have HE : Hid (∃ m, w1 = ((wr.alloc (.cells #[.int .i64 (xn : Int), .string xs] 72)).setCell ⟨pb, 0, none⟩ (.int .i64 ((q + i : Nat) : Int))).drewN m) := hw1
      clear hw1
      obtain ⟨m, hm⟩ := HE.out
      have c0 := HB0.out m
      have c1 := HB1.out m
      have N1 := HNX2.out m
      rw [← hm] at c0 c1 N1
      have HN1 := hide N1.out
      clear N1 hm HE HB0 HB1 HNX2 HC1 hr1 hr2
      cases hK : at_ kl (q + i)
      · rw [hK] at HX
        rw [wayF_f]
        have HXX : Hid (dkCr kl tl q (D d) (i + 1) = dkCr kl tl q (D d) i) := HX.out
        clear HX hK
        go_wp2_with fail
        refine (not_any _ _ _ _).mono ?_
        rintro e w2 ⟨rfl, hb2⟩
        have HMN : Hid (Mid w w2 b d D pb kb tb q (i + 1) ka ta kn tn kc tc kl tl) := HM.out.done HN1.out.2.1 HN1.out.2.2.1 (by rw [HXX.out]; exact HN1.out.1.below hb2) (by rw [HXX.out]; exact Step.of_below hb2)
        clear hb2 c0 c1
        go_wp2_with fail
        exact ⟨⟨i + 1, by omega, by go_num, HMN.out⟩, by simp [intOf]; omega⟩
      · cases hT : at_ tl (q + i)
        · rw [hK, hT] at HX
          rw [wayF_tf]
          have HXX : Hid (dkCr kl tl q (D d) (i + 1) = putS (dkCr kl tl q (D d) i) xn xs) := HX.out
          clear HX hK hT
          go_wp2_with fail
          refine (whole_any b d xn xs _ w1 HN1.out.1 hd hn).mono ?_
          rw [upd_at, upd_upd, ← HXX.out]
          rintro e w2 ⟨rfl, hB2, hS2⟩
          have HMN : Hid (Mid w w2 b d D pb kb tb q (i + 1) ka ta kn tn kc tc kl tl) := HM.out.done HN1.out.2.1 HN1.out.2.2.1 hB2 hS2
          clear hB2 hS2 c0 c1
          go_wp2_with fail
          exact ⟨⟨i + 1, by omega, by go_num, HMN.out⟩, by simp [intOf]; omega⟩
        · rw [hK, hT] at HX
          rw [wayF_tt]
          have HXX : Hid (dkCr kl tl q (D d) (i + 1) = putS (dkCr kl tl q (D d) i) xn (halfS xs)) := HX.out
          clear HX hK hT
          go_wp2_with fail
          refine (half_any b d xn xs _ w1 HN1.out.1 hd hn hss).mono ?_
          rw [upd_at, upd_upd, ← HXX.out]
          rintro e w2 ⟨rfl, hB2, hS2⟩
          have HMN : Hid (Mid w w2 b d D pb kb tb q (i + 1) ka ta kn tn kc tc kl tl) := HM.out.done HN1.out.2.1 HN1.out.2.2.1 hB2 hS2
          clear hB2 hS2 c0 c1
          go_wp2_with fail
          exact ⟨⟨i + 1, by omega, by go_num, HMN.out⟩, by simp [intOf]; omega⟩
    · have hd1 : decide ((i : Int) < (L : Int)) = false := by simp; omega
      have HN := hide (HM.out.bk.setNone hd)
      have hc2 := HM.out.bk.wait hd
      have hf2 := HM.out.bk.free (d * 114 + 113)
      have HI : Hid (i = L) := by show i = L; omega
      have HF : Hid (upd (upd D d (dkCr kl tl q (D d) i)) d ⟨(upd D d (dkCr kl tl q (D d) i) d).lost, (upd D d (dkCr kl tl q (D d) i) d).sec, .slice none 0 0, []⟩ = upd D d ⟨(D d).lost, secC kl tl (D d).sec q (D d).ws, .slice none 0 0, []⟩) := by
        show _ = _
        rw [upd_upd, upd_at]
        show upd D d ⟨(D d).lost, secC kl tl (D d).sec q ((D d).ws.take i), .slice none 0 0, []⟩ = _
        rw [List.take_of_length_le (by have := HL.out; omega)]
      rw [HF.out] at HN
      have HC : Hid (CrAt (wr.setCell ⟨b, d * 114 + 113, none⟩ (.slice none 0 0)) pb kb tb (((q + L : Nat) : Int) - 1) ka ta kn tn kc tc kl tl) := by
        rw [← HI.out]
        exact HM.out.cr.ext HN.out.2.size fun k hk => HN.out.2.block k (Nat.lt_of_lt_of_le (HM.out.ext k hk).2 HM.out.step.size) fun hf => (HM.out.ext k hk).1 ((foot_upd (b := b) (d := d) (D := D) (x := dkCr kl tl q (D d) i) rfl k).1 hf)
      have HST := hide (HM.out.step.trans (StepP.of HN.out.2))
      go_wp2_with fail
      go_end0
      exact ⟨rfl, HN.out.1, HST.out, HC.out⟩
end Go.Proofs.Ytnpioaidbmllkaa
