/- What Crash answers. -/
import Derived.Test.YtnpioaidbmllkaaDkSettleC
namespace Go.Proofs.Ytnpioaidbmllkaa
open Go.RowKit
/-- how many writes wait ahead of a disk's -/
def plc (D : Nat → Dk) : Nat → Nat
  | 0 => 0
  | e + 1 => plc D e + (D e).ws.length
/-- the disks of which the first i went through a crash -/
def crD (kl tl : List Bool) (D : Nat → Dk) (i : Nat) : Nat → Dk := fun e => if e < i then ⟨(D e).lost, secC kl tl (D e).sec (plc D e) (D e).ws, .slice none 0 0, []⟩ else D e
theorem crD_zero (kl tl : List Bool) (D : Nat → Dk) : crD kl tl D 0 = D := by funext e; unfold crD; rw [if_neg (by omega)]
theorem crD_at (kl tl : List Bool) (D : Nat → Dk) (i : Nat) : crD kl tl D i i = D i := by unfold crD; rw [if_neg (by omega)]
theorem crD_step (kl tl : List Bool) (D : Nat → Dk) (i : Nat) : upd (crD kl tl D i) i ⟨(D i).lost, secC kl tl (D i).sec (plc D i) (D i).ws, .slice none 0 0, []⟩ = crD kl tl D (i + 1) := by
  funext e
  unfold upd crD
  by_cases h : e = i
  · subst h; rw [if_pos rfl, if_pos (by omega)]
  · rw [if_neg h]
    by_cases c : e < i
    · rw [if_pos c, if_pos (by omega)]
    · rw [if_neg c, if_neg (by omega)]
theorem plc_le (D : Nat → Dk) {i j : Nat} (h : i ≤ j) : plc D i ≤ plc D j := by
  induction j with
  | zero => rw [show i = 0 by omega]; exact Nat.le_refl _
  | succ j ih =>
    by_cases c : i = j + 1
    · rw [c]; exact Nat.le_refl _
    · exact Nat.le_trans (ih (by omega)) (Nat.le_add_right _ _)
structure CrMid (W wr : World) (b : Nat) (D : Nat → Dk) (pb kb tb i : Nat) (ka ta : Option Addr) (kn tn kc tc : Nat) (kl tl : List Bool) : Prop where
  bk : Bk wr b (crD kl tl D i)
  step : StepP pb b D W (crD kl tl D i) wr
  cr : CrAt wr pb kb tb (((plc D i : Nat) : Int) - 1) ka ta kn tn kc tc kl tl
theorem StepP.plain {w W w' : World} {pb b : Nat} {D D' : Nat → Dk} (hb : Below w.heap.size w W) (h : StepP pb b D W D' w') (hp : w.heap.size ≤ pb) : Step b D w D' w' :=
  ⟨h.os.trans hb.os, h.tape.trans hb.tape, h.output.trans hb.output, Nat.le_trans hb.size h.size, fun k hk hn => (h.block k (Nat.lt_of_lt_of_le hk hb.size) (by omega) hn).trans (hb.block k hk), fun k hk => (h.foot k hk).imp id fun hx => Nat.le_trans hb.size hx⟩
/-- the world in which a crash's loop begins -/
def crW (w : World) (ka ta : Option Addr) (kn tn kc tc : Nat) : World := ((w.alloc (.cells #[.slice ka kn kc] 28)).alloc (.cells #[.slice ta tn tc] 28)).alloc (.cells #[.int .i64 (-1)] 3)
theorem crW_below (w : World) (ka ta : Option Addr) (kn tn kc tc : Nat) : Below w.heap.size w (crW w ka ta kn tn kc tc) :=
  (((Below.refl _ _).alloc (Nat.le_refl _) _).alloc (by rw [World.size_alloc]; omega) _).alloc (by rw [World.size_alloc, World.size_alloc]; omega) _
theorem crW_size (w : World) (ka ta : Option Addr) (kn tn kc tc : Nat) : (crW w ka ta kn tn kc tc).heap.size = w.heap.size + 3 := by unfold crW; rw [World.size_alloc, World.size_alloc, World.size_alloc]
theorem crW_place (w : World) (ka ta : Option Addr) (kn tn kc tc : Nat) : (crW w ka ta kn tn kc tc).heap[w.heap.size + 2]? = some (.cells #[.int .i64 (-1)] 3 (0, 0)) := by
  have h := heap_alloc_new ((w.alloc (.cells #[.slice ka kn kc] 28)).alloc (.cells #[.slice ta tn tc] 28)) (.cells #[.int .i64 (-1)] 3)
  rw [World.size_alloc, World.size_alloc] at h
  exact h
theorem crW_torn (w : World) (ka ta : Option Addr) (kn tn kc tc : Nat) : (crW w ka ta kn tn kc tc).heap[w.heap.size + 1]? = some (.cells #[.slice ta tn tc] 28 (0, 0)) := by
  have h := heap_alloc_new (w.alloc (.cells #[.slice ka kn kc] 28)) (.cells #[.slice ta tn tc] 28)
  rw [World.size_alloc] at h
  unfold crW
  rw [Below.heap_alloc _ _ _ (by rw [World.size_alloc, World.size_alloc]; omega)]
  exact h
theorem crW_keep (w : World) (ka ta : Option Addr) (kn tn kc tc : Nat) : (crW w ka ta kn tn kc tc).heap[w.heap.size]? = some (.cells #[.slice ka kn kc] 28 (0, 0)) := by
  unfold crW
  rw [Below.heap_alloc _ _ _ (by rw [World.size_alloc, World.size_alloc]; omega), Below.heap_alloc _ _ _ (by rw [World.size_alloc]; omega)]
  exact heap_alloc_new _ _
theorem bools_lt {w : World} {a : Option Addr} {l : List Bool} (h : BoolsAt w a l) : l = [] ∨ ∀ x, a = some x → x.block < w.heap.size := by
  rcases h with h | ⟨b, o, rfl, hlt, _⟩
  · exact .inl h
  · exact .inr fun x hx => by cases hx; exact hlt
theorem crAt_first {w : World} {ka ta : Option Addr} {kn tn kc tc : Nat} {kl tl : List Bool} (hk : BoolsAt w ka kl) (ht : BoolsAt w ta tl) (hkl : kl.length = kn) (htl : tl.length = tn) (hk6 : kn ≤ 9223372036854775807) (ht6 : tn ≤ 9223372036854775807) : CrAt (crW w ka ta kn tn kc tc) (w.heap.size + 2) w.heap.size (w.heap.size + 1) (((0 : Nat) : Int) - 1) ka ta kn tn kc tc kl tl :=
  ⟨cell_of_block (crW_place w ka ta kn tn kc tc), free_of_block (crW_place w ka ta kn tn kc tc), cell_of_block (crW_keep w ka ta kn tn kc tc), cell_of_block (crW_torn w ka ta kn tn kc tc),
   hk.keep ((bools_lt hk).imp id fun h x hx => (crW_below w ka ta kn tn kc tc).block _ (h x hx)) (crW_below w ka ta kn tn kc tc).size, ht.keep ((bools_lt ht).imp id fun h x hx => (crW_below w ka ta kn tn kc tc).block _ (h x hx)) (crW_below w ka ta kn tn kc tc).size, hkl, htl, hk6, ht6, by omega, by omega,
   (bools_lt hk).imp id fun h x hx => by have := h x hx; omega, (bools_lt ht).imp id fun h x hx => by have := h x hx; omega⟩
set_option maxRecDepth 100000 in
set_option maxHeartbeats 2000000 in
theorem crash_nil (ka ta : Option Addr) (kn tn kc tc : Nat) (w : World) : Calls Try.prog 22 #[.pointer none, .slice ka kn kc, .slice ta tn tc] w fun e w' => e = .returned (.int .i64 1) ∧ Below w.heap.size w w' := by
  go_enter Try.func22, Try.ntmps22
  go_wp2_with fail
  go_ret
  exact ⟨rfl, ((Below.refl _ _).alloc (Nat.le_refl _) _).alloc (by rw [World.size_alloc]; omega) _⟩
set_option maxRecDepth 100000 in
set_option maxHeartbeats 4000000 in
theorem crash_any (b : Nat) (D : Nat → Dk) (w : World) (ka ta : Option Addr) (kn tn kc tc : Nat) (kl tl : List Bool) (h : Bk w b D) (hk : BoolsAt w ka kl) (ht : BoolsAt w ta tl) (hkl : kl.length = kn) (htl : tl.length = tn) (hk6 : kn ≤ 9223372036854775807) (ht6 : tn ≤ 9223372036854775807) (hkf : kl = [] ∨ ∀ a, ka = some a → ¬ Foot b D a.block) (htf : tl = [] ∨ ∀ a, ta = some a → ¬ Foot b D a.block) (hp : plc D 12 < 10000) (hsz : ∀ d, d < 12 → ∀ x ∈ (D d).ws, x.2.size ≤ 1000000) :
    Calls Try.prog 22 #[.pointer (some ⟨b, 0, none⟩), .slice ka kn kc, .slice ta tn tc] w fun e w' => e = .returned (.int .i64 0) ∧ Bk w' b (crD kl tl D 12) ∧ Step b D w (crD kl tl D 12) w' := by
  have hbl := h.mem.lt
  have HM : Hid (CrMid (crW w ka ta kn tn kc tc) (crW w ka ta kn tn kc tc) b D (w.heap.size + 2) w.heap.size (w.heap.size + 1) 0 ka ta kn tn kc tc kl tl) :=
    ⟨by rw [crD_zero]; exact h.below (crW_below _ _ _ _ _ _ _), by rw [crD_zero]; exact StepP.refl _ _ _ _, crAt_first hk ht hkl htl hk6 ht6⟩
  have HE : Hid (∀ k, Ext (w.heap.size + 2) w.heap.size (w.heap.size + 1) ka ta kl tl k → ¬ Foot b D k ∧ k < (crW w ka ta kn tn kc tc).heap.size) := fun k hx => by
    rw [crW_size]
    rcases hx with rfl | rfl | rfl | ⟨hn, a, ha, rfl⟩ | ⟨hn, a, ha, rfl⟩
    · exact ⟨fun hf => by have := h.lt hf; omega, by omega⟩
    · exact ⟨fun hf => by have := h.lt hf; omega, by omega⟩
    · exact ⟨fun hf => by have := h.lt hf; omega, by omega⟩
    · refine ⟨(hkf.resolve_left hn) a ha, ?_⟩
      have := (bools_lt hk).resolve_left hn a ha
      omega
    · refine ⟨(htf.resolve_left hn) a ha, ?_⟩
      have := (bools_lt ht).resolve_left hn a ha
      omega
  have HBW := hide (crW_below w ka ta kn tn kc tc)
  have HSZ := hide hsz
  have HEQ : Hid (crW w ka ta kn tn kc tc = ((w.alloc (.cells #[.slice ka kn kc] 28)).alloc (.cells #[.slice ta tn tc] 28)).alloc (.cells #[.int .i64 (-1)] 3)) := rfl
  clear h hk ht hkl htl hk6 ht6 hkf htf hsz
  go_enter Try.func22, Try.ntmps22
  go_wp2_with fail
  rw [← HEQ.out]
  generalize crW w ka ta kn tn kc tc = W at *
  clear HEQ
  go_loopw [13] (fun y wr => ∃ i : Nat, i ≤ 12 ∧ y = .int .i64 i ∧ CrMid W wr b D (w.heap.size + 2) w.heap.size (w.heap.size + 1) i ka ta kn tn kc tc kl tl) (fun y _ => 12 - (intOf y).toNat)
  case atStart => exact ⟨0, by omega, rfl, HM.out⟩
  case round =>
    obtain ⟨i, hi, rfl, hM⟩ := hrel
    clear HM
    have HM := hide hM
    clear hM
    by_cases hlt : i < 12
    · have hd1 : decide ((i : Int) < 12) = true := by simp; omega
      have hdi : (i : Int) < 12 := by omega
      have hni : (0 : Int) ≤ (i : Int) := by omega
      have HP : Hid (plc D i + (D i).ws.length ≤ plc D 12) := plc_le D (i := i + 1) (j := 12) (by omega)
      have HS := hide (settle_crash b i (crD kl tl D i) wr (w.heap.size + 2) w.heap.size (w.heap.size + 1) (plc D i) ka ta kn tn kc tc kl tl HM.out.bk hlt HM.out.cr (fun k hx => ⟨fun hf => (HM.out.step.foot k hf).elim (HE.out k hx).1 fun h9 => by have := (HE.out k hx).2; omega, Nat.lt_of_lt_of_le (HE.out k hx).2 HM.out.step.size⟩) (by rw [crD_at]; have := HP.out; omega) (by rw [crD_at]; exact HSZ.out i hlt))
      rw [crD_at, crD_step] at HS
      go_wp2_with fail
      refine HS.out.mono ?_
      rintro e w2 ⟨rfl, hB2, hS2, hC2⟩
      have HM2 : Hid (CrMid W w2 b D (w.heap.size + 2) w.heap.size (w.heap.size + 1) (i + 1) ka ta kn tn kc tc kl tl) := ⟨hB2, HM.out.step.trans hS2, hC2⟩
      clear hB2 hS2 hC2 HS
      go_wp2_with fail
      exact ⟨⟨i + 1, by omega, by go_num, HM2.out⟩, by simp [intOf]; omega⟩
    · have hd1 : decide ((i : Int) < 12) = false := by simp; omega
      obtain rfl : i = 12 := by omega
      go_wp2_with fail
      go_ret
      exact ⟨rfl, HM.out.bk, StepP.plain HBW.out HM.out.step (by omega)⟩
end Go.Proofs.Ytnpioaidbmllkaa
