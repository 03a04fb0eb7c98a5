/- What check.shifter, its closure and newTable answer. -/
import Derived.Test.YtaiafbihcfbglaaCrTab
namespace Go.Proofs.Ytaiafbihcfbglaa
open Go.RowKit
/-- the shifter's function, that has its number in block b -/
def shiftF (b : Nat) : Value := .func (.func 98) #[] #[.pointer (some ⟨b, 0, none⟩)]
def BoxAt (w : World) (b x : Nat) : Prop := FnAt w b 110 1 (fun _ => .int .u32 (x : Nat))
set_option maxRecDepth 100000 in
set_option maxHeartbeats 1000000 in
theorem shifter_any (x : Nat) (w : World) :
    Calls Try.prog 90 #[.int .u32 (x : Nat)] w fun e w' => e = .returned (shiftF w.heap.size) ∧ BoxAt w' w.heap.size x ∧ Below w.heap.size w w' := by
  go_enter Try.func90, Try.ntmps90
  go_wp2_with fail
  go_ret
  exact ⟨rfl, heap_alloc_new _ _, (Below.refl _ _).alloc (Nat.le_refl _) _⟩
theorem st_one {x : Nat} (h : x < 2 ^ 32) (h1 : x % 2 = 1) : bits .xor .u32 ((x : Int) / 2) 2197175160 = ((Cr.st x : Nat) : Int) := by
  unfold Cr.st
  rw [if_pos h1, show (x : Int) / 2 = ((x / 2 : Nat) : Int) by omega, show (2197175160 : Int) = ((2197175160 : Nat) : Int) from rfl, u32_xor_nat _ _ (by omega) (by omega)]
  rfl
theorem st_nil {x : Nat} (h1 : x % 2 = 0) : (x : Int) / 2 = ((Cr.st x : Nat) : Int) := by
  unfold Cr.st
  rw [if_neg (by omega), Nat.xor_zero]
  omega
theorem bit_out {x : Nat} (h : x < 2 ^ 32) : bits .and .u32 (x : Int) 1 = ((x % 2 : Nat) : Int) := by
  rw [show (1 : Int) = ((1 : Nat) : Int) from rfl, u32_and_nat _ _ (by omega) (by omega), nat_mask1]
set_option maxRecDepth 100000 in
set_option maxHeartbeats 1000000 in
theorem shift_any (b x : Nat) (w : World) (hx : x < 2 ^ 32) (hB : BoxAt w b x) :
    Calls Try.prog 98 #[.pointer (some ⟨b, 0, none⟩)] w fun e w' => e = .returned (.int .u32 (Cr.st x : Nat)) ∧ BoxAt w' b (Cr.st x) ∧ Below b w w' := by
  have hc := hB.cell (p := 0) (by omega)
  have hf := hB.free 0
  have HB := hide hB
  clear hB
  go_enter Try.func98, Try.ntmps98
  go_wp2_with fail
  · rename_i h
    rw [bit_out hx] at h
    have h1 : x % 2 = 1 := by have := beq_iff_eq.1 h; omega
    rw [st_one hx h1]
    go_ret
    exact ⟨rfl, FnAt.congr ((HB.out.set 0 _).set 0 _) fun p hp => by rw [if_pos (by omega)], ((Below.refl b w).setCell (p := ⟨b, 0, none⟩) (Nat.le_refl b) _).setCell (p := ⟨b, 0, none⟩) (Nat.le_refl b) _⟩
  · rename_i h
    rw [bit_out hx] at h
    have h1 : x % 2 = 0 := by have := beq_eq_false_iff_ne.1 h; omega
    rw [st_nil h1]
    go_ret
    exact ⟨rfl, (HB.out.set 0 _).congr fun p hp => by rw [if_pos (by omega)], (Below.refl b w).setCell (p := ⟨b, 0, none⟩) (Nat.le_refl b) _⟩
/-- a table of 256 words -/
def t256 (f : Nat → Nat) : Array Value := fnC 256 fun q => .int .u32 (f q : Nat)
def TblAt (w : World) (b : Nat) (f : Nat → Nat) : Prop := FnAt w b 127 256 fun q => .int .u32 (f q : Nat)
def tbZero : Array Value := Array.replicate 256 (.int .u32 0)
theorem tbZero_eq : tbZero = t256 (fun _ => 0) := fnC_rep _ _
theorem tb_zero_info : (Try.prog.info? 127).map (fun i => i.zero) = some (some (.agg tbZero)) := by kernel_rfl
theorem zero_tbl (w : World) : Sem.run Try.prog (zeroValue 127) w = .ok (.agg (t256 fun _ => 0)) w := by
  have h := tb_zero_info
  cases hi : Try.prog.info? 127 with
  | none => rw [hi] at h; cases h
  | some i =>
    rw [hi] at h
    have hz : i.zero = some (.agg tbZero) := by simpa using h
    simp [zeroValue, typeInfo, hi, hz, tbZero_eq]
theorem tbl_info : (Try.prog.info? 127).map (·.size) = some 256 := by kernel_rfl
theorem tbl_info' (f : Nat → Nat) : (Try.prog.info? 127).map (·.size) = some (t256 f).size := by rw [t256, fnC_size]; exact tbl_info
theorem t256_one (f : Nat → Nat) : (t256 f).all (·.oneCell') = true := fnC_one fun _ _ => rfl
theorem res_tbl {fn : Func} {p : Tmp} (h : fn.results = #[.cell p 127]) (tmps : Array Value) (w : World) (g : Nat) (f : Nat → Nat)
    (hp : tmps.getD p undef = .pointer (some ⟨g, 0, none⟩)) (hr : TblAt w g f) : (results fn tmps).run Try.prog w = .ok (.agg (t256 f)) w :=
  results_cell_row h tmps w g 127 (t256 f) (0, 0) _ hp hr Try.underlying127 rfl (tbl_info' f)
theorem stN_last (m x : Nat) : Cr.stN (m + 1) x = Cr.st (Cr.stN m x) := Cr.stN_add m 1 x
/-- what newTable's loops keep -/
def NtRel (w wr : World) (m : Nat) (f : Nat → Nat) : Prop := TblAt wr w.heap.size (fun _ => 0) ∧ TblAt wr (w.heap.size + 1) f ∧ BoxAt wr (w.heap.size + 2) (Cr.stN m 1) ∧ Below w.heap.size w wr
theorem ntRel_step {w wr : World} {m I : Nat} (hm : m < 8) (hI : I % (2 * bitN m) = 0) (h : NtRel w wr (m + 1) (tbN m I)) :
    NtRel w (wr.setCell ⟨w.heap.size + 1, I + bitN m, none⟩ (.int .u32 (Cr.stN 8 (I + bitN m) : Nat))) (m + 1) (tbN m (I + 2 * bitN m)) := by
  obtain ⟨h1, h2, h3, h4⟩ := h
  refine ⟨h1.other (by simp) _, (h2.set _ _).congr fun q _ => ?_, h3.other (by simp) _, h4.setCell (by simp) _⟩
  rw [← tbN_step (q := q) hm hI]
  by_cases e : q = I + bitN m
  · rw [if_pos e, if_pos e]
  · rw [if_neg e, if_neg e]
set_option maxRecDepth 100000 in
set_option maxHeartbeats 1000000 in
theorem newTable_any (w : World) :
    Calls Try.prog 80 #[] w fun e w' => e = .returned (.agg (t256 (Cr.stN 8))) ∧ Below w.heap.size w w' := by
  have hz := zero_tbl
  go_enter Try.func80, Try.ntmps80
  go_wp2_with fail
  refine (shifter_any 1 _).mono ?_
  rintro e w1 ⟨rfl, hb1, hbl1⟩
  clear hz
  rw [show ((w.alloc (Obj.cells (t256 fun _ => 0) 127)).alloc (Obj.cells (t256 fun _ => 0) 127)).heap.size = w.heap.size + 2 by simp] at *
  have hst : NtRel w w1 0 (tbO 0) := by
    have h1 : TblAt (w.alloc (Obj.cells (t256 fun _ => 0) 127)) w.heap.size fun _ => 0 := heap_alloc_new _ _
    have h2 : TblAt ((w.alloc (Obj.cells (t256 fun _ => 0) 127)).alloc (Obj.cells (t256 fun _ => 0) 127)) (w.heap.size + 1) fun _ => 0 := by
      have := heap_alloc_new (w.alloc (.cells (t256 fun _ => 0) 127)) (.cells (t256 fun _ => 0) 127)
      rw [World.size_alloc] at this
      exact this
    refine ⟨(h1.alloc _).below hbl1 (by omega), (h2.below hbl1 (by omega)).congr fun p hp => ?_, hb1, ?_⟩
    · rw [tbO_in (by omega), tbN_first hp]
    · exact (((Below.refl _ _).alloc (Nat.le_refl _) _).alloc (by simp) _).trans (hbl1.mono (by omega))
  have HST := hide hst
  clear hst hb1 hbl1
  simp only [shiftF]
  go_wp2_with fail
  go_loopw [3] (fun y wr => ∃ m : Nat, m ≤ 8 ∧ y = .int .i64 (bitN m : Nat) ∧ NtRel w wr m (tbO m)) (fun y _ => (intOf y).toNat)
  case atStart => exact ⟨0, by omega, rfl, HST.out⟩
  case round =>
    obtain ⟨m, hm, rfl, hrel⟩ := hrel
    by_cases hlt : m < 8
    · have hp := bitN_pos hlt
      have hle := bitN_le m
      have hd : decide ((0 : Int) < (bitN m : Nat)) = true := by simp; omega
      have HR := hide hrel
      clear hrel
      go_wp2_with fail
      refine (shift_any _ _ wr (Cr.stN_lt m (by decide)) HR.out.2.2.1).mono ?_
      rintro e w2 ⟨rfl, hb2, hbl2⟩
      rw [← stN_last] at *
      have hin : NtRel w w2 (m + 1) (tbN m 0) := ⟨HR.out.1.below hbl2 (by omega), (HR.out.2.1.below hbl2 (by omega)).congr fun p _ => by rw [tbO_in hlt], hb2, HR.out.2.2.2.trans (hbl2.mono (by omega))⟩
      have HIN := hide hin
      have hll := Cr.stN_lt (m + 1) (x := 1) (by decide)
      clear hin hb2 hbl2
      go_wp2_with fail
      go_loopw [5] (fun y wi => ∃ I : Nat, I ≤ 256 ∧ I % (2 * bitN m) = 0 ∧ y = .int .i64 (I : Nat) ∧ NtRel w wi (m + 1) (tbN m I)) (fun y _ => 256 - (intOf y).toNat)
      case atStart => exact ⟨0, by omega, Nat.zero_mod _, rfl, HIN.out⟩
      case round =>
        obtain ⟨I, hI, hI0, rfl, hrel⟩ := hrel
        by_cases hlI : I < 256
        · obtain ⟨hs1, hs2⟩ := bitN_step hlt hI0 hlI
          have hd2 : decide ((I : Int) < 256) = true := by simp; omega
          have hc := hrel.2.1.cell hlI
          rw [tbN_at hI0] at hc
          have hc2 := hrel.2.1.cell (p := I + bitN m) (by omega)
          have hf := hrel.2.1.free
          have hx := Cr.stN_lt 8 (x := I) (by omega)
          have HI0 := hide hI0
          have HS2 := hide hs2
          have HI := hide hrel
          clear hI0 hs2 hrel
          go_wp2_with fail
          refine ⟨⟨I + 2 * bitN m, hs1, HS2.out, by go_num, ?_⟩, by simp [intOf]; omega⟩
          rw [u32_xor_nat _ _ (by omega) (by omega), entry hlt HI0.out]
          exact ntRel_step hlt HI0.out HI.out
        · obtain rfl : I = 256 := by omega
          have HI := hide hrel
          clear hrel
          go_wp2_with fail
          refine ⟨⟨m + 1, by omega, ?_, HI.out.1, HI.out.2.1.congr fun q hq => by rw [tbN_next hlt hq], HI.out.2.2.1, HI.out.2.2.2⟩, by simp [intOf]; omega⟩
          rw [← bitN_half hlt]; simp
    · obtain rfl : m = 8 := by omega
      obtain ⟨h1, h2, h3, h4⟩ := hrel
      have h2' := h2.congr (g' := fun q => .int .u32 (Cr.stN 8 q : Nat)) fun q _ => by rw [tbO, if_pos rfl]
      have H1 := hide h1
      have H2 := hide h2'
      have H4 := hide h4
      clear h1 h2 h2' h3 h4
      rw [show bitN 8 = 0 from rfl]
      go_wp2_with (first
        | (refine wpList_load_row rfl 127 (.tmp 1) rfl (w.heap.size + 1) rfl 127 (t256 (Cr.stN 8)) (0, 0) _ H2.out Try.underlying127 rfl (tbl_info' _) ?_)
        | (refine wpList_store_row rfl 127 (.tmp 0) (.tmp 28) rfl w.heap.size (t256 (Cr.stN 8)) rfl rfl 127 (t256 fun _ => 0) H1.out (tbl_info' _) (by rw [t256, t256, fnC_size, fnC_size]) (t256_one _) ?_))
      refine bodyPost_ret (res_tbl rfl _ _ w.heap.size _ rfl (H1.out.put _)) rfl ⟨rfl, below_setRow H4.out (Nat.le_refl _) _⟩
end Go.Proofs.Ytaiafbihcfbglaa
