/- What a writer's volume, entry and record answer. -/
import Derived.Test.YtaiafbihcfbglaaRcNums
namespace Go.Proofs.Ytaiafbihcfbglaa
open Go.RowKit
set_option linter.unusedVariables false
theorem wnums2 (B b g : Nat) (x y : Int) (s : ByteArray) (w : World) (hw : Wt B b s w) (hB : B ≤ w.heap.size) (hg : w.heap[g]? = some (.cells #[.int .i64 x, .int .i64 y] 3 (0, 0))) (hne : g ≠ b) (hs : s.size ≤ 10000) :
    Calls Try.prog 57 #[.pointer (some ⟨b, 0, none⟩), .slice (some ⟨g, 0, none⟩) 2 2] w fun e w' => e = .returned (.tuple #[]) ∧ Wt B b (s ++ (numI x ++ numI y)) w' ∧ Kw B b w w' := by
  have := wnums_any B b g [x, y] s w hw hB hg hne (by simp) hs
  have e : numsB [x, y] = numI x ++ numI y := by show numI x ++ (numI y ++ ByteArray.empty) = _; rw [app_nil]
  rw [e] at this
  exact this
theorem wnums3 (B b g : Nat) (x y z : Int) (s : ByteArray) (w : World) (hw : Wt B b s w) (hB : B ≤ w.heap.size) (hg : w.heap[g]? = some (.cells #[.int .i64 x, .int .i64 y, .int .i64 z] 3 (0, 0))) (hne : g ≠ b) (hs : s.size ≤ 10000) :
    Calls Try.prog 57 #[.pointer (some ⟨b, 0, none⟩), .slice (some ⟨g, 0, none⟩) 3 3] w fun e w' => e = .returned (.tuple #[]) ∧ Wt B b (s ++ (numI x ++ (numI y ++ numI z))) w' ∧ Kw B b w w' := by
  have := wnums_any B b g [x, y, z] s w hw hB hg hne (by simp) hs
  have e : numsB [x, y, z] = numI x ++ (numI y ++ numI z) := by show numI x ++ (numI y ++ (numI z ++ ByteArray.empty)) = _; rw [app_nil]
  rw [e] at this
  exact this
theorem RBx.kw {bx B b : Nat} {t : TypeId} {r : Rc} {a : Option Addr} {c : Nat} {w w' : World} (k : RBx bx t r a c w) (h : Kw B b w w') (hne : bx ≠ b) (ht : t ≠ 5) : RBx bx t r a c w' := h.keep _ _ _ _ hne ht k
theorem kw_alloc {B b : Nat} {w : World} (o : Obj) (hB : B ≤ w.heap.size) : Kw B b w (w.alloc o) := Kw.of_below ((Below.refl _ _).alloc (Nat.le_refl _) _) hB
theorem Wt.alloc {B b : Nat} {s : ByteArray} {w : World} (h : Wt B b s w) (o : Obj) : Wt B b s (w.alloc o) := h.below ((Below.refl _ _).alloc (Nat.le_refl _) _)
theorem locB_8 : ∀ l : List (Int × Int), (locB l).size ≤ 16 * l.length
  | [] => by simp [locB]
  | x :: l => by
    show (numI x.1 ++ (numI x.2 ++ locB l)).size ≤ 16 * (l.length + 1)
    rw [ByteArray.size_append, ByteArray.size_append]
    have := numI_8 x.1
    have := numI_8 x.2
    have := locB_8 l
    omega
theorem locB_step {l : List (Int × Int)} {k : Nat} {x : Int × Int} (h : l[k]? = some x) : locB (l.take (k + 1)) = locB (l.take k) ++ (numI x.1 ++ numI x.2) := by rw [List.take_add_one, h]; exact locB_snoc _ _
set_option maxRecDepth 100000 in
set_option maxHeartbeats 8000000 in
theorem wvol_any (w0 : World) (b : Nat) (i g n : Int) (a : Option Addr) (m c : Nat) (l : List (Int × Int)) (s : ByteArray) (w : World) (hw : Wt w0.heap.size b s w) (h0 : Below w0.heap.size w0 w) (hl : l.length = m) (hm : m ≤ 9) (hS : LocsAt w0 a l) (hs : s.size ≤ 1000) :
    Calls Try.prog 58 #[.pointer (some ⟨b, 0, none⟩), .agg (vlc i g n a m c)] w fun e w' => e = .returned (.tuple #[]) ∧ Wt w0.heap.size b (s ++ volB i g n l) w' ∧ Kw w0.heap.size b w w' := by
  have hbl := hw.lt
  have hB := h0.size
  have HL := hide hl
  have HS := hide hS
  have H0 := hide h0
  have HV : Hid ((w.alloc (.cells (vlc i g n a m c) 29)).heap[w.heap.size]? = some (.cells (vlc i g n a m c) 29 (0, 0))) := heap_alloc_new _ _
  have HW1 := hide ((hw.alloc (.cells (vlc i g n a m c) 29)).alloc (.cells #[.int .i64 i, .int .i64 g, .int .i64 n] 3))
  have HK1 := hide ((kw_alloc (b := b) (.cells (vlc i g n a m c) 29) hB).trans (kw_alloc (b := b) (w := w.alloc (.cells (vlc i g n a m c) 29)) (.cells #[.int .i64 i, .int .i64 g, .int .i64 n] 3) (by rw [World.size_alloc]; omega)))
  have HG : Hid (((w.alloc (.cells (vlc i g n a m c) 29)).alloc (.cells #[.int .i64 i, .int .i64 g, .int .i64 n] 3)).heap[w.heap.size + 1]? = some (.cells #[.int .i64 i, .int .i64 g, .int .i64 n] 3 (0, 0))) := by
    have q := heap_alloc_new (w.alloc (.cells (vlc i g n a m c) 29)) (.cells #[.int .i64 i, .int .i64 g, .int .i64 n] 3)
    rw [World.size_alloc] at q
    exact q
  have HVB : Hid (((w.alloc (.cells (vlc i g n a m c) 29)).alloc (.cells #[.int .i64 i, .int .i64 g, .int .i64 n] 3)).heap[w.heap.size]? = some (.cells (vlc i g n a m c) 29 (0, 0))) := (Below.heap_alloc _ _ _ (by rw [World.size_alloc]; omega)).trans HV.out
  clear hw hl hS h0 HV
  simp only [vlc] at HW1 HK1 HG HVB ⊢
  go_enter Try.func58, Try.ntmps58
  go_wp2_with fail
  refine (wnums3 w0.heap.size b (w.heap.size + 1) i g n s _ HW1.out (by simp only [World.size_alloc]; omega) HG.out (by omega) (by omega)).mono ?_
  rintro e w1 ⟨rfl, hw1, hk1⟩
  have HW2 := hide hw1
  have HK2 := hide (HK1.out.trans hk1)
  have v3 : w1.cell? ⟨w.heap.size, 3, none⟩ = some (.slice a m c) := cell_of_block (hk1.keep _ _ _ _ (by omega) (by decide) HVB.out)
  clear hw1 hk1 HW1 HK1 HG HVB
  have HQ : Hid (s ++ (numI i ++ (numI g ++ numI n)) ++ locB l = s ++ volB i g n l) := by unfold Hid volB; simp only [bapp]
  have hsz : (s ++ (numI i ++ (numI g ++ numI n))).size ≤ 1024 := by
    simp only [ByteArray.size_append]
    have := numI_8 i
    have := numI_8 g
    have := numI_8 n
    omega
  generalize s ++ (numI i ++ (numI g ++ numI n)) = T at *
  go_wp2_with fail
  clear v3
  go_loopw [18] (fun y wr => ∃ k : Nat, k ≤ m ∧ y = .int .i64 k ∧ Wt w0.heap.size b (T ++ locB (l.take k)) wr ∧ Kw w0.heap.size b w wr) (fun y _ => m - (intOf y).toNat)
  case atStart => exact ⟨0, by omega, rfl, by show Wt w0.heap.size b (T ++ ByteArray.empty) w1; rw [app_nil]; exact HW2.out, HK2.out⟩
  case round =>
    obtain ⟨k, hk, rfl, hwt, hkw⟩ := hrel
    clear HW2 HK2
    have HWR := hide hwt
    have HKW := hide hkw
    have hbl2 := hwt.lt
    have hB2 : w0.heap.size ≤ wr.heap.size := Nat.le_trans hB hkw.size
    have HB0 := hide (H0.out.trans hkw.low)
    clear hwt hkw
    by_cases hlt : k < m
    · have hd : decide ((k : Int) < (m : Int)) = true := by simp; omega
      have hdi : (k : Int) < (m : Int) := by omega
      have hd0 : (0 : Int) ≤ (k : Int) := by omega
      obtain ⟨⟨x1, x2⟩, hx⟩ : ∃ x, l[k]? = some x := ⟨_, List.getElem?_eq_getElem (by have := HL.out; omega)⟩
      obtain ⟨b1, o1, rfl, hb1, p1, p2⟩ := HS.out.nth hx
      have e1 := (HB0.out.cell (p := ⟨b1, o1 + k * 2, none⟩) hb1).trans p1
      have e2 := (HB0.out.cell (p := ⟨b1, o1 + k * 2 + 1, none⟩) hb1).trans p2
      simp only at e1 e2
      have HX := hide (locB_step hx)
      have hz := locB_8 (l.take k)
      have hz3 : (l.take k).length ≤ 9 := by rw [List.length_take]; omega
      clear hx p1 p2
      have HW1 := hide ((HWR.out.alloc (.cells #[.int .i64 x1, .int .i64 x2] 92)).alloc (.cells #[.int .i64 x1, .int .i64 x2] 3))
      have HK1 := hide ((HKW.out.trans (kw_alloc (b := b) (.cells #[.int .i64 x1, .int .i64 x2] 92) hB2)).trans (kw_alloc (b := b) (w := wr.alloc (.cells #[.int .i64 x1, .int .i64 x2] 92)) (.cells #[.int .i64 x1, .int .i64 x2] 3) (by rw [World.size_alloc]; omega)))
      have HG : Hid (((wr.alloc (.cells #[.int .i64 x1, .int .i64 x2] 92)).alloc (.cells #[.int .i64 x1, .int .i64 x2] 3)).heap[wr.heap.size + 1]? = some (.cells #[.int .i64 x1, .int .i64 x2] 3 (0, 0))) := by
        have q := heap_alloc_new (wr.alloc (.cells #[.int .i64 x1, .int .i64 x2] 92)) (.cells #[.int .i64 x1, .int .i64 x2] 3)
        rw [World.size_alloc] at q
        exact q
      go_wp2_with fail
      refine (wnums2 w0.heap.size b (wr.heap.size + 1) x1 x2 (T ++ locB (l.take k)) _ HW1.out (by simp only [World.size_alloc]; omega) HG.out (by omega) (by rw [ByteArray.size_append]; omega)).mono ?_
      rintro e w2 ⟨rfl, hw2, hk2⟩
      have HW2 := hide hw2
      have HK2 := hide (HK1.out.trans hk2)
      clear hw2 hk2
      go_wp2_with fail
      exact ⟨⟨k + 1, by omega, by go_num, by rw [HX.out, ← bapp]; exact HW2.out, HK2.out⟩, by simp [intOf]; omega⟩
    · have hd : decide ((k : Int) < (m : Int)) = false := by simp; omega
      have hdi : ¬ (k : Int) < (m : Int) := by omega
      have HF : Hid (Wt w0.heap.size b (s ++ volB i g n l) wr) := by
        unfold Hid
        have e := HL.out
        have : l.take k = l := List.take_of_length_le (by omega)
        have q := HWR.out
        rw [this, HQ.out] at q
        exact q
      go_wp2_with fail
      go_end0
      exact ⟨rfl, HF.out, HKW.out⟩
def EBx (bx : Nat) (ek : ByteArray) (ev eo el : Int) (ed : ByteArray) (w : World) : Prop := w.heap[bx]? = some (.cells #[.string ek, .int .i64 ev, .int .i64 eo, .int .i64 el, .string ed] 31 (0, 0))
set_option maxRecDepth 100000 in
set_option maxHeartbeats 8000000 in
theorem went_any (w0 : World) (b : Nat) (ek : ByteArray) (ev eo el : Int) (ed : ByteArray) (s : ByteArray) (w : World) (hw : Wt w0.heap.size b s w) (hB : w0.heap.size ≤ w.heap.size) (hek : ek.size ≤ 1000) (hed : ed.size ≤ 1000) (hs : s.size ≤ 1000) :
    Calls Try.prog 59 #[.pointer (some ⟨b, 0, none⟩), .agg #[.string ek, .int .i64 ev, .int .i64 eo, .int .i64 el, .string ed]] w fun e w' => e = .returned (.tuple #[]) ∧ Wt w0.heap.size b (s ++ (textS ek ++ (numI eo ++ (numI el ++ ed)))) w' ∧ Kw w0.heap.size b w w' := by
  have hbl := hw.lt
  have HW := hide (hw.alloc (.cells #[.string ek, .int .i64 ev, .int .i64 eo, .int .i64 el, .string ed] 31))
  have HK := hide (kw_alloc (b := b) (w := w) (.cells #[.string ek, .int .i64 ev, .int .i64 eo, .int .i64 el, .string ed] 31) hB)
  have HE : Hid (EBx w.heap.size ek ev eo el ed (w.alloc (.cells #[.string ek, .int .i64 ev, .int .i64 eo, .int .i64 el, .string ed] 31))) := heap_alloc_new _ _
  have HBW : Hid (w0.heap.size ≤ (w.alloc (.cells #[.string ek, .int .i64 ev, .int .i64 eo, .int .i64 el, .string ed] 31)).heap.size) := by unfold Hid; rw [World.size_alloc]; omega
  have hbt : (textS ek).size ≤ 1008 := textS_le hek (by omega)
  have h8o := numI_8 eo
  have h8l := numI_8 el
  have hne : w.heap.size ≠ b := by omega
  have HT : Hid (∀ w, Calls Try.prog 60 #[.string ek] w fun e w' => e = .returned (.string (textS ek)) ∧ Below w.heap.size w w') := fun w => ptext_any ek w (by omega)
  generalize textS ek = tx at *
  clear hw
  go_enter Try.func59, Try.ntmps59
  go_upto_region 1 with fail
  generalize w.alloc (.cells #[.string ek, .int .i64 ev, .int .i64 eo, .int .i64 el, .string ed] 31) = W1 at *
  generalize w.heap.size = be at *
  refine wp_region_noPanic ?_
  refine wp_region_held_drew (S := EBx be ek ev eo el ed) (by kernel_rfl) HE.out (fun hHeld => ?_)
  refine wpAnyH_take (i := 0) (v := ?v1) rfl (by kernel_rfl) (by kernel_rfl) (by kernel_rfl) (fun _ _ _ h => h) (Or.inl ⟨by rfl, ?hy1⟩) hHeld ?rest1
  case hy1 => (intro w' hSw; go_simp; try with_reducible rfl)
  try simp [Act.put]
  refine wpAnyH_take (i := 1) (v := ?v2) rfl (by kernel_rfl) (by kernel_rfl) (by kernel_rfl) (fun _ _ _ h => h) (Or.inl ⟨by rfl, ?hy2⟩) hHeld ?rest2
  case hy2 => (intro w' hSw; go_simp; try with_reducible rfl)
  try simp [Act.put]
  refine wpAnyH_take (i := 2) (v := ?v3) rfl (by kernel_rfl) (by kernel_rfl) (by kernel_rfl) (fun _ _ _ h => h) (Or.inl ⟨by rfl, ?hy3⟩) hHeld ?rest3
  case hy3 => (intro w' hSw; go_simp; try with_reducible rfl)
  try simp [Act.put]
  refine wpAnyH_take (i := 3) (v := ?v4) rfl (by kernel_rfl) (by kernel_rfl) (by kernel_rfl) (fun _ _ _ h => h) (Or.inl ⟨by rfl, ?hy4⟩) hHeld ?rest4
  case hy4 => (intro w' hSw; go_simp; try with_reducible rfl)
  try simp [Act.put]
  refine wpAnyH_take (i := 4) (v := ?v5) rfl (by kernel_rfl) (by kernel_rfl) (by kernel_rfl) (fun _ _ _ h => h) (Or.inl ⟨by rfl, ?hy5⟩) hHeld ?rest5
  case hy5 => (intro w' hSw; have s0 : w'.cell? ⟨be, 0, none⟩ = some (.string ek) := cell_of_block hSw; go_simp; try with_reducible rfl)
  try simp [Act.put]
  refine wpAnyH_ready (rs := [5]) (by kernel_rfl) (by simp) ?_
  refine AllReadyH.cons rfl (fun K hK => ?_) AllReadyH.nil
  go_simp
  refine (HT.out _).mono ?_
  rintro e w2 ⟨rfl, hb2⟩
  have hbd : Below W1.heap.size W1 w2 := (drew_below W1).trans hb2
  have HW2 := hide (HW.out.below hbd)
  have HK2 := hide (HK.out.trans (Kw.of_below hbd HBW.out))
  have HE2 : Hid (EBx be ek ev eo el ed w2) := (hbd.block be (lt_of_block HE.out)).trans HE.out
  have HBW2 : Hid (w0.heap.size ≤ w2.heap.size) := by unfold Hid; have := hbd.size; have := HBW.out; omega
  refine hK.out _ _ HE2.out (fun hHeld => ?_)
  clear hK K hb2 hbd HW HK HE HBW
  try simp [Act.put]
  refine wpAnyH_ready (rs := [6]) (by kernel_rfl) (by simp) ?_
  refine AllReadyH.cons rfl (fun K hK => ?_) AllReadyH.nil
  go_simp
  refine (wstr_any w0.heap.size b s tx w2 HW2.out (by omega) HBW2.out).mono ?_
  rintro e w3 ⟨rfl, hw3, hk3⟩
  have HW3 := hide hw3
  have HK3 := hide (HK2.out.trans hk3)
  have HE3 : Hid (EBx be ek ev eo el ed w3) := hk3.keep _ _ _ _ hne (by decide) HE2.out
  have HBW3 : Hid (w0.heap.size ≤ w3.heap.size) := by unfold Hid; have := hk3.size; have := HBW2.out; omega
  refine hK.out _ _ HE3.out (fun hHeld => ?_)
  clear hK K hw3 hk3 HW2 HK2 HE2 HBW2
  try simp [Act.put]
  refine wpAnyH_done (by kernel_rfl) (NoPanic.normal ?_) _
  have s2 : w3.cell? ⟨be, 2, none⟩ = some (.int .i64 eo) := cell_of_block HE3.out
  have s3 : w3.cell? ⟨be, 3, none⟩ = some (.int .i64 el) := cell_of_block HE3.out
  have hbw := HW3.out.lt
  have HW4 := hide (HW3.out.alloc (.cells #[.int .i64 eo, .int .i64 el] 3))
  have HK4 := hide (HK3.out.trans (kw_alloc (b := b) (w := w3) (.cells #[.int .i64 eo, .int .i64 el] 3) HBW3.out))
  have HE4 : Hid (EBx be ek ev eo el ed (w3.alloc (.cells #[.int .i64 eo, .int .i64 el] 3))) := (Below.heap_alloc _ _ _ (lt_of_block HE3.out)).trans HE3.out
  have HG4 : Hid ((w3.alloc (.cells #[.int .i64 eo, .int .i64 el] 3)).heap[w3.heap.size]? = some (.cells #[.int .i64 eo, .int .i64 el] 3 (0, 0))) := heap_alloc_new _ _
  go_wp2_with fail
  refine (wnums2 w0.heap.size b w3.heap.size eo el (s ++ tx) _ HW4.out (by rw [World.size_alloc]; have := HBW3.out; omega) HG4.out (by omega) (by rw [ByteArray.size_append]; omega)).mono ?_
  rintro e w5 ⟨rfl, hw5, hk5⟩
  have HW5 := hide hw5
  have HK5 := hide (HK4.out.trans hk5)
  have HE5 : Hid (EBx be ek ev eo el ed w5) := hk5.keep _ _ _ _ hne (by decide) HE4.out
  have HBW5 : Hid (w0.heap.size ≤ w5.heap.size) := by unfold Hid; have := hk5.size; rw [World.size_alloc] at this; have := HBW3.out; omega
  clear hw5 hk5 HW4 HK4 HE4 HG4 HW3 HK3 HE3 HBW3 s2 s3 hbw
  have HQ : Hid (s ++ tx ++ (numI eo ++ numI el) ++ ed = s ++ (tx ++ (numI eo ++ (numI el ++ ed)))) := by unfold Hid; simp only [bapp]
  have hsz : (s ++ tx ++ (numI eo ++ numI el)).size ≤ 3000 := by simp only [ByteArray.size_append]; omega
  generalize s ++ tx ++ (numI eo ++ numI el) = U at *
  go_upto_region 3 with fail
  refine wp_region_noPanic ?_
  refine wp_region_held_drew (S := EBx be ek ev eo el ed) (by kernel_rfl) HE5.out (fun hHeld => ?_)
  refine wpAnyH_take (i := 0) (v := ?v6) rfl (by kernel_rfl) (by kernel_rfl) (by kernel_rfl) (fun _ _ _ h => h) (Or.inl ⟨by rfl, ?hy6⟩) hHeld ?rest6
  case hy6 => (intro w' hSw; go_simp; try with_reducible rfl)
  try simp [Act.put]
  refine wpAnyH_take (i := 1) (v := ?v7) rfl (by kernel_rfl) (by kernel_rfl) (by kernel_rfl) (fun _ _ _ h => h) (Or.inl ⟨by rfl, ?hy7⟩) hHeld ?rest7
  case hy7 => (intro w' hSw; go_simp; try with_reducible rfl)
  try simp [Act.put]
  refine wpAnyH_take (i := 2) (v := ?v8) rfl (by kernel_rfl) (by kernel_rfl) (by kernel_rfl) (fun _ _ _ h => h) (Or.inl ⟨by rfl, ?hy8⟩) hHeld ?rest8
  case hy8 => (intro w' hSw; go_simp; try with_reducible rfl)
  try simp [Act.put]
  refine wpAnyH_take (i := 3) (v := ?v9) rfl (by kernel_rfl) (by kernel_rfl) (by kernel_rfl) (fun _ _ _ h => h) (Or.inl ⟨by rfl, ?hy9⟩) hHeld ?rest9
  case hy9 => (intro w' hSw; go_simp; try with_reducible rfl)
  try simp [Act.put]
  refine wpAnyH_take (i := 4) (v := ?v10) rfl (by kernel_rfl) (by kernel_rfl) (by kernel_rfl) (fun _ _ _ h => h) (Or.inl ⟨by rfl, ?hy10⟩) hHeld ?rest10
  case hy10 => (intro w' hSw; have s0 : w'.cell? ⟨be, 4, none⟩ = some (.string ed) := cell_of_block hSw; go_simp; try with_reducible rfl)
  try simp [Act.put]
  refine wpAnyH_ready (rs := [5]) (by kernel_rfl) (by simp) ?_
  refine AllReadyH.cons rfl (fun K hK => ?_) AllReadyH.nil
  go_simp
  have HWd : Hid (Wt w0.heap.size b U w5.drew) := HW5.out.below (drew_below w5)
  refine (wstr_any w0.heap.size b U ed w5.drew HWd.out (by omega) HBW5.out).mono ?_
  rintro e w6 ⟨rfl, hw6, hk6⟩
  have HW6 := hide hw6
  have HK6 := hide ((HK5.out.trans (Kw.of_below (drew_below w5) HBW5.out)).trans hk6)
  have HE6 : Hid (EBx be ek ev eo el ed w6) := hk6.keep _ _ _ _ hne (by decide) HE5.out
  refine hK.out _ _ HE6.out (fun hHeld => ?_)
  clear hK K hw6 hk6
  try simp [Act.put]
  refine wpAnyH_done (by kernel_rfl) (NoPanic.normal ?_) _
  rw [HQ.out] at HW6
  go_wp2_with fail
  go_end0
  exact ⟨rfl, HW6.out, HK6.out⟩
end Go.Proofs.Ytaiafbihcfbglaa
