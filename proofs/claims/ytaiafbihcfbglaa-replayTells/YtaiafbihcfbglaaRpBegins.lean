/- What the document's Begins answers; slices.EqualFunc over records, replay.Begins. -/
import Derived.Test.YtaiafbihcfbglaaRpLists
namespace Go.Proofs.Ytaiafbihcfbglaa
open Go.RowKit
set_option linter.unusedVariables false
/-- the second list begins with the first -/
noncomputable def begB (l k : List RT) : Bool := decide (l.length ≤ k.length) && samL l (k.take l.length)
set_option maxRecDepth 100000 in
set_option maxHeartbeats 8000000 in
theorem eqf_any (a1 a2 : Option Addr) (c1 c2 n m : Nat) (l k : List RT) (w : World) (hl : l.length = n) (hk : k.length = m) (h63 : n ≤ 1000000) (h64 : m ≤ 1000000) (h1 : RecsAt w a1 l) (h2 : RecsAt w a2 k) (hz : ∀ x : RT, x ∈ l ∨ x ∈ k → x.1.ls.length ≤ 1000000) : Calls Try.prog 28 #[.slice a1 n c1, .slice a2 m c2, .func (.func 29) #[] #[]] w fun e w' => e = .returned (.bool (samL l k)) ∧ Below w.heap.size w w' := by
  have HL := hide hl
  have HK := hide hk
  have H1 := hide h1
  have H2 := hide h2
  have HZ := hide hz
  by_cases hnm : ¬ n = m
  · have hq : ((n : Int) == (m : Int)) = false := by simp; omega
    have hq2 : ((n : Int) != (m : Int)) = true := by simp; omega
    have HF : Hid (false = samL l k) := samL_len (by omega)
    clear hl hk h1 h2 hz
    go_enter Try.func28, Try.ntmps28
    go_wp2_with fail
    try go_ret
    exact ⟨ret_bool HF.out, Below.refl _ _⟩
  clear hl hk h1 h2 hz
  obtain rfl : n = m := by omega
  clear hnm
  go_enter Try.func28, Try.ntmps28
  go_wp2_with fail
  go_loopw [17] (fun y wr => ∃ j : Nat, j ≤ n ∧ y = .int .i64 j ∧ (∀ i, i < j → (l[i]?).map Prod.fst = (k[i]?).map Prod.fst) ∧ Below w.heap.size w wr) (fun y _ => n - (intOf y).toNat)
  case atStart => exact ⟨0, by omega, rfl, fun i hi => by omega, Below.refl _ _⟩
  case round =>
    obtain ⟨j, hj, rfl, hsm, hbl⟩ := hrel
    have HB := hide hbl
    have HS := hide hsm
    clear hbl hsm
    by_cases hlt : j < n
    · have hd : decide ((j : Int) < (n : Int)) = true := by simp; omega
      have hdi : (j : Int) < (n : Int) := by omega
      have hd0 : (0 : Int) ≤ (j : Int) := by omega
      obtain ⟨⟨x, xa, xc⟩, hx⟩ : ∃ x, l[j]? = some x := ⟨_, List.getElem?_eq_getElem (by have := HL.out; omega)⟩
      obtain ⟨⟨y, ya, yc⟩, hy⟩ : ∃ x, k[j]? = some x := ⟨_, List.getElem?_eq_getElem (by have := HK.out; omega)⟩
      obtain ⟨b1, o1, rfl, hb1, p1, q1⟩ := (H1.out.below HB.out).nth hx
      obtain ⟨b2, o2, rfl, hb2, p2, q2⟩ := (H2.out.below HB.out).nth hy
      simp only at q1 q2
      have HX := hide hx
      have HY := hide hy
      have hzx : x.ls.length ≤ 1000000 := HZ.out _ (.inl (List.mem_of_getElem? hx))
      have hzy : y.ls.length ≤ 1000000 := HZ.out _ (.inr (List.mem_of_getElem? hy))
      have HYES : Hid (x = y → ∀ i, i < j + 1 → (l[i]?).map Prod.fst = (k[i]?).map Prod.fst) := fun e i hi => by
        by_cases q : i = j
        · subst q; rw [HX.out, HY.out]; simp [e]
        · exact HS.out i (by omega)
      have HNO : Hid (x ≠ y → false = samL l k) := fun e => samL_no HX.out HY.out e
      clear hx hy
      have hal1 : Below wr.heap.size wr (wr.alloc (.cells #[.int .i64 0, .int .i64 0, .int .i64 0, .int .i64 0, .int .i64 0, .slice none 0 0, .string { data := #[] }, .int .i64 0, .int .i64 0, .int .i64 0, .string { data := #[] }, .string { data := #[] }, .int .i64 0, .int .i64 0] 55)) := (Below.refl _ _).alloc (Nat.le_refl _) _
      have hrow1 := below_setRow hal1 (Nat.le_refl _) (rcs x xa xc)
      have N1 : Hid (RBx wr.heap.size 55 Rc.zero none 0 (wr.alloc (.cells #[.int .i64 0, .int .i64 0, .int .i64 0, .int .i64 0, .int .i64 0, .slice none 0 0, .string { data := #[] }, .int .i64 0, .int .i64 0, .int .i64 0, .string { data := #[] }, .string { data := #[] }, .int .i64 0, .int .i64 0] 55))) := rbx_new 55 Rc.zero none 0 wr
      have X1 : Hid (RBx wr.heap.size 55 x xa xc ((wr.alloc (.cells #[.int .i64 0, .int .i64 0, .int .i64 0, .int .i64 0, .int .i64 0, .slice none 0 0, .string { data := #[] }, .int .i64 0, .int .i64 0, .int .i64 0, .string { data := #[] }, .string { data := #[] }, .int .i64 0, .int .i64 0] 55)).setRow wr.heap.size (rcs x xa xc))) := N1.out.row x xa xc
      have B1 : Hid (Below w.heap.size w ((wr.alloc (.cells #[.int .i64 0, .int .i64 0, .int .i64 0, .int .i64 0, .int .i64 0, .slice none 0 0, .string { data := #[] }, .int .i64 0, .int .i64 0, .int .i64 0, .string { data := #[] }, .string { data := #[] }, .int .i64 0, .int .i64 0] 55)).setRow wr.heap.size (rcs x xa xc))) := HB.out.trans (hrow1.mono HB.out.size)
      have L1 : Hid (LocsAt ((wr.alloc (.cells #[.int .i64 0, .int .i64 0, .int .i64 0, .int .i64 0, .int .i64 0, .slice none 0 0, .string { data := #[] }, .int .i64 0, .int .i64 0, .int .i64 0, .string { data := #[] }, .string { data := #[] }, .int .i64 0, .int .i64 0] 55)).setRow wr.heap.size (rcs x xa xc)) xa x.ls) := q1.below hrow1
      have M1 : Hid (LocsAt ((wr.alloc (.cells #[.int .i64 0, .int .i64 0, .int .i64 0, .int .i64 0, .int .i64 0, .slice none 0 0, .string { data := #[] }, .int .i64 0, .int .i64 0, .int .i64 0, .string { data := #[] }, .string { data := #[] }, .int .i64 0, .int .i64 0] 55)).setRow wr.heap.size (rcs x xa xc)) ya y.ls) := q2.below hrow1
      have P1 := hide p1
      have P2 : Hid (((wr.alloc (.cells #[.int .i64 0, .int .i64 0, .int .i64 0, .int .i64 0, .int .i64 0, .slice none 0 0, .string { data := #[] }, .int .i64 0, .int .i64 0, .int .i64 0, .string { data := #[] }, .string { data := #[] }, .int .i64 0, .int .i64 0] 55)).setRow wr.heap.size (rcs x xa xc)).rangeAt b2 (o2 + j * 14) (rtC (y, ya, yc)).toList) := range_block p2 (hrow1.block b2 hb2)
      clear hal1 hrow1 q1 q2 p1 p2
      go_wp2_with (first | (refine wpList_load_mid rfl 55 (.tmp 20) rfl b1 (o1 + j * 14) rfl (rtC (x, xa, xc)).toList _ P1.out Try.underlying55 rfl rec_info ?_; rw [show (rtC (x, xa, xc)).toList.toArray = rcs x xa xc from rfl]) | (refine wpList_store_row rfl 55 (.tmp 8) (.tmp 21) rfl wr.heap.size (rcs x xa xc) rfl rfl 55 (rcs Rc.zero none 0) N1.out rec_info rfl (rcs_one _ _ _) ?_; generalize (wr.alloc (.cells #[.int .i64 0, .int .i64 0, .int .i64 0, .int .i64 0, .int .i64 0, .slice none 0 0, .string { data := #[] }, .int .i64 0, .int .i64 0, .int .i64 0, .string { data := #[] }, .string { data := #[] }, .int .i64 0, .int .i64 0] 55)).setRow wr.heap.size (rcs x xa xc) = W1 at *; generalize wr.heap.size = bb1 at *) | (refine wpList_load_mid rfl 55 (.tmp 24) rfl b2 (o2 + j * 14) rfl (rtC (y, ya, yc)).toList _ P2.out Try.underlying55 rfl rec_info ?_; rw [show (rtC (y, ya, yc)).toList.toArray = rcs y ya yc from rfl]; have hal2 : Below W1.heap.size W1 (W1.alloc (.cells #[.int .i64 0, .int .i64 0, .int .i64 0, .int .i64 0, .int .i64 0, .slice none 0 0, .string { data := #[] }, .int .i64 0, .int .i64 0, .int .i64 0, .string { data := #[] }, .string { data := #[] }, .int .i64 0, .int .i64 0] 55)) := (Below.refl _ _).alloc (Nat.le_refl _) _; have hrow2 := below_setRow hal2 (Nat.le_refl _) (rcs y ya yc); have N2 : Hid (RBx W1.heap.size 55 Rc.zero none 0 (W1.alloc (.cells #[.int .i64 0, .int .i64 0, .int .i64 0, .int .i64 0, .int .i64 0, .slice none 0 0, .string { data := #[] }, .int .i64 0, .int .i64 0, .int .i64 0, .string { data := #[] }, .string { data := #[] }, .int .i64 0, .int .i64 0] 55))) := rbx_new 55 Rc.zero none 0 W1; have Y2 : Hid (RBx W1.heap.size 55 y ya yc ((W1.alloc (.cells #[.int .i64 0, .int .i64 0, .int .i64 0, .int .i64 0, .int .i64 0, .slice none 0 0, .string { data := #[] }, .int .i64 0, .int .i64 0, .int .i64 0, .string { data := #[] }, .string { data := #[] }, .int .i64 0, .int .i64 0] 55)).setRow W1.heap.size (rcs y ya yc))) := N2.out.row y ya yc; have X2 : Hid (RBx bb1 55 x xa xc ((W1.alloc (.cells #[.int .i64 0, .int .i64 0, .int .i64 0, .int .i64 0, .int .i64 0, .slice none 0 0, .string { data := #[] }, .int .i64 0, .int .i64 0, .int .i64 0, .string { data := #[] }, .string { data := #[] }, .int .i64 0, .int .i64 0] 55)).setRow W1.heap.size (rcs y ya yc))) := X1.out.below hrow2 X1.out.lt; have B2 : Hid (Below w.heap.size w ((W1.alloc (.cells #[.int .i64 0, .int .i64 0, .int .i64 0, .int .i64 0, .int .i64 0, .slice none 0 0, .string { data := #[] }, .int .i64 0, .int .i64 0, .int .i64 0, .string { data := #[] }, .string { data := #[] }, .int .i64 0, .int .i64 0] 55)).setRow W1.heap.size (rcs y ya yc))) := B1.out.trans (hrow2.mono B1.out.size); have L2 : Hid (LocsAt ((W1.alloc (.cells #[.int .i64 0, .int .i64 0, .int .i64 0, .int .i64 0, .int .i64 0, .slice none 0 0, .string { data := #[] }, .int .i64 0, .int .i64 0, .int .i64 0, .string { data := #[] }, .string { data := #[] }, .int .i64 0, .int .i64 0] 55)).setRow W1.heap.size (rcs y ya yc)) xa x.ls) := L1.out.below hrow2; have M2 : Hid (LocsAt ((W1.alloc (.cells #[.int .i64 0, .int .i64 0, .int .i64 0, .int .i64 0, .int .i64 0, .slice none 0 0, .string { data := #[] }, .int .i64 0, .int .i64 0, .int .i64 0, .string { data := #[] }, .string { data := #[] }, .int .i64 0, .int .i64 0] 55)).setRow W1.heap.size (rcs y ya yc)) ya y.ls) := M1.out.below hrow2; clear hal2 hrow2 X1 B1 L1 M1 P1 P2) | (refine wpList_store_row rfl 55 (.tmp 9) (.tmp 25) rfl W1.heap.size (rcs y ya yc) rfl rfl 55 (rcs Rc.zero none 0) N2.out rec_info rfl (rcs_one _ _ _) ?_; generalize (W1.alloc (.cells #[.int .i64 0, .int .i64 0, .int .i64 0, .int .i64 0, .int .i64 0, .slice none 0 0, .string { data := #[] }, .int .i64 0, .int .i64 0, .int .i64 0, .string { data := #[] }, .string { data := #[] }, .int .i64 0, .int .i64 0] 55)).setRow W1.heap.size (rcs y ya yc) = W2 at *; generalize W1.heap.size = bb2 at *) | (refine wpList_load_row rfl 55 (.tmp 8) rfl bb1 rfl 55 (rcs x xa xc) (0, 0) _ X2.out Try.underlying55 rfl rec_info ?_) | (refine wpList_load_row rfl 55 (.tmp 9) rfl bb2 rfl 55 (rcs y ya yc) (0, 0) _ Y2.out Try.underlying55 rfl rec_info ?_))
      refine (same_any x y xa ya xc yc W2 hzx hzy L2.out M2.out).mono ?_
      rintro e w3 ⟨rfl, hb3⟩
      have B3 := hide (B2.out.trans (hb3.mono B2.out.size))
      clear hb3 B2 L2 M2 X2 Y2 N1 N2
      by_cases e : x = y
      · rw [samR_iff.2 e]
        have HN := hide (HYES.out e)
        clear e HYES HNO
        go_wp2_with fail
        exact ⟨⟨j + 1, by omega, by go_num, HN.out, B3.out⟩, by simp [intOf]; omega⟩
      · rw [samR_no e]
        have HF := hide (HNO.out e)
        clear e HYES HNO
        go_wp2_with fail
        try go_ret
        exact ⟨ret_bool HF.out, B3.out⟩
    · have hd : decide ((j : Int) < (n : Int)) = false := by simp; omega
      have HF : Hid (true = samL l k) := samL_yes (by rw [HL.out, HK.out]) fun i hi => HS.out i (by have := HL.out; omega)
      go_wp2_with fail
      try go_ret
      exact ⟨ret_bool HF.out, HB.out⟩
theorem rtake_any (l : List RT) (n : Nat) : ∀ x : RT, x ∈ l.take n → x ∈ l := fun x h => List.mem_of_mem_take h
set_option maxRecDepth 100000 in
set_option maxHeartbeats 4000000 in
theorem qbegins_any (a1 a2 : Option Addr) (c1 c2 n m : Nat) (l k : List RT) (w : World) (hl : l.length = n) (hk : k.length = m) (hc : m ≤ c2) (h63 : n ≤ 1000000) (h64 : m ≤ 1000000) (h1 : RecsAt w a1 l) (h2 : RecsAt w a2 k) (hz : ∀ x : RT, x ∈ l ∨ x ∈ k → x.1.ls.length ≤ 1000000) : Calls Try.prog 18 #[.slice a1 n c1, .slice a2 m c2] w fun e w' => e = .returned (.bool (begB l k)) ∧ Below w.heap.size w w' := by
  unfold begB
  rw [hl, hk]
  by_cases hnm : n ≤ m
  · have hd : decide ((n : Int) ≤ (m : Int)) = true := by simp; omega
    have hd2 : decide (n ≤ m) = true := by simpa using hnm
    have hd3 : (n : Int) ≤ (c2 : Int) := by omega
    have hd4 : (0 : Int) ≤ (n : Int) := by omega
    have HQ := hide (lists_any a1 a2 c1 c2 n n l (k.take n) w hl (by rw [List.length_take]; omega) h63 h63 h1 (h2.take n) fun x q => hz x (by rcases q with q | q; exact .inl q; exact .inr (rtake_any _ _ x q)))
    rw [hd2]
    generalize samL l (k.take n) = B at *
    clear hl hk h1 h2 hz
    go_enter Try.func18, Try.ntmps18
    go_wp2_with fail
    refine HQ.out.mono ?_
    rintro e w1 ⟨rfl, hb⟩
    have HB := hide hb
    clear hb
    go_wp2_with fail
    try go_ret
    exact ⟨rfl, HB.out⟩
  · have hd : decide ((n : Int) ≤ (m : Int)) = false := by simp; omega
    have hd2 : decide (n ≤ m) = false := by simpa using hnm
    rw [hd2]
    clear hl hk h1 h2 hz
    go_enter Try.func18, Try.ntmps18
    go_wp2_with fail
    try go_ret
    exact ⟨rfl, Below.refl _ _⟩
set_option maxRecDepth 100000 in
set_option maxHeartbeats 4000000 in
theorem pbegins_any (a1 a2 : Option Addr) (c1 c2 n m : Nat) (l k : List RT) (w : World) (hl : l.length = n) (hk : k.length = m) (hc : m ≤ c2) (h63 : n ≤ 1000000) (h64 : m ≤ 1000000) (h1 : RecsAt w a1 l) (h2 : RecsAt w a2 k) (hz : ∀ x : RT, x ∈ l ∨ x ∈ k → x.1.ls.length ≤ 1000000) : Calls Try.prog 16 #[.slice a1 n c1, .slice a2 m c2] w fun e w' => e = .returned (.bool (begB l k)) ∧ Below w.heap.size w w' := by
  unfold begB
  rw [hl, hk]
  by_cases hnm : n ≤ m
  · have hd : decide ((n : Int) ≤ (m : Int)) = true := by simp; omega
    have hd2 : decide (n ≤ m) = true := by simpa using hnm
    have hd3 : (n : Int) ≤ (c2 : Int) := by omega
    have hd4 : (0 : Int) ≤ (n : Int) := by omega
    have HQ := hide (eqf_any a1 a2 c1 c2 n n l (k.take n) w hl (by rw [List.length_take]; omega) h63 h63 h1 (h2.take n) fun x q => hz x (by rcases q with q | q; exact .inl q; exact .inr (rtake_any _ _ x q)))
    rw [hd2]
    generalize samL l (k.take n) = B at *
    clear hl hk h1 h2 hz
    go_enter Try.func16, Try.ntmps16
    go_wp2_with fail
    refine HQ.out.mono ?_
    rintro e w1 ⟨rfl, hb⟩
    have HB := hide hb
    clear hb
    go_wp2_with fail
    try go_ret
    exact ⟨rfl, HB.out⟩
  · have hd : decide ((n : Int) ≤ (m : Int)) = false := by simp; omega
    have hd2 : decide (n ≤ m) = false := by simpa using hnm
    rw [hd2]
    clear hl hk h1 h2 hz
    go_enter Try.func16, Try.ntmps16
    go_wp2_with fail
    try go_ret
    exact ⟨rfl, Below.refl _ _⟩
end Go.Proofs.Ytaiafbihcfbglaa
