/- What the document's check, Read, Waits, Live, Ints, place and half answer. -/
import Derived.Test.YtnpioaidbmllkaaRfMem
namespace Go.Proofs.Ytnpioaidbmllkaa
open Go.RowKit
set_option linter.unusedVariables false
set_option maxRecDepth 100000 in
set_option maxHeartbeats 2000000 in
theorem rCheck_any (rb : Nat) (v : Value) (R : Nat → Rk) (C : Nat → Ct) (d n : Int) (s : ByteArray) (w : World) (h : RB w rb v 12 R) (hC : ContR R C) (hs : s.size ≤ 9223372036854775807) :
    Calls Try.prog 34 #[.pointer (some ⟨rb, 0, none⟩), .int .i64 d, .int .i64 n, .string s] w fun e w' => e = .returned (.int .i64 (eTakeC C d n s : Nat)) ∧ w = w' := by
  by_cases hd : d < 0 ∨ 11 < d
  · have HE : Hid (eTakeC C d n s = 1) := by
      have h1 : eLiveC C d = 1 := by unfold eLiveC; rw [if_pos hd]
      have h2 : eHaveC C d n = 1 := by unfold eHaveC; rw [h1, if_pos (by decide)]
      show eTakeC C d n s = 1
      unfold eTakeC; rw [h2, if_pos (by decide)]
    rw [HE.out]
    clear h hC
    have key : d < 0 ∨ (¬ d < 0 ∧ 11 < d) := by omega
    clear hd
    rcases key with h0 | ⟨h0, h1⟩
    all_goals
      go_enter Try.func34, Try.ntmps34
      go_wp2_with fail
      try go_ret
      exact ⟨rfl, rfl⟩
  · obtain ⟨k, rfl⟩ : ∃ k : Nat, d = (k : Int) := ⟨d.toNat, by omega⟩
    have hk : k < 12 := by omega
    obtain ⟨gd, cap, rfl, hc12, hcm, cB, cP, -⟩ := h.at hk
    have cL := (h.dk k hk).c2
    have g0 : ¬ (k : Int) < 0 := by omega
    have g1 : ¬ 11 < (k : Int) := by omega
    have g2 : (k : Int) < 12 := by omega
    have g3 : (0 : Int) ≤ (k : Int) := by omega
    rw [hC k hk] at cL
    generalize (R k).p = pp at *
    clear h
    cases hl : (C k).lost
    · rw [hl] at cL
      have h1 : eLiveC C (k : Int) = 0 := by unfold eLiveC; rw [if_neg (by omega), Int.toNat_natCast, hl]; rfl
      by_cases hn : n < 0 ∨ 111 < n
      · have HE : Hid (eTakeC C k n s = 1) := by
          have h2 : eHaveC C k n = 1 := by unfold eHaveC; rw [h1, if_neg (by decide), if_pos hn]
          show eTakeC C k n s = 1
          unfold eTakeC; rw [h2, if_pos (by decide)]
        rw [HE.out]
        clear hC h1 hl
        have key : n < 0 ∨ (¬ n < 0 ∧ 111 < n) := by omega
        clear hn
        rcases key with h0 | ⟨h0, h1⟩
        all_goals
          go_enter Try.func34, Try.ntmps34
          go_wp2_with fail
          try go_ret
          exact ⟨rfl, rfl⟩
      · have h2 : eHaveC C k n = 0 := by unfold eHaveC; rw [h1, if_neg (by decide), if_neg hn]
        have n0 : ¬ n < 0 := by omega
        have n1 : ¬ 111 < n := by omega
        by_cases hb : 200 < s.size
        · have HE : Hid (eTakeC C k n s = 12) := by show eTakeC C k n s = 12; unfold eTakeC; rw [h2, if_neg (by decide), if_pos hb]
          rw [HE.out]
          clear hC h1 hl h2 hn
          go_enter Try.func34, Try.ntmps34
          go_wp2_with fail
          try go_ret
          exact ⟨rfl, rfl⟩
        · have HE : Hid (eTakeC C k n s = 0) := by show eTakeC C k n s = 0; unfold eTakeC; rw [h2, if_neg (by decide), if_neg hb]
          rw [HE.out]
          clear hC h1 hl h2 hn
          go_enter Try.func34, Try.ntmps34
          go_wp2_with fail
          try go_ret
          exact ⟨rfl, rfl⟩
    · rw [hl] at cL
      have HE : Hid (eTakeC C k n s = 6) := by
        have h1 : eLiveC C (k : Int) = 6 := by unfold eLiveC; rw [if_neg (by omega), Int.toNat_natCast, hl]; rfl
        have h2 : eHaveC C k n = 6 := by unfold eHaveC; rw [h1, if_pos (by decide)]
        show eTakeC C k n s = 6
        unfold eTakeC; rw [h2, if_pos (by decide)]
      rw [HE.out]
      clear hC hl
      go_enter Try.func34, Try.ntmps34
      go_wp2_with fail
      try go_ret
      exact ⟨rfl, rfl⟩
theorem take_have (C : Nat → Ct) (d n : Int) : eTakeC C d n ⟨#[]⟩ = eHaveC C d n := by
  unfold eTakeC
  by_cases h : eHaveC C d n = 0
  · rw [h, if_neg (by decide)]; rfl
  · rw [if_pos h]
theorem take_live (C : Nat → Ct) (d : Int) : eTakeC C d 0 ⟨#[]⟩ = eLiveC C d := by
  rw [take_have]
  unfold eHaveC
  by_cases h : eLiveC C d = 0
  · rw [h, if_neg (by decide)]; rfl
  · rw [if_pos h]
theorem rrow_at {w : World} {base : Nat} {v : Value} {L i : Nat} {ws : List (Nat × ByteArray)} (hr : w.ownsRow base 69 2 v L (wtV ws)) {x : Nat × ByteArray} (hx : ws[i]? = some x) : ∃ g c, v = .slice (some ⟨g, 0, none⟩) L c ∧ L ≤ c ∧ c ≤ 9223372036854775807 ∧ g < w.heap.size ∧ w.cell? ⟨g, i * 2, none⟩ = some (.int .i64 (x.1 : Int)) ∧ w.cell? ⟨g, i * 2 + 1, none⟩ = some (.string x.2) := by
  have hi : i < ws.length := (List.getElem?_eq_some_iff.1 hx).1
  obtain ⟨hl, ⟨h1, h2⟩ | ⟨g, cap, cur, hv, hb, hg, hc, hm, hz, ht⟩⟩ := hr
  · rw [wtV_len] at hl; omega
  · rw [wtV_len] at hl
    have hcell : ∀ p, p < L * 2 → w.cell? ⟨g, p, none⟩ = (wtV ws)[p]? := fun p hp => by
      rw [cell_of_block hg, ← ht, List.getElem?_take, if_pos hp, Array.getElem?_toList]
    have hw := wtV_at hx
    refine ⟨g, cap, hv, hc, hm, lt_of_block hg, ?_, ?_⟩
    · rw [hcell _ (by omega), show i * 2 = 2 * i by omega, hw.1]
    · rw [hcell _ (by omega), show i * 2 + 1 = 2 * i + 1 by omega, hw.2]
theorem secW_take {f : Nat → ByteArray} {ws : List (Nat × ByteArray)} {i n : Nat} {x : Nat × ByteArray} (hx : ws[i]? = some x) : secW f (ws.take (i + 1)) n = if x.1 = n then x.2 else secW f (ws.take i) n := by
  rw [List.take_add_one, hx, secW_app]
  show (if n = x.1 then x.2 else secW f (ws.take i) n) = _
  by_cases c : x.1 = n
  · rw [if_pos c, if_pos c.symm]
  · rw [if_neg c, if_neg fun e => c e.symm]
set_option maxRecDepth 100000 in
set_option maxHeartbeats 2000000 in
theorem rRead_any (rb : Nat) (v : Value) (R : Nat → Rk) (C : Nat → Ct) (d n : Int) (w : World) (h : RB w rb v 12 R) (hC : ContR R C) :
    Calls Try.prog 16 #[.pointer (some ⟨rb, 0, none⟩), .int .i64 d, .int .i64 n] w fun e w' => e = .returned (.tuple #[.string (rdC C d n), .int .i64 (eHaveC C d n : Nat)]) ∧ w = w' := by
  have HK := hide (rCheck_any rb v R C d n ⟨#[]⟩ w h hC (by decide))
  rw [take_have] at HK
  by_cases hz : eHaveC C d n = 0
  · obtain ⟨h3, h6, h7⟩ := have_in hz
    obtain ⟨h4, h5, hl⟩ := live_in h3
    obtain ⟨k, rfl⟩ : ∃ k : Nat, d = (k : Int) := ⟨d.toNat, by omega⟩
    obtain ⟨m, rfl⟩ : ∃ m : Nat, n = (m : Int) := ⟨n.toNat, by omega⟩
    have hk : k < 12 := by omega
    have hm : m < 112 := by omega
    have HRD : Hid (rdC C k m = secW (C k).sec (C k).ws m) := by show rdC C k m = _; unfold rdC; rw [if_pos hz, Int.toNat_natCast, Int.toNat_natCast]
    rw [HRD.out]
    obtain ⟨gd, cap, rfl, hc12, hcm, cB, cP, -⟩ := h.at hk
    have hdk := h.dk k hk
    have c0 := hdk.c0
    have c1 := hdk.c1
    have cS := hdk.cs hm
    have HROW := hide hdk.row
    have hCk := hC k hk
    rw [hCk] at cS
    have HW : Hid ((R k).ct.ws = (C k).ws) := by show (R k).ct.ws = _; rw [hCk]
    rw [HW.out] at HROW
    obtain ⟨a9, c9, hv9⟩ := row_form HROW.out
    rw [hv9] at c1 HROW
    have hL63 := row_max HROW.out
    generalize hws : (C k).ws = ws at *
    generalize hL : ws.length = L at *
    have HL := hide hL
    generalize (R k).p = pp at *
    generalize (R k).g = gg at *
    rw [hz] at HK ⊢
    have g2 : (k : Int) < 12 := by omega
    have g3 : (0 : Int) ≤ (k : Int) := by omega
    have g4 : (m : Int) < 112 := by omega
    have g5 : (0 : Int) ≤ (m : Int) := by omega
    clear h hC h3 h6 h7 h4 h5 hl hz hdk hCk hL hws HW hv9 HRD
    go_enter Try.func16, Try.ntmps16
    go_wp2_with fail
    refine HK.out.mono ?_
    rintro e w1 ⟨rfl, rfl⟩
    go_wp2_with fail
    go_loop [9, 10] (fun s y => ∃ i : Nat, i ≤ L ∧ y = .int .i64 i ∧ s = .string (secW (C k).sec (ws.take i) m)) (fun _ y => L - (intOf y).toNat)
    case atStart => exact ⟨0, by omega, rfl, rfl⟩
    case round =>
      obtain ⟨i, hi, rfl, rfl⟩ := hrel
      by_cases hlt : i < L
      · obtain ⟨x, hx⟩ : ∃ x, ws[i]? = some x := ⟨_, List.getElem?_eq_getElem (by have := HL.out; omega)⟩
        obtain ⟨g, cc, hv, hlc, hcm2, hgl, hr1, hr2⟩ := rrow_at HROW.out hx
        cases hv
        have HN := hide (secW_take (f := (C k).sec) (n := m) hx)
        obtain ⟨xn, xs⟩ := x
        have hd1 : decide ((i : Int) < (L : Int)) = true := by simp; omega
        have hdi : (i : Int) < (L : Int) := by omega
        have hni : (0 : Int) ≤ (i : Int) := by omega
        clear hx hlc hgl
        by_cases he : xn = m
        · have hq : ((xn : Int) == (m : Int)) = true := by rw [beq_iff_eq]; omega
          have HN2 : Hid (secW (C k).sec (ws.take (i + 1)) m = xs) := by show secW _ _ _ = _; rw [HN.out, if_pos he]
          go_wp2_with fail
          exact ⟨⟨i + 1, by omega, by go_num, by rw [HN2.out]⟩, by simp [intOf]; omega⟩
        · have hq : ((xn : Int) == (m : Int)) = false := by rw [beq_eq_false_iff_ne]; omega
          have HN2 : Hid (secW (C k).sec (ws.take (i + 1)) m = secW (C k).sec (ws.take i) m) := by show secW _ _ _ = _; rw [HN.out, if_neg he]
          go_wp2_with fail
          exact ⟨⟨i + 1, by omega, by go_num, by rw [HN2.out]⟩, by simp [intOf]; omega⟩
      · have hd1 : decide ((i : Int) < (L : Int)) = false := by simp; omega
        have HE : Hid (ws.take i = ws) := List.take_of_length_le (by have := HL.out; omega)
        rw [HE.out]
        go_wp2_with fail
        try go_ret2
        exact ⟨rfl, rfl⟩
  · have HRD : Hid (rdC C d n = ⟨#[]⟩) := by show rdC C d n = _; unfold rdC; rw [if_neg hz]; rfl
    rw [HRD.out]
    clear h hC
    generalize eHaveC C d n = E at *
    have hq : ((E : Int) != 0) = true := by simp; omega
    go_enter Try.func16, Try.ntmps16
    go_wp2_with fail
    refine HK.out.mono ?_
    rintro e w1 ⟨rfl, rfl⟩
    go_wp2_with fail
    try go_ret2
    exact ⟨rfl, rfl⟩
/-- nothing waits where a disk is lost -/
def Tidy (C : Nat → Ct) : Prop := ∀ e, e < 12 → (C e).lost = true → (C e).ws = []
set_option maxRecDepth 100000 in
set_option maxHeartbeats 2000000 in
theorem rWaits_any (rb : Nat) (v : Value) (R : Nat → Rk) (C : Nat → Ct) (d : Int) (w : World) (h : RB w rb v 12 R) (hC : ContR R C) (hT : Tidy C) :
    Calls Try.prog 18 #[.pointer (some ⟨rb, 0, none⟩), .int .i64 d] w fun e w' => e = .returned (.int .i64 (wtC C d : Nat)) ∧ w = w' := by
  by_cases hd : d < 0 ∨ 11 < d
  · have HE : Hid (wtC C d = 0) := by
      have h1 : eLiveC C d = 1 := by unfold eLiveC; rw [if_pos hd]
      show wtC C d = 0
      unfold wtC; rw [h1]; rfl
    rw [HE.out]
    clear h hC hT
    have key : d < 0 ∨ (¬ d < 0 ∧ 11 < d) := by omega
    clear hd
    rcases key with h0 | ⟨h0, h1⟩
    all_goals
      go_enter Try.func18, Try.ntmps18
      go_wp2_with fail
      try go_ret
      exact ⟨rfl, rfl⟩
  · obtain ⟨k, rfl⟩ : ∃ k : Nat, d = (k : Int) := ⟨d.toNat, by omega⟩
    have hk : k < 12 := by omega
    have HE : Hid (wtC C k = (C k).ws.length) := by
      show wtC C k = _
      have h1 : eLiveC C (k : Int) = if (C k).lost then 6 else 0 := by unfold eLiveC; rw [if_neg (by omega), Int.toNat_natCast]
      unfold wtC
      rw [h1, Int.toNat_natCast]
      cases hl : (C k).lost
      · rfl
      · rw [hT k hk hl]; rfl
    obtain ⟨gd, cap, rfl, hc12, hcm, cB, cP, -⟩ := h.at hk
    have c1 := (h.dk k hk).c1
    obtain ⟨a9, c9, hv9⟩ := row_form (h.dk k hk).row
    rw [hv9, hC k hk] at c1
    rw [HE.out]
    generalize (C k).ws.length = L at *
    generalize (R k).p = pp at *
    have g0 : ¬ (k : Int) < 0 := by omega
    have g1 : ¬ 11 < (k : Int) := by omega
    have g2 : (k : Int) < 12 := by omega
    have g3 : (0 : Int) ≤ (k : Int) := by omega
    clear h hC hT hd hv9 HE
    go_enter Try.func18, Try.ntmps18
    go_wp2_with fail
    try go_ret
    exact ⟨rfl, rfl⟩
set_option maxRecDepth 100000 in
set_option maxHeartbeats 2000000 in
theorem rPlace_any (a : Option Addr) (n cap p : Nat) (l : List Bool) (w : World) (hl : l.length = n) (h : BoolsAt w a l) : Calls Try.prog 45 #[.slice a n cap, .int .i64 (p : Int)] w fun e w' => e = .returned (.bool (at_ l p)) ∧ w = w' := by
  by_cases hp : p < n
  · obtain ⟨x, hx⟩ : ∃ x, l[p]? = some x := ⟨_, List.getElem?_eq_getElem (by omega)⟩
    rcases h with h | ⟨b, o, rfl, hb, hc⟩
    · rw [h] at hx; simp at hx
    have hck := hc p x hx
    have HX : Hid (at_ l p = x) := by unfold at_; rw [hx]; exact rfl
    have hd : decide ((p : Int) < (n : Int)) = true := by simp; omega
    have hdi : (p : Int) < (n : Int) := by omega
    have hni : (0 : Int) ≤ (p : Int) := by omega
    clear hc hx hl
    rw [HX.out]
    go_enter Try.func45, Try.ntmps45
    go_wp2_with fail
    try go_ret
    exact ⟨rfl, rfl⟩
  · have HX : Hid (at_ l p = false) := by unfold at_; rw [List.getElem?_eq_none (by omega)]; exact rfl
    have hd : decide ((p : Int) < (n : Int)) = false := by simp; omega
    clear h hl
    rw [HX.out]
    go_enter Try.func45, Try.ntmps45
    go_wp2_with fail
    try go_ret
    exact ⟨rfl, rfl⟩
set_option maxRecDepth 100000 in
set_option maxHeartbeats 2000000 in
theorem rHalf_any (s : ByteArray) (w : World) (hs : s.size ≤ 1000000) : Calls Try.prog 46 #[.string s] w fun e w' => e = .returned (.string (halfS s)) ∧ w = w' := by
  obtain ⟨m, hm⟩ : ∃ m, m = s.size / 2 := ⟨_, rfl⟩
  have hq1 : Int.tdiv (s.size : Int) 2 = (m : Int) := by rw [Int.tdiv_eq_ediv_of_nonneg (by omega)]; omega
  have hq2 : (s.size : Int) / 2 = (m : Int) := by omega
  have hq3 : IntKind.i64.wrap (m : Int) = (m : Int) := by rw [IntKind.wrap_i64]; omega
  have hml : m ≤ s.size := by omega
  have hmi : (m : Int) ≤ (s.size : Int) := by omega
  have HM : Hid (halfS s = s.extract 0 m) := by unfold halfS; rw [hm]; exact rfl
  rw [HM.out]
  clear hm
  go_enter Try.func46, Try.ntmps46
  go_wp2_with fail
  try go_ret
  exact ⟨rfl, rfl⟩
end Go.Proofs.Ytnpioaidbmllkaa
