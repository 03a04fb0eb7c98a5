/- ReplayLongest answers true at every input. -/
import Derived.Test.YtaiafbihcfbglaaRpLive
import Derived.Test.YtaiafbihcfbglaaRpCho
namespace Go.Proofs.Ytaiafbihcfbglaa
open Go.RowKit
set_option linter.unusedVariables false
set_option maxRecDepth 100000 in
set_option maxHeartbeats 8000000 in
theorem longest_many (a0 : Option Addr) (l0 c0 : Nat) (w : World) (hn : l0 ≤ 9223372036854775807) (h : 14 < l0) : Calls Try.prog 5 #[.slice a0 l0 c0] w fun e w' => e = .returned (.bool true) ∧ Below w.heap.size w w' := by
  have d1 : decide ((l0 : Int) > 14) = true := by simp; omega
  go_enter Try.func5, Try.ntmps5
  go_wp2_with fail
  refine (live12_any w).mono ?_
  rintro e wl ⟨rfl, hbl⟩
  go_wp2_with fail
  try go_ret
  exact ⟨rfl, hbl⟩
set_option maxRecDepth 100000 in
set_option maxHeartbeats 8000000 in
theorem longest_none (a0 : Option Addr) (c0 : Nat) (w : World) (hS : LogsAt w a0 []) : Calls Try.prog 5 #[.slice a0 0 c0] w fun e w' => e = .returned (.bool true) ∧ Below w.heap.size w w' := by
  have HC : Hid (Calls Try.prog 22 #[.slice a0 0 c0] w (CxP [] (-1) w)) := cx_any a0 c0 0 [] w rfl (by omega) hS (fun g hg => by simp at hg)
  go_enter Try.func5, Try.ntmps5
  go_wp2_with fail
  refine HC.out.mono ?_
  rintro e w1 ⟨p, n, k, rfl, hr, hb⟩
  have B1 := hide hb
  clear hb hr
  go_wp2_with fail
  go_loopw [5] (fun y wr => y = .int .i64 0 ∧ wr = w1) (fun y _ => 0)
  case atStart => exact ⟨rfl, rfl⟩
  case round =>
    obtain ⟨rfl, rfl⟩ := hrel
    go_wp2_with fail
    refine (live12_any wr).mono ?_
    rintro e wl ⟨rfl, hbl⟩
    go_wp2_with fail
    try go_ret
    exact ⟨rfl, B1.out.trans (hbl.mono B1.out.size)⟩
set_option maxRecDepth 100000 in
set_option maxHeartbeats 8000000 in
theorem longest_some (a0 : Option Addr) (l0 c0 : Nat) (w : World) (gs : List LG) (hl : gs.length = l0) (hn : l0 ≤ 14) (hS : LogsAt w a0 gs) (hsz : ∀ g ∈ gs, g.ss.length ≤ 9223372036854775807 ∧ ∀ s ∈ g.ss, s.size ≤ 150000000000000)
    (A : Nat) (Y : List Rc) (hA : A < l0) (hC : Calls Try.prog 22 #[.slice a0 l0 c0] w (CxP Y (A : Int) w))
    (hY : ∀ (i : Nat) (g : LG), gs[i]? = some g → (prefR g.ss).length ≤ Y.length ∧ (i < A → (prefR g.ss).length < Y.length) ∧ (i = A → prefR g.ss = Y)) :
    Calls Try.prog 5 #[.slice a0 l0 c0] w fun e w' => e = .returned (.bool true) ∧ Below w.heap.size w w' := by
  have HL := hide hl
  have HS := hide hS
  have HZ := hide hsz
  have HC := hide hC
  have HY := hide hY
  clear hl hS hsz hC hY
  have d1 : decide ((l0 : Int) > 14) = false := by simp; omega
  have d2 : decide ((A : Int) < 0) = false := by simp
  have d3 : ((l0 : Int) == 0) = false := by simp; omega
  have d4 : decide ((A : Int) ≥ (l0 : Int)) = false := by simp; omega
  have d5 : decide ((A : Int) < -1) = false := by simp <;> omega
  have d6 : ¬ (l0 : Int) ≤ (A : Int) := by omega
  have d7 : ¬ (A : Int) < -1 := by omega
  have d8 : ¬ l0 = 0 := by omega
  have d9 : decide (l0 ≤ A) = false := by simp; omega
  go_enter Try.func5, Try.ntmps5
  go_wp2_with fail
  refine HC.out.mono ?_
  rintro e w1 ⟨p, n, c, rfl, hr, hb⟩
  have B1 := hide hb
  have R1 := hide hr
  clear hb hr HC
  go_wp2_with fail
  clear d1 d2 d3 d4 d5 d6 d7 d8 d9
  go_loopw [5] (fun y wr => ∃ k : Nat, k ≤ l0 ∧ y = .int .i64 k ∧ RowP Y wr p n c ∧ Below w.heap.size w wr) (fun y _ => l0 - (intOf y).toNat)
  case atStart => exact ⟨0, by omega, rfl, R1.out, B1.out⟩
  case round =>
    obtain ⟨k, hk, rfl, hr, hb⟩ := hrel
    have B2 := hide hb
    have R2 := hide hr
    clear hb hr B1 R1
    by_cases hlt : k < l0
    · have hd : decide ((k : Int) < (l0 : Int)) = true := by simp; omega
      have hdi : (k : Int) < (l0 : Int) := by omega
      have hd0 : (0 : Int) ≤ (k : Int) := by omega
      obtain ⟨g, hg⟩ : ∃ x, gs[k]? = some x := ⟨_, List.getElem?_eq_getElem (by have := HL.out; omega)⟩
      obtain ⟨b1, o1, rfl, hb1, e1, hst⟩ := (HS.out.below B2.out).nth hg
      obtain ⟨z1, z2⟩ := HZ.out g (List.mem_of_getElem? hg)
      obtain ⟨y1, y2, y3⟩ := HY.out k g hg
      have HST := hide hst
      have HZ2 := hide z2
      have Y1 := hide y1
      have Y2 := hide y2
      have Y3 := hide y3
      clear hg hst z2 y1 y2 y3
      obtain ⟨ga, gc, gss⟩ := g
      simp only at e1 HST z1 HZ2 Y1 Y2 Y3
      obtain ⟨gn, hgn⟩ : ∃ gn, gss.length = gn := ⟨_, rfl⟩
      have HGN := hide hgn
      rw [hgn] at e1 z1
      clear hgn
      have XS := hide (small_wide ga gn gc 20 300 gss wr HGN.out z1 HST.out)
      cases hsm : smallB gss 20 300
      · rw [hsm] at XS
        clear hsm
        go_wp2_with fail
        refine XS.out.mono ?_
        rintro e _ ⟨rfl, rfl⟩
        go_wp2_with fail
        refine (live12_any wr).mono ?_
        rintro e wl ⟨rfl, hbl⟩
        go_wp2_with fail
        try go_ret
        exact ⟨rfl, B2.out.trans (hbl.mono B2.out.size)⟩
      rw [hsm] at XS
      clear hsm
      have XP : Hid (Calls Try.prog 12 #[.slice ga gn gc] wr (PxP (prefR gss) wr)) := px_any ga gn gc gss wr HGN.out z1 HST.out HZ2.out
      clear HZ2 HST
      generalize prefR gss = Q at *
      go_wp2_with fail
      refine XS.out.mono ?_
      rintro e _ ⟨rfl, rfl⟩
      go_wp2_with fail
      refine XP.out.mono ?_
      rintro e w3 ⟨p2, n2, c2, rfl, hr, hb⟩
      have B3 := hide (B2.out.trans (hb.mono B2.out.size))
      have R3 := hide (R2.out.below hb)
      have Q3 := hide hr
      have hle : n2 ≤ n := by have := Y1.out; have := Q3.out.len; have := R3.out.len; omega
      have HLT : Hid (k < A → n2 < n) := fun q => by have := Y2.out q; have := Q3.out.len; have := R3.out.len; omega
      clear hb hr R2 B2 XS XP Y1 Y2
      have g1 : decide ((n2 : Int) > (n : Int)) = false := by simp; omega
      have g2 : ¬ (n : Int) < (n2 : Int) := by omega
      rcases Nat.lt_trichotomy k A with hka | hka | hka
      · have g3 : decide ((k : Int) < (A : Int)) = true := by simp; omega
        have g4 := HLT.out hka
        have g5 : ((n2 : Int) == (n : Int)) = false := by simp; omega
        have g6 : ((k : Int) == (A : Int)) = false := by simp; omega
        go_wp2_with fail
        go_roundw
        case rel => exact ⟨k + 1, by omega, by go_num, R3.out, B3.out⟩
        case measure => simp [intOf]; omega
      · have g3 : decide ((k : Int) < (A : Int)) = false := by simp; omega
        have g6 : ((k : Int) == (A : Int)) = true := by simp; omega
        have HQ := hide (Y3.out hka)
        go_wp2_with fail
        refine (pb_any Q3.out R3.out).mono ?_
        rintro e w4 ⟨he, hb⟩
        rw [HQ.out, begR_refl] at he; subst he
        have B4 := hide (B3.out.trans (hb.mono B3.out.size))
        have R4 := hide (R3.out.below hb)
        have Q4 := hide (Q3.out.below hb)
        clear hb B3 R3 Q3
        go_wp2_with fail
        refine (pb_any R4.out Q4.out).mono ?_
        rintro e w5 ⟨he, hb⟩
        rw [HQ.out, begR_refl] at he; subst he
        have B5 := hide (B4.out.trans (hb.mono B4.out.size))
        have R5 := hide (R4.out.below hb)
        clear hb B4 R4 Q4
        go_wp2_with fail
        go_roundw
        case rel => exact ⟨k + 1, by omega, by go_num, R5.out, B5.out⟩
        case measure => simp [intOf]; omega
      · have g3 : decide ((k : Int) < (A : Int)) = false := by simp; omega
        have g6 : ((k : Int) == (A : Int)) = false := by simp; omega
        go_wp2_with fail
        go_roundw
        case rel => exact ⟨k + 1, by omega, by go_num, R3.out, B3.out⟩
        case measure => simp [intOf]; omega
    · have hd : decide ((k : Int) < (l0 : Int)) = false := by simp; omega
      have hdi : ¬ (k : Int) < (l0 : Int) := by omega
      go_wp2_with fail
      refine (live12_any wr).mono ?_
      rintro e wl ⟨rfl, hbl⟩
      go_wp2_with fail
      try go_ret
      exact ⟨rfl, B2.out.trans (hbl.mono B2.out.size)⟩
theorem walkReplayLongest (a0 : Option Addr) (l0 c0 : Nat) (w : World) (h0 : CameSz 46 w a0 l0 c0) : Calls Try.prog 5 #[.slice a0 l0 c0] w fun e w' => e = .returned (.bool true) ∧ Below w.heap.size w w' := by
  obtain ⟨gs, hl, hn, hS, hsz⟩ := came_logs h0
  by_cases h14 : 14 < l0
  · exact longest_many a0 l0 c0 w hn h14
  have hcx := cx_any a0 c0 l0 gs w hl hn hS hsz
  rcases cho_spec (lgS gs) gs.length with ⟨h1, _⟩ | ⟨_, A, h1, h2, h3, h4, h5⟩
  · have e0 : l0 = 0 := by omega
    subst e0
    obtain rfl : gs = [] := List.length_eq_zero_iff.1 hl
    exact longest_none a0 c0 w hS
  · rw [h2] at hcx
    refine longest_some a0 l0 c0 w gs hl (by omega) hS hsz A _ (by omega) hcx fun i g hg => ?_
    have e := lgS_at hg
    have hi : i < gs.length := (List.getElem?_eq_some_iff.1 hg).1
    have q4 := h4 i hi
    rw [e] at q4
    refine ⟨q4, fun q => ?_, fun q => ?_⟩
    · have q5 := h5 i q
      rw [e] at q5
      exact q5
    · rw [h3, ← q, e]
end Go.Proofs.Ytaiafbihcfbglaa
