/- ReplayChooses answers true at every input. -/
import Derived.Test.YtaiafbihcfbglaaRpLive
import Derived.Test.YtaiafbihcfbglaaRpCho
import Derived.Test.YtaiafbihcfbglaaRpRefs
import Derived.Test.YtaiafbihcfbglaaRpRefCho
namespace Go.Proofs.Ytaiafbihcfbglaa
open Go.RowKit
set_option linter.unusedVariables false
theorem qcx_any (a : Option Addr) (c n : Nat) (gs : List LG) (w : World) (hl : gs.length = n) (hn : n ≤ 9223372036854775807) (h : LogsAt w a gs) (hsz : ∀ g ∈ gs, g.ss.length ≤ 100000 ∧ ∀ s ∈ g.ss, s.size ≤ 100000) : Calls Try.prog 23 #[.slice a n c] w (CxP (choR (lgS gs) gs.length).1 (choR (lgS gs) gs.length).2 w) :=
  (qchoose_any a c n gs w hl hn h hsz).mono fun e w' q => cx_of (fun g hg s hs => by have := (hsz g hg).2 s hs; omega) q
set_option maxRecDepth 100000 in
set_option maxHeartbeats 8000000 in
theorem chooses_many (a0 : Option Addr) (l0 c0 : Nat) (w : World) (hn : l0 ≤ 9223372036854775807) (h : 14 < l0) : Calls Try.prog 4 #[.slice a0 l0 c0] w fun e w' => e = .returned (.bool true) ∧ Below w.heap.size w w' := by
  have d1 : decide ((l0 : Int) > 14) = true := by simp; omega
  go_enter Try.func4, Try.ntmps4
  go_wp2_with fail
  refine (live12_any w).mono ?_
  rintro e wl ⟨rfl, hbl⟩
  go_wp2_with fail
  try go_ret
  exact ⟨rfl, hbl⟩
set_option maxRecDepth 100000 in
set_option maxHeartbeats 8000000 in
theorem chooses_some (a0 : Option Addr) (l0 c0 : Nat) (w : World) (gs : List LG) (hl : gs.length = l0) (hn : l0 ≤ 14) (hS : LogsAt w a0 gs) (hsz : ∀ g ∈ gs, g.ss.length ≤ 9223372036854775807) :
    Calls Try.prog 4 #[.slice a0 l0 c0] w fun e w' => e = .returned (.bool true) ∧ Below w.heap.size w w' := by
  have HL := hide hl
  have HS := hide hS
  have HZ := hide hsz
  clear hl hS hsz
  have d1 : decide ((l0 : Int) > 14) = false := by simp; omega
  go_enter Try.func4, Try.ntmps4
  go_wp2_with fail
  clear d1
  go_loopw [3] (fun y wr => ∃ k : Nat, k ≤ l0 ∧ y = .int .i64 k ∧ wr = w ∧ ∀ (i : Nat) (g : LG), i < k → gs[i]? = some g → smallB g.ss 20 300 = true) (fun y _ => l0 - (intOf y).toNat)
  case atStart => exact ⟨0, by omega, rfl, rfl, fun i g hi => by omega⟩
  case round =>
    obtain ⟨k, hk, rfl, rfl, hal⟩ := hrel
    have HA := hide hal
    clear hal
    by_cases hlt : k < l0
    · have hd : decide ((k : Int) < (l0 : Int)) = true := by simp; omega
      have hdi : (k : Int) < (l0 : Int) := by omega
      have hd0 : (0 : Int) ≤ (k : Int) := by omega
      obtain ⟨g, hg⟩ : ∃ x, gs[k]? = some x := ⟨_, List.getElem?_eq_getElem (by have := HL.out; omega)⟩
      obtain ⟨b1, o1, rfl, hb1, e1, hst⟩ := HS.out.nth hg
      have z1 := HZ.out g (List.mem_of_getElem? hg)
      have XS := hide (small_wide g.a g.ss.length g.c 20 300 g.ss wr rfl z1 hst)
      have HNX : Hid (smallB g.ss 20 300 = true → ∀ (i : Nat) (h : LG), i < k + 1 → gs[i]? = some h → smallB h.ss 20 300 = true) := fun q i h hi hh => by
        by_cases e : i = k
        · subst e; rw [hg] at hh; cases hh; exact q
        · exact HA.out i h (by omega) hh
      clear hg hst
      generalize g.ss.length = gn at *
      cases hsm : smallB g.ss 20 300
      · rw [hsm] at XS
        clear hsm HNX
        go_wp2_with fail
        refine XS.out.mono ?_
        rintro e _ ⟨rfl, rfl⟩
        go_wp2_with fail
        refine (live12_any wr).mono ?_
        rintro e wl ⟨rfl, hbl⟩
        go_wp2_with fail
        try go_ret
        exact ⟨rfl, hbl⟩
      · have HN := hide (HNX.out hsm)
        rw [hsm] at XS
        clear hsm HNX
        go_wp2_with fail
        refine XS.out.mono ?_
        rintro e _ ⟨rfl, rfl⟩
        go_wp2_with fail
        go_roundw
        case rel => exact ⟨k + 1, by omega, by go_num, trivial, HN.out⟩
        case measure => simp [intOf]; omega
    · have hd : decide ((k : Int) < (l0 : Int)) = false := by simp; omega
      have hdi : ¬ (k : Int) < (l0 : Int) := by omega
      have hsm : ∀ g ∈ gs, smallB g.ss 20 300 = true := fun g hg => by
        obtain ⟨i, hi⟩ := List.getElem?_of_mem hg
        exact HA.out i g (by have := (List.getElem?_eq_some_iff.1 hi).1; have := HL.out; omega) hi
      have XA := hide (cx_any a0 c0 l0 gs wr HL.out (by omega) HS.out fun g hg => ⟨HZ.out g hg, small_of (hsm g hg)⟩)
      have XB : Hid (∀ w', Below wr.heap.size wr w' → Calls Try.prog 23 #[.slice a0 l0 c0] w' (CxP (choR (lgS gs) gs.length).1 (choR (lgS gs) gs.length).2 w')) := fun w' hb => qcx_any a0 c0 l0 gs w' HL.out (by omega) (HS.out.below hb) fun g hg => by
        have h1 := small_iff.1 (hsm g hg)
        refine ⟨by have := h1.2; omega, fun s hs => by have := h1.1 s hs; omega⟩
      clear hsm HA HS HZ HL
      generalize (choR (lgS gs) gs.length).1 = Y at *
      generalize (choR (lgS gs) gs.length).2 = X at *
      go_wp2_with fail
      refine XA.out.mono ?_
      rintro e w1 ⟨p, n, c, rfl, hr, hb⟩
      have B1 := hide hb
      have R1 := hide hr
      clear hb hr XA
      go_wp2_with fail
      refine (XB.out w1 B1.out).mono ?_
      rintro e w2 ⟨p2, n2, c2, rfl, hr, hb⟩
      have B2 := hide (B1.out.trans (hb.mono B1.out.size))
      have R2 := hide (R1.out.below hb)
      have Q2 := hide hr
      clear hb hr R1 B1 XB
      go_wp2_with fail
      refine (tx_any R2.out).mono ?_
      rintro e w3 ⟨p3, c3, rfl, hr, hb⟩
      have B3 := hide (B2.out.trans (hb.mono B2.out.size))
      have T3 := hide hr
      have Q3 := hide (Q2.out.below hb)
      clear hb hr R2 B2 Q2
      go_wp2_with fail
      refine (lx_any T3.out Q3.out).mono ?_
      rintro e w4 ⟨rfl, hb⟩
      have B4 := hide (B3.out.trans (hb.mono B3.out.size))
      clear hb B3 T3 Q3
      go_wp2_with fail
      refine (live12_any w4).mono ?_
      rintro e wl ⟨rfl, hbl⟩
      go_wp2_with fail
      try go_ret
      exact ⟨rfl, B4.out.trans (hbl.mono B4.out.size)⟩
theorem walkReplayChooses (a0 : Option Addr) (l0 c0 : Nat) (w : World) (h0 : CameSz 46 w a0 l0 c0) : Calls Try.prog 4 #[.slice a0 l0 c0] w fun e w' => e = .returned (.bool true) ∧ Below w.heap.size w w' := by
  obtain ⟨gs, hl, hn, hS, hsz⟩ := came_logs h0
  by_cases h14 : 14 < l0
  · exact chooses_many a0 l0 c0 w hn h14
  · exact chooses_some a0 l0 c0 w gs hl (by omega) hS fun g hg => (hsz g hg).1
end Go.Proofs.Ytaiafbihcfbglaa
