/- What the document's Choose and Instead answer. -/
import Derived.Test.YtleknjjfmklkcaaPlInstead
namespace Go.Proofs.Ytleknjjfmklkcaa
open Go.RowKit
set_option linter.unusedVariables false
set_option maxRecDepth 100000 in
set_option maxHeartbeats 2000000 in
theorem rChoose_arg (id gen : Int) (a : Option Addr) (n c : Nat) (l : List Int) (w : World) (hl : l.length = n) (hn : n ≤ 9223372036854775807) (hS : IntsAt w a l) (hno : chB id gen l = false) :
    Calls Try.prog 11 #[.int .i64 id, .int .i64 gen, .slice a n c] w (Chosen id gen l w) := by
  have HX := hide (rLive_any a n c l w hl hn hS)
  have HN := hide hno
  have HE : Hid (chB id gen l = (numB id && numB gen && liveB l)) := rfl
  clear hl hS hno
  by_cases h1 : numB id = true
  · by_cases h2 : numB gen = true
    · have h3 : liveB l = false := by have := HN.out; rw [HE.out, h1, h2] at this; simpa using this
      go_enter Try.func11, Try.ntmps11
      go_wp2_with (first | (go_at_call 23; refine (number_any _ _).mono ?_; rintro e w' ⟨rfl, rfl⟩; first | rw [h1] | rw [h2]) | (go_at_call 24; refine HX.out.mono ?_; rintro e w' ⟨rfl, hb⟩; have HB := hide hb; clear hb; rw [h3]))
      go_ret2
      exact chosen_arg HN.out HB.out
    · have h2' : numB gen = false := by simpa using h2
      clear h2
      go_enter Try.func11, Try.ntmps11
      go_wp2_with (first | (go_at_call 23; refine (number_any _ _).mono ?_; rintro e w' ⟨rfl, rfl⟩; first | rw [h1] | rw [h2']))
      go_ret2
      exact chosen_arg HN.out (Below.refl _ _)
  · have h1' : numB id = false := by simpa using h1
    clear h1
    go_enter Try.func11, Try.ntmps11
    go_wp2_with (first | (go_at_call 23; refine (number_any _ _).mono ?_; rintro e w' ⟨rfl, rfl⟩; rw [h1']))
    go_ret2
    exact chosen_arg HN.out (Below.refl _ _)
set_option maxRecDepth 100000 in
set_option maxHeartbeats 2000000 in
theorem rChoose_few (id gen : Int) (a : Option Addr) (n c : Nat) (l : List Int) (w : World) (hl : l.length = n) (hn : n ≤ 9223372036854775807) (hS : IntsAt w a l) (hyes : chB id gen l = true) (h9 : n < 9) :
    Calls Try.prog 11 #[.int .i64 id, .int .i64 gen, .slice a n c] w (Chosen id gen l w) := by
  have HX := hide (rLive_any a n c l w hl hn hS)
  have HN := hide hyes
  have HL := hide hl
  obtain ⟨h1, h2, h3⟩ := chB_parts hyes
  have hd : decide ((n : Int) < 9) = true := by simp; omega
  clear hl hS hyes
  go_enter Try.func11, Try.ntmps11
  go_wp2_with (first | (go_at_call 23; refine (number_any _ _).mono ?_; rintro e w' ⟨rfl, rfl⟩; first | rw [h1] | rw [h2]) | (go_at_call 24; refine HX.out.mono ?_; rintro e w' ⟨rfl, hb⟩; have HB := hide hb; clear hb; rw [h3]))
  go_ret2
  exact chosen_few HN.out (by rw [HL.out]; exact h9) HB.out
set_option maxRecDepth 100000 in
set_option maxHeartbeats 2000000 in
theorem rChoose_ok (i g : Nat) (a : Option Addr) (n c : Nat) (l : List Int) (w : World) (hl : l.length = n) (hn : n ≤ 12) (hi : i ≤ 1099511627776) (hg : g ≤ 1099511627776) (hS : IntsAt w a l) (hyes : chB i g l = true) (h9 : ¬ n < 9) :
    Calls Try.prog 11 #[.int .i64 (i : Int), .int .i64 (g : Int), .slice a n c] w (Chosen i g l w) := by
  have HX := hide (rLive_any a n c l w hl (by omega) hS)
  have HN := hide hyes
  have HL := hide hl
  have HS := hide hS
  obtain ⟨h1, h2, h3⟩ := chB_parts hyes
  have hd : decide ((n : Int) < 9) = false := by simp; omega
  have w1 : IntKind.i64.wrap (5 * (i : Int)) = 5 * (i : Int) := wrap_in (by omega) (by omega)
  have w2 : IntKind.i64.wrap (7 * (g : Int)) = 7 * (g : Int) := wrap_in (by omega) (by omega)
  have w3 : IntKind.i64.wrap (5 * (i : Int) + 7 * (g : Int)) = 5 * (i : Int) + 7 * (g : Int) := wrap_in (by omega) (by omega)
  clear hl hS hyes
  obtain ⟨i0, hi0, hz0, hz1, hz2⟩ := info_parts int_info
  have HI := hide hi0
  have HI0 := hide hz0
  have HI1 := hide hz1
  have HI2 := hide hz2
  clear hi0 hz0 hz1 hz2
  go_enter Try.func11, Try.ntmps11
  go_wp2_with (first | (go_at_call 23; refine (number_any _ _).mono ?_; rintro e w' ⟨rfl, rfl⟩; first | rw [h1] | rw [h2]) | (go_at_call 24; refine HX.out.mono ?_; rintro e w' ⟨rfl, hb⟩; have HB := hide hb; clear hb; rw [h3]))
  go_loopw [8, 9] (fun v y wr => ∃ k : Nat, k ≤ 9 ∧ y = .int .i64 k ∧ GR w wr 3 1 v k (inV (rotL l (5 * i + 7 * g) k))) (fun _ y _ => 9 - (intOf y).toNat)
  case atStart => exact ⟨0, by omega, rfl, GR.nil _ _ _ _ HB.out⟩
  case round =>
    obtain ⟨k, hk, rfl, hr⟩ := hrel
    have HR := hide hr
    clear hr
    by_cases hlt : k < 9
    · have hdk : decide ((k : Int) < 9) = true := by simp; omega
      have hL0 : 0 < l.length := by rw [HL.out]; omega
      rcases HS.out with q | ⟨b, o, rfl, hbl, hc⟩
      · rw [q] at hL0; simp at hL0
      have HC := hide hc
      clear hc
      have hml : (5 * i + 7 * g + k) % n < n := Nat.mod_lt _ (by omega)
      have c3 : wr.cell? ⟨b, o + (5 * i + 7 * g + k) % n, none⟩ = some (.int .i64 (rot l (5 * i + 7 * g) k)) := (HR.out.2.cell (p := ⟨b, o + (5 * i + 7 * g + k) % n, none⟩) hbl).trans (HC.out _ _ (by have := rot_mem (l := l) (f := 5 * i + 7 * g) (i := k) hL0; rw [HL.out] at this; exact this))
      have hrem : Int.tmod (5 * (i : Int) + 7 * (g : Int) + (k : Int)) (n : Int) = (((5 * i + 7 * g + k) % n : Nat) : Int) := by
        rw [show 5 * (i : Int) + 7 * (g : Int) + (k : Int) = ((5 * i + 7 * g + k : Nat) : Int) by omega, Int.tmod_eq_emod_of_nonneg (by omega)]; rfl
      have w4 : IntKind.i64.wrap (5 * (i : Int) + 7 * (g : Int) + (k : Int)) = 5 * (i : Int) + 7 * (g : Int) + (k : Int) := wrap_in (by omega) (by omega)
      have hm1 : ¬ (n = 0) := by omega
      have HRS := hide (rotL_succ l (5 * i + 7 * g) k)
      have hsz := HR.out.2.size
      generalize rot l (5 * i + 7 * g) k = x at *
      generalize (5 * i + 7 * g + k) % n = p at *
      have hpi : (p : Int) < (n : Int) := by omega
      have hp0 : (0 : Int) ≤ (p : Int) := by omega
      go_wp2_with (first | (at_builtin; refine wpList_append_own _ rfl (.tmp 30) (.tmp 44) 22 rfl w.heap.size 3 i0 (.int .i64 0) 1 8 Try.underlying22 HI.out HI0.out HI1.out HI2.out rfl (by decide) _ _ _ rfl (HR.out.1.alloc _) ⟨wr.heap.size, 0, none⟩ 1 1 [.int .i64 x] rfl rfl (cell_one_new _ _ _) (by simp [Value.oneCell']) (by unfold maxLen; omega) (by omega) (by rw [World.size_alloc]; omega) ?_; intro v' w3 hown hgr hnil; clear hnil; have HN3 := hide (HR.out.step hown hgr); clear hown hgr))
      go_roundw
      case rel => exact ⟨k + 1, by omega, by go_num, by rw [HRS.out, inV_snoc]; exact HN3.out⟩
      case measure => simp [intOf]; omega
    · have hdk : decide ((k : Int) < 9) = false := by simp; omega
      obtain rfl : k = 9 := by omega
      have hR9 := HR.out
      rw [show (9 : Nat) = (rotL l (5 * i + 7 * g) 9).length from (rotL_len _ _ _).symm] at hR9
      have hlen := rotL_len l (5 * i + 7 * g) 9
      obtain ⟨a', c', hv, hcc, hI⟩ := GR.ints (l := rotL l (5 * i + 7 * g) 9) (by rw [hlen]; exact HR.out)
      rw [hlen] at hv hcc
      subst hv
      have HNW := hide (own_new (w := w) HR.out.1 (Nat.le_refl _))
      have HIn := hide hI
      clear hI hR9 hlen
      go_wp2_with fail
      go_ret2
      exact chosen_ok HN.out (by rw [HL.out]; exact h9) HR.out.2 hcc HIn.out HNW.out
theorem rChoose_any (id gen : Int) (a : Option Addr) (n c : Nat) (l : List Int) (w : World) (hl : l.length = n) (hn : n ≤ 9223372036854775807) (hS : IntsAt w a l) :
    Calls Try.prog 11 #[.int .i64 id, .int .i64 gen, .slice a n c] w (Chosen id gen l w) := by
  by_cases h : chB id gen l = true
  · by_cases h9 : n < 9
    · exact rChoose_few id gen a n c l w hl hn hS h h9
    · obtain ⟨h1, h2, h3⟩ := chB_parts h
      obtain ⟨i, rfl⟩ := Int.eq_ofNat_of_zero_le (numB_iff.1 h1).1
      obtain ⟨g, rfl⟩ := Int.eq_ofNat_of_zero_le (numB_iff.1 h2).1
      exact rChoose_ok i g a n c l w hl (by have := live_len h3; omega) (by have := (numB_iff.1 h1).2; omega) (by have := (numB_iff.1 h2).2; omega) hS h h9
  · exact rChoose_arg id gen a n c l w hl hn hS (by simpa using h)
set_option maxRecDepth 100000 in
set_option maxHeartbeats 2000000 in
theorem rInstead_arg (used l : List Int) (id : Int) (au a : Option Addr) (nu cu n c : Nat) (w : World) (hl : l.length = n) (hn : n ≤ 9223372036854775807) (hS : IntsAt w a l) (hno : inB id l = false) :
    Calls Try.prog 13 #[.slice au nu cu, .slice a n c, .int .i64 id] w (Inst used l id w) := by
  have HX := hide (rLive_any a n c l w hl hn hS)
  have HN := hide hno
  have HE : Hid (inB id l = (numB id && liveB l)) := rfl
  clear hl hS hno
  by_cases h1 : numB id = true
  · have h3 : liveB l = false := by have := HN.out; rw [HE.out, h1] at this; simpa using this
    go_enter Try.func13, Try.ntmps13
    go_wp2_with (first | (go_at_call 23; refine (number_any _ _).mono ?_; rintro e w' ⟨rfl, rfl⟩; rw [h1]) | (go_at_call 24; refine HX.out.mono ?_; rintro e w' ⟨rfl, hb⟩; have HB := hide hb; clear hb; rw [h3]))
    go_ret2
    exact inst_arg HN.out HB.out
  · have h1' : numB id = false := by simpa using h1
    clear h1
    go_enter Try.func13, Try.ntmps13
    go_wp2_with (first | (go_at_call 23; refine (number_any _ _).mono ?_; rintro e w' ⟨rfl, rfl⟩; rw [h1']))
    go_ret2
    exact inst_arg HN.out (Below.refl _ _)
set_option maxRecDepth 100000 in
set_option maxHeartbeats 2000000 in
theorem rInstead_ok (used l : List Int) (i : Nat) (au a : Option Addr) (nu cu n c : Nat) (w : World) (hu : used.length = nu) (hnu : nu ≤ 9223372036854775807) (hU : IntsAt w au used) (hl : l.length = n) (hn : n ≤ 12) (hi : i ≤ 1099511627776) (hS : IntsAt w a l) (hyes : inB i l = true) :
    Calls Try.prog 13 #[.slice au nu cu, .slice a n c, .int .i64 (i : Int)] w (Inst used l i w) := by
  have HX := hide (rLive_any a n c l w hl (by omega) hS)
  have HN := hide hyes
  have HL := hide hl
  have HS := hide hS
  have HU := hide hU
  have HUL := hide hu
  obtain ⟨h1, h3⟩ := inB_parts hyes
  clear hl hS hyes hU hu
  go_enter Try.func13, Try.ntmps13
  go_wp2_with (first | (go_at_call 23; refine (number_any _ _).mono ?_; rintro e w' ⟨rfl, rfl⟩; rw [h1]) | (go_at_call 24; refine HX.out.mono ?_; rintro e w' ⟨rfl, hb⟩; have HB := hide hb; clear hb; rw [h3]))
  go_loopw [8] (fun y wr => ∃ k : Nat, k ≤ n ∧ y = .int .i64 k ∧ (∀ j, j < k → hasB used (rot l i j) = true) ∧ Below w.heap.size w wr) (fun y _ => n - (intOf y).toNat)
  case atStart => exact ⟨0, by omega, rfl, fun j hj => by omega, HB.out⟩
  case round =>
    obtain ⟨k, hk, rfl, hall, hb⟩ := hrel
    have HA := hide hall
    have HBr := hide hb
    clear hall hb
    by_cases hlt : k < n
    · have hdk : decide ((k : Int) < (n : Int)) = true := by simp; omega
      have hL0 : 0 < l.length := by rw [HL.out]; omega
      rcases HS.out with q | ⟨b, o, rfl, hbl, hc⟩
      · rw [q] at hL0; simp at hL0
      have HC := hide hc
      clear hc
      have hml : (i + k) % n < n := Nat.mod_lt _ (by omega)
      have c3 : wr.cell? ⟨b, o + (i + k) % n, none⟩ = some (.int .i64 (rot l i k)) := (HBr.out.cell (p := ⟨b, o + (i + k) % n, none⟩) hbl).trans (HC.out _ _ (by have := rot_mem (l := l) (f := i) (i := k) hL0; rw [HL.out] at this; exact this))
      have hrem : Int.tmod ((i : Int) + (k : Int)) (n : Int) = (((i + k) % n : Nat) : Int) := by
        rw [show (i : Int) + (k : Int) = ((i + k : Nat) : Int) by omega, Int.tmod_eq_emod_of_nonneg (by omega)]; rfl
      have w4 : IntKind.i64.wrap ((i : Int) + (k : Int)) = (i : Int) + (k : Int) := wrap_in (by omega) (by omega)
      have hm1 : ¬ (n = 0) := by omega
      have HH := hide (has_any au nu cu used (rot l i k) wr HUL.out hnu (HU.out.below HBr.out))
      generalize hx : rot l i k = x at *
      have HXX := hide hx
      clear hx
      generalize (i + k) % n = p at *
      have hpi : (p : Int) < (n : Int) := by omega
      have hp0 : (0 : Int) ≤ (p : Int) := by omega
      by_cases hh : hasB used x = true
      · have HY := hide hh
        go_wp2_with (first | (go_at_call 26; refine HH.out.mono ?_; rintro e w' ⟨rfl, rfl⟩; rw [hh]))
        go_roundw
        case rel => exact ⟨k + 1, by omega, by go_num, fun j hj => by
          by_cases q : j = k
          · subst q; rw [HXX.out]; exact HY.out
          · exact HA.out j (by omega), HBr.out⟩
        case measure => simp [intOf]; omega
      · have hh' : hasB used x = false := by simpa using hh
        have HY := hide hh'
        clear hh
        go_wp2_with (first | (go_at_call 26; refine HH.out.mono ?_; rintro e w' ⟨rfl, rfl⟩; rw [hh']))
        go_ret2
        exact inst_ok HN.out (by rw [← HXX.out]; exact ins_some (by rw [HL.out]; exact hlt) HA.out (by rw [HXX.out]; exact HY.out)) HBr.out
    · have hdk : decide ((k : Int) < (n : Int)) = false := by simp; omega
      go_wp2_with fail
      go_ret2
      exact inst_few HN.out (ins_none fun j hj => HA.out j (by have := HL.out; omega)) HBr.out
theorem rInstead_any (used l : List Int) (id : Int) (au a : Option Addr) (nu cu n c : Nat) (w : World) (hu : used.length = nu) (hnu : nu ≤ 9223372036854775807) (hU : IntsAt w au used) (hl : l.length = n) (hn : n ≤ 9223372036854775807) (hS : IntsAt w a l) :
    Calls Try.prog 13 #[.slice au nu cu, .slice a n c, .int .i64 id] w (Inst used l id w) := by
  by_cases h : inB id l = true
  · obtain ⟨h1, h3⟩ := inB_parts h
    obtain ⟨i, rfl⟩ := Int.eq_ofNat_of_zero_le (numB_iff.1 h1).1
    exact rInstead_ok used l i au a nu cu n c w hu hnu hU hl (by have := live_len h3; omega) (by have := (numB_iff.1 h1).2; omega) hS h
  · exact rInstead_arg used l id au a nu cu n c w hl hn hS (by simpa using h)
end Go.Proofs.Ytleknjjfmklkcaa
