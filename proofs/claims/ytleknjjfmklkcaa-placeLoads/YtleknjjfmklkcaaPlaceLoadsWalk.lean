/- PlaceLoads answers true at every input. -/
import Derived.Test.YtleknjjfmklkcaaCameVol
namespace Go.Proofs.Ytleknjjfmklkcaa
open Go.RowKit
set_option linter.unusedVariables false
theorem cnt_ints {w : World} {g : Nat} {F : Nat → Nat} (h : CntAt w g F) : IntsAt w (some ⟨g, 0, none⟩) ((List.range 12).map fun d => ((F d : Nat) : Int)) :=
  .inr ⟨g, 0, rfl, h.lt, fun i s hs => by
    have hi : i < 12 := by have := (List.getElem?_eq_some_iff.1 hs).1; simpa using this
    simp [hi] at hs
    rw [Nat.zero_add, h.cell hi, hs]⟩
theorem CntAt.below {w w' : World} {g : Nat} {F : Nat → Nat} (h : CntAt w g F) (hb : Below w.heap.size w w') : CntAt w' g F := FnAt.below h hb h.lt
set_option maxRecDepth 100000 in
set_option maxHeartbeats 4000000 in
theorem loads_is (a al : Option Addr) (n c nl cl : Nat) (l : List Int) (vs : List Vol) (w : World) (hl : vs.length = n) (hn : n ≤ 9223372036854775807) (hS : VolsAt w a vs) (hll : l.length = nl) (hnl : nl ≤ 9223372036854775807) (hSl : IntsAt w al l) :
    Calls Try.prog 4 #[.slice a n c, .slice al nl cl] w fun e w' => e = .returned (.bool true) ∧ Below w.heap.size w w' := by
  have HL := hide hl
  have HS := hide hS
  have HLL := hide hll
  have HSl := hide hSl
  clear hl hS hll hSl
  by_cases h1 : 30 < n
  · have hd : decide ((30 : Int) < (n : Int)) = true := by simp; omega
    go_enter Try.func4, Try.ntmps4
    go_wp2_with fail
    refine (live_any _).mono ?_
    rintro e w1 ⟨rfl, hb⟩
    have HB1 := hide hb
    clear hb
    go_wp2_with fail
    try go_ret
    exact ⟨rfl, HB1.out⟩
  have hd : decide ((30 : Int) < (n : Int)) = false := by simp; omega
  by_cases h2 : 30 < nl
  · have hd2 : decide ((30 : Int) < (nl : Int)) = true := by simp; omega
    go_enter Try.func4, Try.ntmps4
    go_wp2_with fail
    refine (live_any _).mono ?_
    rintro e w1 ⟨rfl, hb⟩
    have HB1 := hide hb
    clear hb
    go_wp2_with fail
    try go_ret
    exact ⟨rfl, HB1.out⟩
  have hd2 : decide ((30 : Int) < (nl : Int)) = false := by simp; omega
  go_enter Try.func4, Try.ntmps4
  go_wp2_with fail
  go_loop [5] (fun y => ∃ k : Nat, k ≤ n ∧ y = .int .i64 k ∧ ∀ (i : Nat) (x : Vol), i < k → vs[i]? = some x → x.n ≤ 30) (fun y => n - (intOf y).toNat)
  case atStart => exact ⟨0, by omega, rfl, fun _ _ h => by omega⟩
  case round =>
    obtain ⟨k, hk, rfl, hall⟩ := hrel
    have HA := hide hall
    clear hall
    by_cases hlt : k < n
    · have hdk : decide ((k : Int) < (n : Int)) = true := by simp; omega
      have hki : (k : Int) < (n : Int) := by omega
      obtain ⟨x, hx⟩ : ∃ x, vs[k]? = some x := ⟨_, List.getElem?_eq_getElem (by have := HL.out; omega)⟩
      rcases HS.out with q | ⟨b, o, rfl, hbs, hc⟩
      · rw [q] at hx; simp at hx
      obtain ⟨hv, his⟩ := hc k x hx
      have c3 := hv.c3
      have HX := hide hx
      have n63 := his.n63
      clear hv his hc hx
      by_cases h3 : 30 < x.n
      · have hd3 : decide ((30 : Int) < (x.n : Int)) = true := by simp; omega
        go_wp2_with fail
        refine (live_any _).mono ?_
        rintro e w1 ⟨rfl, hb⟩
        have HB1 := hide hb
        clear hb
        go_wp2_with fail
        try go_ret
        exact ⟨rfl, HB1.out⟩
      · have hd3 : decide ((30 : Int) < (x.n : Int)) = false := by simp; omega
        go_wp2_with fail
        go_round
        case rel => exact ⟨k + 1, by omega, by go_num, fun i y hi hy => by
          by_cases e : i = k
          · subst e; rw [HX.out] at hy; cases hy; omega
          · exact HA.out i y (by omega) hy⟩
        case measure => simp [intOf]; omega
    · have hdk : decide ((k : Int) < (n : Int)) = false := by simp; omega
      have HALL : Hid (allN (vs.map Vol.ls) ≤ 4611686018427387904) := by
        have h1 : ∀ x ∈ vs, x.ls.length ≤ 30 := fun x hx => by
          rw [vols_len HS.out x hx]
          obtain ⟨i, hi, rfl⟩ := List.getElem_of_mem hx
          exact HA.out i _ (by have := HL.out; omega) (List.getElem?_eq_getElem hi)
        have := allN_le h1
        have := HL.out
        unfold Hid
        omega
      clear HA
      go_wp2_with fail
      refine (even_any a al n c nl cl l vs _ HL.out hn HS.out HALL.out HLL.out hnl HSl.out).mono ?_
      rintro e w1 ⟨rfl, hb1⟩
      have HB1 := hide hb1
      clear hb1
      go_wp2_with fail
      refine (rEven_any a al n c nl cl l vs _ HL.out hn (HS.out.below HB1.out) HALL.out HLL.out hnl (HSl.out.below HB1.out)).mono ?_
      rintro e w2 ⟨rfl, hb2⟩
      have HB2 : Hid (Below w.heap.size w w2) := HB1.out.trans (hb2.mono HB1.out.size)
      clear hb2
      generalize evM (vs.map Vol.ls) l = M at *
      generalize evL (vs.map Vol.ls) l = X at *
      generalize evU (vs.map Vol.ls) l = U at *
      go_wp2_with fail
      refine (load_any a n c vs _ HL.out hn (HS.out.below HB2.out) HALL.out).mono ?_
      rintro e w3 ⟨g, rfl, -, hc3, hb3⟩
      have HB3 : Hid (Below w.heap.size w w3) := HB2.out.trans (hb3.mono HB2.out.size)
      have HC3 := hide hc3
      clear hb3 hc3
      go_wp2_with fail
      refine (rLoad_any a n c vs _ HL.out hn (HS.out.below HB3.out) HALL.out).mono ?_
      rintro e w4 ⟨g2, rfl, -, hc4, hb4⟩
      have HB4 : Hid (Below w.heap.size w w4) := HB3.out.trans (hb4.mono HB3.out.size)
      have HC4 := hide (HC3.out.below hb4)
      have HD4 := hide hc4
      clear hb4 hc4
      go_wp2_with fail
      refine (ints_same _ _ 12 12 12 _ _ (by simp) (by omega) (cnt_ints HC4.out) (cnt_ints HD4.out)).mono ?_
      rintro e w5 ⟨rfl, hb5⟩
      have HB5 : Hid (Below w.heap.size w w5) := HB4.out.trans (hb5.mono HB4.out.size)
      clear hb5
      go_wp2_with fail
      refine (live_any _).mono ?_
      rintro e w6 ⟨rfl, hb⟩
      have HB6 : Hid (Below w.heap.size w w6) := HB5.out.trans (hb.mono HB5.out.size)
      clear hb
      go_wp2_with fail
      try go_ret
      exact ⟨rfl, HB6.out⟩
theorem walkPlaceLoads (a : Option Addr) (n c : Nat) (al : Option Addr) (nl cl : Nat) (w : World) (h : CameSz 33 w a n c) (h2 : Came 22 w al nl cl) : Calls Try.prog 4 #[.slice a n c, .slice al nl cl] w fun e w' => e = .returned (.bool true) ∧ Below w.heap.size w w' := by
  obtain ⟨vs, h3, h4, h5, -⟩ := came_vols h
  obtain ⟨l, h6, -, h7, h8⟩ := came_ints h2
  exact loads_is a al n c nl cl l vs w h3 h4 h5 h6 h7 h8
end Go.Proofs.Ytleknjjfmklkcaa
