/- The law NeedleShards returns true at every input, and writes nothing that was there. -/
import Derived.Test.YtomcdajoeakhdaaDoorNeLive
namespace Go.Proofs.YtomcdajoeakhdaaDoor
open Go.RowKit
set_option linter.unusedVariables false
/-- few strings, all short -/
def smB (l : List ByteArray) : Bool := (l.all fun x => decide (x.size ≤ 100)) && decide (l.length ≤ 10)
theorem smB_take {l : List ByteArray} {k : Nat} {x : ByteArray} (h : l[k]? = some x) (hx : 100 < x.size) : smB l = false := by
  unfold smB
  rw [Bool.and_eq_false_iff]
  left
  rw [List.all_eq_false]
  exact ⟨x, List.mem_of_getElem? h, by simp; omega⟩
set_option maxRecDepth 100000 in
set_option maxHeartbeats 4000000 in
theorem small_any (a : Option Addr) (n c : Nat) (l : List ByteArray) (w : World) (hl : l.length = n) (hn : n ≤ 9223372036854775807) (hS : StrsAt w a l) : Calls Tryd.prog 22 #[.slice a n c, .int .i64 10, .int .i64 100] w fun e w' => e = .returned (.bool (smB l)) ∧ w = w' := by
  have HL := hide hl
  have HS := hide hS
  clear hl hS
  go_enter Tryd.func22, Tryd.ntmps22
  go_wp2_with fail
  go_loop [7] (fun y => ∃ j : Nat, j ≤ n ∧ y = .int .i64 j ∧ ∀ i x, i < j → l[i]? = some x → x.size ≤ 100) (fun y => n - (intOf y).toNat)
  case atStart => exact ⟨0, by omega, rfl, fun i x hi => by omega⟩
  case round =>
    obtain ⟨j, hj, rfl, hok⟩ := hrel
    have HOK := hide hok
    clear hok
    by_cases hlt : j < n
    · have hd : decide ((j : Int) < (n : Int)) = true := by simp; omega
      have hdi : (j : Int) < (n : Int) := by omega
      obtain ⟨x, hx⟩ : ∃ x, l[j]? = some x := ⟨_, List.getElem?_eq_getElem (by have := HL.out; omega)⟩
      rcases HS.out with q | ⟨b, o, rfl, hb, hc⟩
      · have := HL.out; rw [q] at this; simp at this; omega
      have hcx := hc j x hx
      have HX := hide hx
      clear hx hc
      by_cases h100 : 100 < x.size
      · have q1 : decide ((100 : Int) < (x.size : Int)) = true := by simp; omega
        have HF := hide (smB_take HX.out h100)
        clear h100
        go_wp2_with fail
        try go_ret
        exact ⟨ret_bool HF.out.symm, rfl⟩
      · have q1 : decide ((100 : Int) < (x.size : Int)) = false := by simp; omega
        have H100 := hide h100
        clear h100
        go_wp2_with fail
        refine ⟨⟨j + 1, by omega, by go_num, fun i y hi hy => ?_⟩, by simp [intOf]; omega⟩
        by_cases e : i = j
        · subst e; rw [HX.out] at hy; cases hy; have := H100.out; omega
        · exact HOK.out i y (by omega) hy
    · have hd : decide ((j : Int) < (n : Int)) = false := by simp; omega
      have HE : Hid (decide ((n : Int) ≤ 10) = smB l) := by
        show _ = _
        unfold smB
        have : (l.all fun x => decide (x.size ≤ 100)) = true := by
          rw [List.all_eq_true]
          intro x hx
          obtain ⟨i, hi, e⟩ := List.mem_iff_getElem.1 hx
          have hi' : i < n := by have := HL.out; omega
          have := HOK.out i x (by omega) (by rw [List.getElem?_eq_getElem hi, e])
          simpa using this
        rw [this, Bool.true_and, HL.out]
        rw [decide_eq_decide]
        omega
      go_wp2_with fail
      try go_ret
      exact ⟨ret_bool HE.out, rfl⟩
set_option maxRecDepth 100000 in
set_option maxHeartbeats 16000000 in
theorem walkNeedleShards (s : ByteArray) (a : Option Addr) (m c : Nat) (n : Int) (w : World) (hK : KAt w) (w0 : s.data.toList.length ≤ reachBytes) (w1 : Came 49 w a m c) (w2 : (Lit.int .i64 n).wf = true) : Calls Tryd.prog 5 #[.string s, .slice a m c, .int .i64 n] w fun e w' => e = .returned (.bool true) ∧ Below w.heap.size w w' := by
  obtain ⟨l, hl, hlc, hl63, hS⟩ := came_strs w1
  clear w0 w1 w2
  have KA := hide hK
  have HA : Hid (Below w.heap.size w w) := Below.refl _ _
  have HST := hide hS
  clear hK
  by_cases hbig : 1000 < s.size
  · clear hS
    go_enter Tryd.func5, Tryd.ntmps5
    go_wp2_with fail
    refine (nlive_any _ KA.out).mono ?_
    rintro e wLL ⟨rfl, hb⟩
    have BLL := hide (HA.out.trans (hb.mono HA.out.size))
    clear hb
    go_wp2_with fail
    try go_ret
    exact ⟨rfl, BLL.out⟩
  have H0 := hide (small_any a m c l w hl hl63 hS)
  clear hS
  by_cases hsm : smB l = true
  case neg =>
    have hsm' : smB l = false := by simpa using hsm
    rw [hsm'] at H0
    clear hsm hsm'
    go_enter Tryd.func5, Tryd.ntmps5
    go_wp2_with fail
    refine H0.out.mono ?_
    rintro e _ ⟨rfl, rfl⟩
    go_wp2_with fail
    refine (nlive_any _ KA.out).mono ?_
    rintro e wLL ⟨rfl, hb⟩
    have BLL := hide (HA.out.trans (hb.mono HA.out.size))
    clear hb
    go_wp2_with fail
    try go_ret
    exact ⟨rfl, BLL.out⟩
  rw [hsm] at H0
  clear hsm
  subst hl
  have H3 := hide (fun w hS => njoin_any a c l n w hS hlc hl63)
  have H4 := hide (fun w hS => rjoin_any a c l n w hS hl63)
  generalize jT l n = JT at *
  generalize jE l n = JE at *
  generalize l.length = m at *
  by_cases h384 : 384 < s.size
  · have H1 := hide (nshards_big s w h384)
    have H2 := hide (rshards_big s w h384)
    go_enter Tryd.func5, Tryd.ntmps5
    go_wp2_with fail
    refine H0.out.mono ?_
    rintro e _ ⟨rfl, rfl⟩
    go_wp2_with fail
    refine (H1.out).mono ?_
    rintro e _ ⟨rfl, rfl⟩
    go_wp2_with fail
    refine (H2.out).mono ?_
    rintro e _ ⟨rfl, rfl⟩
    have B2 := HA
    have K2 := KA
    have HS2 := HST
    have SA : Hid (StrsAt w none []) := .inl rfl
    have SB : Hid (StrsAt w none []) := .inl rfl
    go_wp2_with fail
    refine (H3.out _ HS2.out).mono ?_
    rintro e w3 ⟨rfl, hb⟩
    have B3 := hide (B2.out.trans (hb.mono B2.out.size))
    have K3 := hide (K2.out.below hb)
    have HS3 := hide (HS2.out.below hb)
    have SA3 := hide (SA.out.below hb)
    have SB3 := hide (SB.out.below hb)
    clear hb B2 K2 HS2 SA SB
    go_wp2_with fail
    refine (H4.out _ HS3.out).mono ?_
    rintro e w4 ⟨rfl, hb⟩
    have B4 := hide (B3.out.trans (hb.mono B3.out.size))
    have K4 := hide (K3.out.below hb)
    have SA4 := hide (SA3.out.below hb)
    have SB4 := hide (SB3.out.below hb)
    clear hb B3 K3 HS3 SA3 SB3
    go_wp2_with fail
    refine (strs_same none none 0 0 0 [] w4 rfl (by omega) SA4.out SB4.out).mono ?_
    rintro e w5 ⟨rfl, hb⟩
    have B5 := hide (B4.out.trans (hb.mono B4.out.size))
    have K5 := hide (K4.out.below hb)
    clear hb B4 K4 SA4 SB4
    go_wp2_with fail
    refine (nlive_any _ K5.out).mono ?_
    rintro e wLL ⟨rfl, hb⟩
    have BLL := hide (B5.out.trans (hb.mono B5.out.size))
    clear hb
    go_wp2_with fail
    try go_ret
    exact ⟨rfl, BLL.out⟩
  · have H1 := hide (nshards_ok s w (by omega))
    have H2 := hide (fun w => rshards_ok s w (by omega))
    go_enter Tryd.func5, Tryd.ntmps5
    go_wp2_with fail
    refine H0.out.mono ?_
    rintro e _ ⟨rfl, rfl⟩
    go_wp2_with fail
    refine (H1.out).mono ?_
    rintro e w1 ⟨a1, c1, rfl, hc1, hst, hb⟩
    have B1 := hide (HA.out.trans (hb.mono HA.out.size))
    have K1 := hide (KA.out.below hb)
    have HS1 := hide (HST.out.below hb)
    have SA1 := hide hst
    clear hb hst
    go_wp2_with fail
    refine (H2.out w1).mono ?_
    rintro e w2 ⟨a2, c2, rfl, hc2, hst, hb⟩
    have B2 := hide (B1.out.trans (hb.mono B1.out.size))
    have K2 := hide (K1.out.below hb)
    have HS2 := hide (HS1.out.below hb)
    have SA := hide (SA1.out.below hb)
    have SB := hide hst
    clear hb hst B1 K1 HS1 SA1
    go_wp2_with fail
    refine (H3.out _ HS2.out).mono ?_
    rintro e w3 ⟨rfl, hb⟩
    have B3 := hide (B2.out.trans (hb.mono B2.out.size))
    have K3 := hide (K2.out.below hb)
    have HS3 := hide (HS2.out.below hb)
    have SA3 := hide (SA.out.below hb)
    have SB3 := hide (SB.out.below hb)
    clear hb B2 K2 HS2 SA SB
    go_wp2_with fail
    refine (H4.out _ HS3.out).mono ?_
    rintro e w4 ⟨rfl, hb⟩
    have B4 := hide (B3.out.trans (hb.mono B3.out.size))
    have K4 := hide (K3.out.below hb)
    have SA4 := hide (SA3.out.below hb)
    have SB4 := hide (SB3.out.below hb)
    clear hb B3 K3 HS3 SA3 SB3
    go_wp2_with fail
    refine (strs_same a1 a2 c1 c2 6 (shl s 6) w4 (shl_len s 6) (by omega) SA4.out SB4.out).mono ?_
    rintro e w5 ⟨rfl, hb⟩
    have B5 := hide (B4.out.trans (hb.mono B4.out.size))
    have K5 := hide (K4.out.below hb)
    clear hb B4 K4 SA4 SB4
    go_wp2_with fail
    refine (nlive_any _ K5.out).mono ?_
    rintro e wLL ⟨rfl, hb⟩
    have BLL := hide (B5.out.trans (hb.mono B5.out.size))
    clear hb
    go_wp2_with fail
    try go_ret
    exact ⟨rfl, BLL.out⟩
end Go.Proofs.YtomcdajoeakhdaaDoor
