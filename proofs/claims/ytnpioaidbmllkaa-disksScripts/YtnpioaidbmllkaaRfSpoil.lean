/- What the document's Spoil answers. -/
import Derived.Test.YtnpioaidbmllkaaRfFlush
import Derived.Deep.DeepCutAuto
namespace Go.Proofs.Ytnpioaidbmllkaa
open Go.RowKit
set_option linter.unusedVariables false
theorem without_take {n i : Nat} {ws : List (Nat × ByteArray)} {y : Nat × ByteArray} (h : ws[i]? = some y) : without n (ws.take (i + 1)) = if y.1 = n then without n (ws.take i) else without n (ws.take i) ++ [y] := by
  unfold without
  rw [List.take_add_one, h, List.filter_append]
  by_cases c : y.1 = n
  · rw [if_pos c]; simp [c]
  · rw [if_neg c]; simp [c]
theorem without_len (n : Nat) (ws : List (Nat × ByteArray)) : (without n ws).length ≤ ws.length := List.length_filter_le _ _
/-- the writes that are left, in a row of their own -/
def LeftAt (w wr : World) (v : Value) (l : List (Nat × ByteArray)) : Prop := wr.ownsRow w.heap.size 69 2 v l.length (wtV l) ∧ Below w.heap.size w wr
theorem left_step {w wr w1 : World} {v v' : Value} {l : List (Nat × ByteArray)} {y : Nat × ByteArray} {o : Obj} (h : LeftAt w wr v l) (hown : w1.ownsRow w.heap.size 69 2 v' (l.length + 1) (wtV l ++ [.int .i64 (y.1 : Int), .string y.2])) (hgr : (wr.alloc o).grownBy w1 v.ownBlock) : LeftAt w w1 v' (l ++ [y]) := by
  refine ⟨?_, Below.grown (h.2.alloc h.2.size o) hgr (by rw [World.size_alloc]; exact Nat.le_succ_of_le h.2.size) fun g hg => row_low h.1 hg⟩
  rw [List.length_append, wtV_app]
  exact hown
set_option maxRecDepth 100000 in
set_option maxHeartbeats 4000000 in
theorem rSpoil_any (rb : Nat) (v : Value) (R : Nat → Rk) (C : Nat → Ct) (d n : Int) (s : ByteArray) (w : World) (h : RB w rb v 12 R) (hC : ContR R C) (hs : s.size ≤ 9223372036854775807) {N : Nat} (hN : Few N C) (hN6 : N < 1000000) :
    Calls Try.prog 29 #[.pointer (some ⟨rb, 0, none⟩), .int .i64 d, .int .i64 n, .string s] w fun e w' => e = .returned (.int .i64 (eTakeC C d n s : Nat)) ∧ DidR rb v R w (spC C d n s) w' := by
  have HK := hide (rCheck_any rb v R C d n s w h hC hs)
  unfold spC
  by_cases hz : eTakeC C d n s = 0
  · obtain ⟨h1, h2⟩ := take_in hz
    obtain ⟨h3, h6, h7⟩ := have_in h1
    obtain ⟨h4, h5, hl⟩ := live_in h3
    obtain ⟨k, rfl⟩ : ∃ k : Nat, d = (k : Int) := ⟨d.toNat, by omega⟩
    obtain ⟨m, rfl⟩ : ∃ m : Nat, n = (m : Int) := ⟨n.toNat, by omega⟩
    have hk : k < 12 := by omega
    have hm : m < 112 := by omega
    rw [hz] at HK ⊢
    rw [if_pos rfl]
    simp only [Int.toNat_natCast]
    have HC := hide hC
    have HCK := hide (hC k hk)
    have H := hide h
    have hlen : (R k).ct.ws.length < 1000000 := by rw [hC k hk]; have := (hN k hk).1; omega
    obtain ⟨gd, cap, hv, hc12, hcm, -, -, -⟩ := h.at hk
    obtain ⟨a9, c9, hv9⟩ := row_form (h.dk k hk).row
    have HV9 := hide hv9
    generalize hL : (R k).ct.ws.length = L at *
    have HL := hide hL
    obtain ⟨i0, hi0, hz0, hz1, hz2⟩ := info_parts rwr_info
    have HI := hide hi0
    have HI0 := hide hz0
    have HI1 := hide hz1
    have HI2 := hide hz2
    have g2 : (k : Int) < 12 := by omega
    have g3 : (0 : Int) ≤ (k : Int) := by omega
    have g4 : (m : Int) < 112 := by omega
    have g5 : (0 : Int) ≤ (m : Int) := by omega
    clear h hC h3 h6 h7 h4 h5 hl hz h1 hi0 hz0 hz1 hz2 hv9 hL
    subst hv
    go_enter Try.func29, Try.ntmps29
    go_wp2_with fail
    refine HK.out.mono ?_
    rintro e w1 ⟨rfl, rfl⟩
    go_wp2_with fail
    go_loopw [10, 11] (fun u y wr => ∃ i : Nat, i ≤ L ∧ y = .int .i64 i ∧ LeftAt w wr u (without m ((R k).ct.ws.take i))) (fun _ y _ => L - (intOf y).toNat)
    case atStart => exact ⟨0, by omega, rfl, World.ownsRow_nil _ _ _ _, Below.refl _ _⟩
    case round =>
      obtain ⟨i, hi, rfl, hA⟩ := hrel
      have HA := hide hA
      have hsz := hA.2.size
      have hB := H.out.below hA.2
      have HB := hide hB
      obtain ⟨gd', cap', hve, -, -, cB, cP, -⟩ := hB.at hk
      cases hve
      have hdk := hB.dk k hk
      have c0 := hdk.c0
      have c1 := hdk.c1
      rw [HV9.out] at c1
      by_cases hlt : i < L
      · obtain ⟨y, hy⟩ : ∃ y, (R k).ct.ws[i]? = some y := ⟨_, List.getElem?_eq_getElem (by have := HL.out; omega)⟩
        obtain ⟨g, cc, hvv, hlc, hcm2, hgl, hr1, hr2⟩ := rrow_at hdk.row (i := i) (x := y) hy
        rw [HV9.out, HL.out] at hvv
        cases hvv
        have HW := hide (without_take (n := m) hy)
        have hwl : (without m ((R k).ct.ws.take i)).length ≤ L := by have h9 := without_len m ((R k).ct.ws.take i); rw [List.length_take] at h9; omega
        obtain ⟨yn, ys⟩ := y
        have hd1 : decide ((i : Int) < (L : Int)) = true := by simp; omega
        have hdi : (i : Int) < (L : Int) := by omega
        have hni : (0 : Int) ≤ (i : Int) := by omega
        have hL63 : L ≤ 9223372036854775807 := by omega
        clear hA hB hdk hlc hgl hy
        generalize (R k).p = pp at *
        generalize (R k).g = gg at *
        by_cases he : yn = m
        · have hq : ((yn : Int) == (m : Int)) = true := by rw [beq_iff_eq]; omega
          have hq' : ((yn : Int) != (m : Int)) = false := by simp; omega
          have HW2 : Hid (without m ((R k).ct.ws.take (i + 1)) = without m ((R k).ct.ws.take i)) := by show without _ _ = _; rw [HW.out, if_pos he]
          go_wp2_with fail
          exact ⟨⟨i + 1, by omega, by go_num, by rw [HW2.out]; exact HA.out⟩, by simp [intOf]; omega⟩
        · have hq' : ((yn : Int) != (m : Int)) = true := by simp; omega
          have HW2 : Hid (without m ((R k).ct.ws.take (i + 1)) = without m ((R k).ct.ws.take i) ++ [(yn, ys)]) := by show without _ _ = _; rw [HW.out, if_neg he]
          generalize without m ((R k).ct.ws.take i) = lf at *
          go_wp2_with (first | (at_builtin; refine wpList_append_own _ rfl (.tmp 51) (.tmp 65) 59 rfl w.heap.size 69 i0 (.agg #[.int .i64 0, .string ByteArray.empty]) 2 24 Try.underlying59 HI.out HI0.out HI1.out HI2.out rfl (by decide) _ lf.length (wtV lf) rfl (row_keep HA.out.1 (fun g hg => Below.heap_alloc _ _ _ (row_lt HA.out.1 hg))) ⟨wr.heap.size, 0, none⟩ 1 1 [.int .i64 (yn : Int), .string ys] rfl rfl (two_new _ _ _ _) (by simp [Value.oneCell']) (by unfold maxLen; omega) (by omega) (by rw [World.size_alloc]; omega) ?_; intro v' w3 hown hgr hnil; clear hnil; have HS := hide (left_step (y := (yn, ys)) HA.out hown hgr); clear hown hgr))
          exact ⟨⟨i + 1, by omega, by go_num, by rw [HW2.out]; exact HS.out⟩, by simp [intOf]; omega⟩
      · have hd1 : decide ((i : Int) < (L : Int)) = false := by simp; omega
        have hle : (R k).ct.ws.take i = (R k).ct.ws := List.take_of_length_le (by have := HL.out; omega)
        rw [hle] at hA
        obtain ⟨u9, q9, hu9⟩ := row_form hA.1
        have hst := H.out.setWait hk _ (without m (R k).ct.ws) (fun y hy => (H.out.dk k hk).wsl y (List.mem_filter.1 hy).1) (row_weak hA.1 (Nat.zero_le _)) (grown_below _ hA.2) (fun q hq => .inr (row_low hA.1 hq))
        have hst2 := hst.1.setSec hk (n := m) s
        rw [updR_at, updR_upd] at hst2
        have HN1 : Hid (RB ((wr.setCell ⟨(R k).p, 1, none⟩ u10).setCell ⟨(R k).g, m, none⟩ (.string s)) rb (.slice (some ⟨gd, 0, none⟩) 12 cap) 12 (updR R k (rSec (rWait (R k) u10 (without m (R k).ct.ws)) m s))) := hst2.1
        have HN2 : Hid (RStep rb (.slice (some ⟨gd, 0, none⟩) 12 cap) 12 R w (updR R k (rSec (rWait (R k) u10 (without m (R k).ct.ws)) m s)) ((wr.setCell ⟨(R k).p, 1, none⟩ u10).setCell ⟨(R k).g, m, none⟩ (.string s))) := hst.2.trans hst2.2
        have HCU : Hid (ContR (updR R k (rSec (rWait (R k) u10 (without m (R k).ct.ws)) m s)) (updC C k ⟨(C k).lost, fun q => if q = m then s else (C k).sec q, without m (C k).ws⟩)) := by rw [← HCK.out]; exact HC.out.upd k _
        have hdk2 := hst.1.dk k hk
        rw [updR_at] at hdk2
        obtain ⟨gd', cap', hve, -, -, cB2, cP2, -⟩ := hst.1.at hk
        cases hve
        rw [updR_at] at cP2
        have cP3 : (wr.setCell ⟨(R k).p, 1, none⟩ u10).cell? ⟨gd, k, none⟩ = some (.pointer (some ⟨(R k).p, 0, none⟩)) := cP2
        have d0 : (wr.setCell ⟨(R k).p, 1, none⟩ u10).cell? ⟨(R k).p, 0, none⟩ = some (.slice (some ⟨(R k).g, 0, none⟩) 112 112) := hdk2.c0
        have dS : (wr.setCell ⟨(R k).p, 1, none⟩ u10).cell? ⟨(R k).g, m, none⟩ = some (.string ((R k).ct.sec m)) := hdk2.cs hm
        have dF : (wr.setCell ⟨(R k).p, 1, none⟩ u10).frozen? ⟨(R k).g, m, none⟩ = false := hdk2.fs m
        have hf1 := hdk.fr 1
        subst hu9
        have CB2 := hide cB2
        have CP3 := hide cP3
        have D0 := hide d0
        have DS := hide dS
        have DF := hide dF
        clear hA hB hdk hle hst hst2 hdk2 cP2 cB2 cP3 d0 dS dF
        generalize (R k).p = pp at *
        generalize (R k).g = gg at *
        go_upto_region 11 with fail
        generalize wr.setCell ⟨pp, 1, none⟩ (.slice u9 (without m (R k).ct.ws).length q9) = WW at *
        have cB2 := CB2.out
        have cP3 := CP3.out
        have d0 := D0.out
        have dS := DS.out
        have dF := DF.out
        clear c0 c1 cB cP hf1
        go_wp2_with fail
        try go_ret
        exact ⟨rfl, _, HN1.out, HN2.out, HCU.out⟩
  · rw [if_neg hz]
    have HD : Hid (DidR rb v R w C w) := didR_same h hC (Below.refl _ _)
    clear h hC
    generalize eTakeC C d n s = E at *
    have hq : ((E : Int) != 0) = true := by simp; omega
    go_enter Try.func29, Try.ntmps29
    go_wp2_with fail
    refine HK.out.mono ?_
    rintro e w1 ⟨rfl, rfl⟩
    go_wp2_with fail
    try go_ret
    exact ⟨rfl, HD.out⟩
end Go.Proofs.Ytnpioaidbmllkaa
