/- The law CodeBack returns true at every input, and writes nothing that was there. -/
import Derived.Test.YteiddjjakemklabCdBack
import Derived.OpenShut
namespace Go.Proofs.Yteiddjjakemklab
open Go.RowKit
/-- is i among the first k? -/
def gone (zs : List Int) (k i : Nat) : Bool := (zs.take k).any fun z => decide (z = (i : Int))
theorem gone_zero (zs : List Int) (i : Nat) : gone zs 0 i = false := rfl
theorem gone_succ {zs : List Int} {k : Nat} {z : Int} (h : zs[k]? = some z) (i : Nat) : gone zs (k + 1) i = (gone zs k i || decide (z = (i : Int))) := by
  unfold gone
  rw [List.take_add_one, h]
  simp [List.any_append]
theorem gone_out {zs : List Int} {k : Nat} {z : Int} (h : zs[k]? = some z) (hz : z < 0 ∨ 9 ≤ z) {i : Nat} (hi : i < 9) : gone zs (k + 1) i = gone zs k i := by
  rw [gone_succ h, decide_eq_false (by omega), Bool.or_false]
def BkRel (data : List ByteArray) (L : Nat) (zs : List Int) (junk : ByteArray) (hb lb : Nat) (w wr : World) (k : Nat) : Prop :=
  FnAt wr hb 4 9 (fun i => .bool (!gone zs k i)) ∧ StAt wr lb 9 9 (fun i => .string (if gone zs k i then junk else sh data L i)) ∧ Below hb w wr
theorem bk_out {data : List ByteArray} {L : Nat} {zs : List Int} {junk : ByteArray} {hb lb : Nat} {w wr : World} {k : Nat} (h : BkRel data L zs junk hb lb w wr k) {z : Int} (hz : zs[k]? = some z) (ho : z < 0 ∨ 9 ≤ z) : BkRel data L zs junk hb lb w wr (k + 1) :=
  ⟨h.1.congr fun p hp => by rw [gone_out hz ho hp], h.2.1.congr fun p hp => by rw [gone_out hz ho hp], h.2.2⟩
theorem bk_in {data : List ByteArray} {L : Nat} {zs : List Int} {junk : ByteArray} {hb lb : Nat} {w wr : World} {k : Nat} (h : BkRel data L zs junk hb lb w wr k) {p : Nat} (hz : zs[k]? = some (p : Int)) (hlb : hb < lb) :
    BkRel data L zs junk hb lb w ((wr.setCell ⟨hb, p, none⟩ (.bool false)).setCell ⟨lb, p, none⟩ (.string junk)) (k + 1) := by
  refine ⟨((h.1.set p (.bool false)).other (a := ⟨lb, p, none⟩) (Nat.ne_of_lt hlb) _).congr fun i _ => ?_, ((h.2.1.other (a := ⟨hb, p, none⟩) (Nat.ne_of_gt hlb) _).set p _).congr fun i _ => ?_, (h.2.2.setCell (p := ⟨hb, p, none⟩) (Nat.le_refl _) _).setCell (p := ⟨lb, p, none⟩) (Nat.le_of_lt hlb) _⟩
  · rw [gone_succ hz]
    by_cases e : i = p
    · subst e; simp
    · rw [if_neg e, decide_eq_false (by omega), Bool.or_false]
  · rw [gone_succ hz]
    by_cases e : i = p
    · subst e; simp
    · rw [if_neg e, decide_eq_false (by omega), Bool.or_false]
def hvL (zs : List Int) : List Bool := (List.range 9).map fun i => !gone zs zs.length i
def lsL (data : List ByteArray) (L : Nat) (zs : List Int) (junk : ByteArray) : List ByteArray := (List.range 9).map fun i => if gone zs zs.length i then junk else sh data L i
def cntTo (zs : List Int) (k : Nat) : Nat := ((List.range k).filter fun i => (hvL zs)[i]?.getD false).length
theorem hv_at {zs : List Int} {i : Nat} (hi : i < 9) : (hvL zs)[i]? = some (!gone zs zs.length i) := by simp [hvL, hi]
theorem cntTo_succ {zs : List Int} {k : Nat} (hk : k < 9) : cntTo zs (k + 1) = cntTo zs k + (if gone zs zs.length k then 0 else 1) := by
  unfold cntTo
  rw [List.range_succ, List.filter_append, List.length_append]
  congr 1
  cases h : gone zs zs.length k <;> simp [List.filter, hv_at hk, h]
theorem cntTo_le (zs : List Int) (k : Nat) : cntTo zs k ≤ k := by
  have := List.length_filter_le (fun i => (hvL zs)[i]?.getD false) (List.range k)
  rw [List.length_range] at this
  exact this
theorem cntTo_nine (zs : List Int) : cntTo zs 9 = cntOf (hvL zs) := rfl
set_option maxRecDepth 100000 in
set_option maxHeartbeats 2000000 in
theorem back_big (a0 : Option Addr) (l0 c0 : Nat) (a1 : Option Addr) (l1 c1 : Nat) (s : ByteArray) (w : World) (ls : List ByteArray) (hl : ls.length = l0) (h63 : l0 ≤ 9223372036854775807) (hS : StrsAt w a0 ls) (hl1 : l1 ≤ 9223372036854775807) (hs : s.size ≤ 9223372036854775807)
    (h : smallB ls 6 60 = false ∨ 9 < l1 ∨ 100 < s.size) :
    Calls Try.prog 6 #[.slice a0 l0 c0, .slice a1 l1 c1, .string s] w fun e w' => e = .returned (.bool true) ∧ Below w.heap.size w w' := by
  have HL := hide hl
  have HS := hide hS
  have H := hide h
  clear hl hS h
  rcases (show smallB ls 6 60 = false ∨ (smallB ls 6 60 = true ∧ 9 < l1) ∨ (smallB ls 6 60 = true ∧ l1 ≤ 9 ∧ 100 < s.size) by
    have := H.out
    cases h : smallB ls 6 60
    · exact .inl rfl
    · rw [h] at this; simp at this; right; simp; omega) with h1 | ⟨h1, h2⟩ | ⟨h1, h2, h3⟩
  all_goals
    clear H
    go_enter Try.func6, Try.ntmps6
    go_wp2_with fail
    refine (small_wide a0 l0 c0 6 60 ls _ HL.out h63 HS.out).mono ?_
    rintro e w1 ⟨he, rfl⟩
    rw [h1] at he; subst he
    go_wp2_with fail
    refine (live_any _).mono ?_
    rintro e w2 ⟨rfl, hb2⟩
    go_wp2_with fail
    go_ret
    exact ⟨rfl, hb2⟩
set_option maxRecDepth 100000 in
set_option maxHeartbeats 2000000 in
theorem back_none (a0 : Option Addr) (l0 c0 : Nat) (a1 : Option Addr) (l1 c1 : Nat) (s : ByteArray) (w : World) (ls : List ByteArray) (hl : ls.length = l0) (hS : StrsAt w a0 ls)
    (h : smallB ls 6 60 = true) (h1 : l1 ≤ 9) (h2 : s.size ≤ 100) (hb : l0 ≠ 6 ∨ al ls = false) :
    Calls Try.prog 6 #[.slice a0 l0 c0, .slice a1 l1 c1, .string s] w fun e w' => e = .returned (.bool true) ∧ Below w.heap.size w w' := by
  have h63 : l0 ≤ 6 := by have := (small_iff.1 h).2; omega
  have HL := hide hl
  have HS := hide hS
  have HB := hide hb
  have H := hide h
  clear hl hS hb h
  go_enter Try.func6, Try.ntmps6
  go_wp2_with fail
  refine (small_wide a0 l0 c0 6 60 ls _ HL.out (by omega) HS.out).mono ?_
  rintro e w1 ⟨he, rfl⟩
  rw [H.out] at he; subst he
  go_wp2_with fail
  refine (new_any _).mono ?_
  rintro e w1 ⟨rfl, ht, hb1⟩
  have HT := hide ht
  have HB1 := hide hb1
  clear ht hb1
  go_wp2_with fail
  have hE : Calls Try.prog 12 #[.pointer (some ⟨w.heap.size, 0, none⟩), .slice a0 l0 c0] w1 fun e w' => e = .returned noStrs ∧ w1 = w' := by
    by_cases h6 : l0 = 6
    · subst h6
      exact encode_unlike _ a0 c0 ls _ HL.out (HS.out.below HB1.out) (by have := HB.out; simpa using this)
    · exact encode_many _ a0 l0 c0 _ h6
  refine hE.mono ?_
  rintro e w2 ⟨rfl, rfl⟩
  simp only [noStrs]
  go_wp2_with fail
  refine (live_any _).mono ?_
  rintro e w2 ⟨rfl, hb2⟩
  go_wp2_with fail
  go_ret
  exact ⟨rfl, HB1.out.trans (hb2.mono HB1.out.size)⟩
theorem hv9_true {w : World} {t : TypeId} : FnAt (w.alloc (.cells #[.bool true, .bool true, .bool true, .bool true, .bool true, .bool true, .bool true, .bool true, .bool true] t)) w.heap.size t 9 (fun _ => .bool true) := by
  have := heap_alloc_new w (.cells (fnC 9 fun _ => .bool true) t)
  exact this
theorem nine_news {w : World} {g : Nat} {ls : List ByteArray} {L : Nat} (h : FnAt w g 9 9 (fun i => .string (sh ls L i))) : ∀ j u, ((nine ls L).map Value.string)[j]? = some u → w.cell? ((⟨g, 0, none⟩ : Addr).add j) = some u := by
  intro j u hj
  have hi : j < 9 := by have := (List.getElem?_eq_some_iff.1 hj).1; rw [List.length_map, nine_len] at this; exact this
  rw [List.getElem?_map, nine_at _ _ hi] at hj
  rw [add_plain, Nat.zero_add, h.cell hi]
  exact hj
theorem nine_one {ls : List ByteArray} {L : Nat} : ∀ u ∈ (nine ls L).map Value.string, u.oneCell' = true := by
  intro u hu
  rw [List.mem_map] at hu
  obtain ⟨x, _, rfl⟩ := hu
  rfl
def OneSet (w2 : World) : World := w2.alloc (.cells #[.bool true, .bool true, .bool true, .bool true, .bool true, .bool true, .bool true, .bool true, .bool true] 4)
theorem back_start {w2 w3 : World} {v' : Value} {ls : List ByteArray} {L : Nat} {s : ByteArray} {zs : List Int} (hown : w3.ownsRow (w2.heap.size + 1) 9 1 v' (0 + 9) ([] ++ (nine ls L).map Value.string)) (hgr : (OneSet w2).grownBy w3 none) :
    ∃ lb cap, v' = .slice (some ⟨lb, 0, none⟩) 9 cap ∧ w2.heap.size < lb ∧ 9 ≤ cap ∧ cap ≤ 9223372036854775807 ∧ Hid (BkRel ls L zs s w2.heap.size lb w2 w3 0) := by
  have hown' : w3.ownsRow (w2.heap.size + 1) 9 1 v' 9 ((nine ls L).map Value.string) := hown
  obtain ⟨lb, cap, e, hb, hc, hm, hst⟩ := StAt.of_row hown' (by decide)
  have hB : Below (w2.heap.size + 1) (OneSet w2) w3 := (Below.refl _ _).grown hgr (by simp [OneSet]) (fun k h => by cases h)
  refine ⟨lb, cap, e, hb, hc, hm, ?_, hst.congr fun i hi => ?_, ((Below.refl _ _).alloc (Nat.le_refl _) _).trans (hB.mono (by omega))⟩
  · exact FnAt.below (w := OneSet w2) hv9_true hB (by omega)
  · rw [List.getElem?_map, nine_at _ _ hi]; rfl
set_option maxRecDepth 100000 in
set_option maxHeartbeats 4000000 in
theorem back_good (a0 : Option Addr) (c0 : Nat) (a1 : Option Addr) (l1 c1 L : Nat) (s : ByteArray) (w : World) (ls : List ByteArray) (hl : ls.length = 6) (hS : StrsAt w a0 ls)
    (h : smallB ls 6 60 = true) (h1 : l1 ≤ 9) (h2 : s.size ≤ 100) (hz : ∀ s ∈ ls, s.size = L) (hLb : L ≤ 60) (zs : List Int) (hzs : zs.length = l1) (hN : NumsAt w a1 zs) :
    Calls Try.prog 6 #[.slice a0 6 c0, .slice a1 l1 c1, .string s] w fun e w' => e = .returned (.bool true) ∧ Below w.heap.size w w' := by
  have HL := hide hl
  have HS := hide hS
  have HZ := hide hz
  have H := hide h
  have HN := hide hN
  have HZS := hide hzs
  clear hl hS hz h hN hzs
  obtain ⟨i0, hi, hz0, hz1, hz2⟩ := info_parts str_info
  have HI := hide hi
  have HI0 := hide hz0
  have HI1 := hide hz1
  have HI2 := hide hz2
  clear hi hz0 hz1 hz2
  go_enter Try.func6, Try.ntmps6
  go_wp2_with fail
  refine (small_wide a0 6 c0 6 60 ls _ HL.out (by omega) HS.out).mono ?_
  rintro e w1 ⟨he, rfl⟩
  rw [H.out] at he; subst he
  go_wp2_with fail
  refine (new_any _).mono ?_
  rintro e w1 ⟨rfl, ht, hb1⟩
  have HT := hide ht
  have HB1 := hide hb1
  clear ht hb1
  go_wp2_with fail
  refine (encode_any _ a0 c0 L ls _ HT.out HL.out (HS.out.below HB1.out) HZ.out (by omega)).mono ?_
  rintro e w2 ⟨rfl, hf2, hb2⟩
  have hT2 := HT.out.below hb2 HT.out.lt
  have hB2 : Below w.heap.size w w2 := HB1.out.trans (hb2.mono HB1.out.size)
  have HF2 := hide hf2
  have HT2 := hide hT2
  have HB2 := hide hB2
  have hg2 : w1.heap.size < w2.heap.size := hf2.lt
  have hg0 : w.heap.size < w1.heap.size := HT.out.lt
  clear hf2 hb2 hT2 hB2 HT HB1
  generalize w1.heap.size = g at *
  have ha : FnAt (w2.alloc (.cells #[.bool true, .bool true, .bool true, .bool true, .bool true, .bool true, .bool true, .bool true, .bool true] 4)) g 9 9 (fun i => .string (sh ls L i)) := HF2.out.alloc _
  have HA := hide ha
  clear ha
  go_wp2_with (first | (at_builtin; refine wpList_append_own _ rfl (.tmp 50) (.tmp 51) 30 rfl (w2.heap.size + 1) 9 i0 (.string ByteArray.empty) 1 16 Try.underlying30 HI.out HI0.out HI1.out HI2.out rfl (by decide) _ 0 [] rfl (World.ownsRow_nil _ _ _ _) ⟨g, 0, none⟩ 9 9 ((nine ls L).map Value.string) rfl (by simp [nine_len]) (nine_news HA.out) nine_one (by unfold maxLen; omega) (by omega) (by simp) ?_; intro v' w3 hown hgr hnil; clear hnil; obtain ⟨lb, cap, hv', hlb, hcap, hcm, HW3⟩ := back_start (s := s) (zs := zs) hown hgr; subst hv'; clear hown hgr))
  clear HA
  have hlw : lb < w3.heap.size := HW3.out.2.1.lt
  have HT3 := hide (HT2.out.below HW3.out.2.2 HT2.out.lt)
  have HB3 := hide (HB2.out.trans (HW3.out.2.2.mono HB2.out.size))
  have HF3 := hide (HF2.out.below HW3.out.2.2 hg2)
  have HT3w : w.heap.size < w2.heap.size := HT2.out.lt
  generalize w2.heap.size = hb at *
  go_loopw [12] (fun y wr => ∃ k : Nat, k ≤ l1 ∧ y = .int .i64 k ∧ BkRel ls L zs s hb lb w2 wr k) (fun y _ => l1 - (intOf y).toNat)
  case atStart => exact ⟨0, by omega, rfl, HW3.out⟩
  case round =>
    obtain ⟨k, hk, rfl, hrel⟩ := hrel
    have HR := hide hrel
    clear hrel
    by_cases hlt : k < l1
    · have hdj : decide ((k : Int) < l1) = true := by simp; omega
      obtain ⟨z, hz⟩ : ∃ z, zs[k]? = some z := ⟨_, List.getElem?_eq_getElem (by have := HZS.out; omega)⟩
      rcases HN.out with h | ⟨ba, o, rfl, hba, hc⟩
      · rw [h] at hz; simp at hz
      have hck : wr.cell? ⟨ba, o + k, none⟩ = some (.int .i64 z) := (HR.out.2.2.cell (p := ⟨ba, o + k, none⟩) (show ba < hb by omega)).trans ((HB2.out.cell (p := ⟨ba, o + k, none⟩) hba).trans (hc k z hz))
      have HK := hide hz
      clear hz hc
      rcases Int.lt_or_le z 0 with hz | hz
      · go_wp2_with fail
        go_roundw
        case rel => exact ⟨k + 1, by omega, by go_num, bk_out HR.out HK.out (.inl hz)⟩
        case measure => simp [intOf]; omega
      rcases Int.lt_or_le z 9 with hz9 | hz9
      · obtain ⟨p, rfl⟩ := Int.eq_ofNat_of_zero_le hz
        have hp : p < 9 := by omega
        have hc1 := HR.out.1.cell hp
        have hf1 := HR.out.1.free p
        have hc2 := HR.out.2.1.cell hp
        have hf2 := HR.out.2.1.free p
        have hne1 : ba ≠ hb := by omega
        have hne2 : lb ≠ hb := by omega
        have hne3 : ba ≠ lb := by omega
        have hw1 : hb < wr.heap.size := HR.out.1.lt
        have hw2 : lb < wr.heap.size := HR.out.2.1.lt
        go_wp2_with fail
        go_roundw
        case rel => exact ⟨k + 1, by omega, by go_num, bk_in HR.out HK.out (by omega)⟩
        case measure => simp [intOf]; omega
      · go_wp2_with fail
        go_roundw
        case rel => exact ⟨k + 1, by omega, by go_num, bk_out HR.out HK.out (.inr hz9)⟩
        case measure => simp [intOf]; omega
    · have hkl : k = zs.length := by have := HZS.out; omega
      have hrel := HR.out
      rw [hkl] at hrel
      have hlen : wr.heap.size > lb := hrel.2.1.lt
      have hT : TabAt wr w.heap.size := HT2.out.below hrel.2.2 HT3w
      have hB : Below w.heap.size w wr := HB2.out.trans (hrel.2.2.mono (by omega))
      have hF : FnAt wr g 9 9 (fun i => .string (sh ls L i)) := HF2.out.below hrel.2.2 (by omega)
      have h1 := hide hrel.1
      have h2 := hide hrel.2.1
      have HT4 := hide hT
      have HB4 := hide hB
      have HF4 := hide hF
      clear hT hB hF hrel HR HT2 HB2 HF2 HT3 HB3 HF3 HW3
      go_wp2_with fail
      go_loop [13, 14] (fun n i => ∃ j : Nat, j ≤ 9 ∧ i = .int .i64 j ∧ n = .int .i64 (cntTo zs j : Nat)) (fun _ i => 9 - (intOf i).toNat)
      case atStart => exact ⟨0, by omega, rfl, rfl⟩
      case round =>
        obtain ⟨j, hj, rfl, rfl⟩ := hrel
        have hcn := cntTo_le zs j
        by_cases hjl : j < 9
        · have hck := h1.out.cell hjl
          by_cases hgo : gone zs zs.length j = true
          · rw [hgo] at hck
            go_wp2_with fail
            go_round
            case rel => exact ⟨j + 1, by omega, by go_num, by rw [cntTo_succ hjl, if_pos hgo]; rfl⟩
            case measure => simp [intOf]; omega
          · have hgo' : gone zs zs.length j = false := by simpa using hgo
            rw [hgo'] at hck
            go_wp2_with fail
            go_round
            case rel => exact ⟨j + 1, by omega, by go_num, by rw [cntTo_succ hjl, if_neg hgo]; go_num⟩
            case measure => simp [intOf]; omega
        · obtain rfl : j = 9 := by omega
          rw [cntTo_nine] at *
          go_wp2_with fail
          refine (fill_back w.heap.size lb 0 hb 0 cap 9 L (lsL ls L zs s) (hvL zs) ls _ HT4.out (by simp [lsL]) (by simp [hvL]) h2.out.lt h1.out.lt (by omega) HL.out HZ.out (fun i hi hh => ?_) (fun i x hx => ?_) (fun i x hx => ?_)).mono ?_
          · rw [hv_at hi] at hh
            simp at hh
            simp [lsL, hi, hh]
          · have hi : i < 9 := by have := (List.getElem?_eq_some_iff.1 hx).1; simpa [lsL] using this
            simp [lsL, hi] at hx
            rw [Nat.zero_add, h2.out.cell hi, hx]
          · have hi : i < 9 := by have := (List.getElem?_eq_some_iff.1 hx).1; simpa [hvL] using this
            rw [hv_at hi] at hx
            cases hx
            rw [Nat.zero_add, h1.out.cell hi]
          rintro e w5 (⟨h6, rfl, hb5⟩ | ⟨h6, gg, rfl, hgg, hf5, hb5⟩)
          · have HB5 := hide (HB4.out.trans (hb5.mono HB4.out.size))
            clear hb5
            go_wp2_with fail
            refine (live_any _).mono ?_
            rintro e w6 ⟨rfl, hb6⟩
            go_wp2_with fail
            go_ret
            exact ⟨rfl, HB5.out.trans (hb6.mono HB5.out.size)⟩
          · have HB5 := hide (HB4.out.trans (hb5.mono HB4.out.size))
            have HF5 := hide (HF4.out.below hb5 HF4.out.lt)
            have HG5 := hide hf5
            clear hb5 hf5
            go_wp2_with fail
            refine (same_any _ _ 9 9 9 9 (nine ls L) (nine ls L) _ (nine_len _ _) (nine_len _ _) (by omega) (by omega) HG5.out.nine HF5.out.nine).mono ?_
            rintro e w6 ⟨he, q6, rfl⟩
            rw [decide_eq_true (rfl : nine ls L = nine ls L)] at he; subst he
            go_wp2_with fail
            refine (live_any _).mono ?_
            rintro e w6 ⟨rfl, hb6⟩
            go_wp2_with fail
            go_ret
            exact ⟨rfl, (below_draws HB5.out q6).trans (hb6.mono HB5.out.size)⟩
theorem walkCodeBack (a0 : Option Addr) (l0 c0 : Nat) (a1 : Option Addr) (l1 c1 : Nat) (s : ByteArray) (w : World) (w0 : Came 30 w a0 l0 c0) (w1 : Came 43 w a1 l1 c1) (w2 : s.data.toList.length ≤ reachBytes) :
    Calls Try.prog 6 #[.slice a0 l0 c0, .slice a1 l1 c1, .string s] w fun e w' => e = .returned (.bool true) ∧ Below w.heap.size w w' := by
  obtain ⟨ls, hl, hc, hm, hS⟩ := came_strs w0
  obtain ⟨zs, hl1, hc1, hm1, hN⟩ := came_nums w1
  have hs : s.size ≤ reachBytes := by simpa using w2
  have hr : reachBytes < 2 ^ 47 := by decide
  by_cases hbig : smallB ls 6 60 = false ∨ 9 < l1 ∨ 100 < s.size
  · exact back_big a0 l0 c0 a1 l1 c1 s w ls hl hm hS hm1 (by omega) hbig
  · have h1 : smallB ls 6 60 = true := by cases h : smallB ls 6 60 <;> simp [h] at hbig ⊢
    have h2 : l1 ≤ 9 := by omega
    have h3 : s.size ≤ 100 := by omega
    by_cases hb : l0 ≠ 6 ∨ al ls = false
    · exact back_none a0 l0 c0 a1 l1 c1 s w ls hl hS h1 h2 h3 hb
    · have h6 : l0 = 6 := by omega
      have hal : al ls = true := by cases h : al ls <;> simp [h] at hb ⊢
      subst h6
      refine back_good a0 c0 a1 l1 c1 _ s w ls hl hS h1 h2 h3 (al_size hal) ?_ zs hl1 hN
      have h0 : ls[0]? = some ls[0] := List.getElem?_eq_getElem (by omega)
      have := (small_iff.1 h1).1 ls[0] (List.getElem_mem _)
      rw [h0]
      show ls[0].size ≤ 60
      omega
end Go.Proofs.Yteiddjjakemklab
