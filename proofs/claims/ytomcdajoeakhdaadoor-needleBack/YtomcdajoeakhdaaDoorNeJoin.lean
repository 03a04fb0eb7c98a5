/- The text of six parts: what needle.Join and the reference's answer. -/
import Derived.Test.YtomcdajoeakhdaaDoorNeShard
namespace Go.Proofs.YtomcdajoeakhdaaDoor
open Go.RowKit
set_option linter.unusedVariables false
def ok6 (l : List ByteArray) : Prop := l.length = 6 ∧ ∀ x ∈ l, x.size = 64
open Classical in
noncomputable def s6 (l : List ByteArray) : Bool := decide (ok6 l)
open Classical in
theorem s6_no {l : List ByteArray} (h : ¬ ok6 l) : false = s6 l := by unfold s6; rw [decide_eq_false h]
open Classical in
theorem s6_yes {l : List ByteArray} (h : ok6 l) : true = s6 l := by unfold s6; rw [decide_eq_true h]
/-- from byte n on all are 0 -/
def zFrom (s : ByteArray) (n : Nat) : Prop := ∀ p, n ≤ p → p < s.size → bt s p = 0
open Classical in
noncomputable def jE (l : List ByteArray) (n : Int) : Int := if ok6 l ∧ 0 ≤ n ∧ n ≤ 384 then (if zFrom (catB l) n.toNat then 0 else 4) else 1
open Classical in
noncomputable def jT (l : List ByteArray) (n : Int) : ByteArray := if jE l n = 0 then (catB l).extract 0 n.toNat else ByteArray.empty
theorem j_arg {l : List ByteArray} {n : Int} (h : ¬ (ok6 l ∧ 0 ≤ n ∧ n ≤ 384)) : jE l n = 1 ∧ jT l n = ByteArray.empty := by
  have e : jE l n = 1 := by unfold jE; rw [if_neg h]
  exact ⟨e, by unfold jT; rw [e, if_neg (by decide)]⟩
theorem j_form {l : List ByteArray} {k : Nat} (h : ok6 l) (hk : k ≤ 384) (hz : ¬ zFrom (catB l) k) : jE l k = 4 ∧ jT l k = ByteArray.empty := by
  have e : jE l k = 4 := by unfold jE; rw [if_pos ⟨h, by omega, by omega⟩, if_neg (by simpa using hz)]
  exact ⟨e, by unfold jT; rw [e, if_neg (by decide)]⟩
theorem j_ok {l : List ByteArray} {k : Nat} (h : ok6 l) (hk : k ≤ 384) (hz : zFrom (catB l) k) : jE l k = 0 ∧ jT l k = (catB l).extract 0 k := by
  have e : jE l k = 0 := by unfold jE; rw [if_pos ⟨h, by omega, by omega⟩, if_pos (by simpa using hz)]
  exact ⟨e, by unfold jT; rw [e, if_pos rfl, Int.toNat_natCast]⟩
theorem allZ_from {s : ByteArray} {k : Nat} (hk : k ≤ s.size) : allZ (s.extract k s.size) ↔ zFrom s k := by
  have hz : (s.extract k s.size).size = s.size - k := by rw [ByteArray.size_extract]; omega
  constructor
  · intro h p h1 h2
    have := h (p - k) (by omega)
    rw [bt_extract _ _ _ _ (by omega) (by omega), show k + (p - k) = p by omega] at this
    exact this
  · intro h p hp
    rw [bt_extract _ _ _ _ (by omega) (by omega)]
    exact h _ (by omega) (by omega)
set_option maxRecDepth 100000 in
set_option maxHeartbeats 2000000 in
theorem areShards_any (a : Option Addr) (c : Nat) (l : List ByteArray) (w : World) (hS : StrsAt w a l) (h63 : l.length ≤ 9223372036854775807) : Calls Tryd.prog 43 #[.slice a l.length c] w fun r w' => r = .returned (.bool (s6 l)) ∧ w = w' := by
  obtain ⟨n, hn⟩ : ∃ n, l.length = n := ⟨_, rfl⟩
  rw [hn] at h63 ⊢
  have HN := hide hn
  clear hn
  by_cases h6 : n = 6
  case neg =>
    have q1 : ((n : Int) == 6) = false := by simp; omega
    have q2 : ((n : Int) != 6) = true := by simp; omega
    have hno : Hid (¬ ok6 l) := fun h => h6 (by rw [← HN.out]; exact h.1)
    clear hS
    go_enter Tryd.func43, Tryd.ntmps43
    go_wp2_with fail
    try go_ret
    exact ⟨ret_bool (s6_no hno.out), rfl⟩
  subst h6
  obtain ⟨b, o, rfl, hb, hc⟩ : ∃ b o, a = some ⟨b, o, none⟩ ∧ b < w.heap.size ∧ ∀ i s, l[i]? = some s → w.cell? ⟨b, o + i, none⟩ = some (.string s) := by
    rcases hS with h | h
    · have := HN.out; rw [h] at this; simp at this
    · exact h
  have HC := hide hc
  clear hS hc
  go_enter Tryd.func43, Tryd.ntmps43
  go_wp2_with fail
  go_loop [10] (fun y => ∃ j : Nat, j ≤ 6 ∧ y = .int .i64 j ∧ ∀ i x, i < j → l[i]? = some x → x.size = 64) (fun y => 6 - (intOf y).toNat)
  case atStart => exact ⟨0, by omega, rfl, fun i x hi => by omega⟩
  case round =>
    obtain ⟨j, hj, rfl, hok⟩ := hrel
    have HOK := hide hok
    clear hok
    by_cases hlt : j < 6
    · have hd : decide ((j : Int) < 6) = true := by simp; omega
      have hdi : (j : Int) < 6 := by omega
      obtain ⟨x, hx⟩ : ∃ x, l[j]? = some x := ⟨_, List.getElem?_eq_getElem (by have := HN.out; omega)⟩
      have hcx := HC.out j x hx
      have HX := hide hx
      clear hx
      by_cases h64 : x.size = 64
      · have q1 : ((x.size : Int) == 64) = true := by simp; omega
        have q2 : ((x.size : Int) != 64) = false := by simp; omega
        have H64 := hide h64
        clear h64
        go_wp2_with fail
        refine ⟨⟨j + 1, by omega, by go_num, fun i y hi hy => ?_⟩, by simp [intOf]; omega⟩
        by_cases e : i = j
        · subst e; rw [HX.out] at hy; cases hy; exact H64.out
        · exact HOK.out i y (by omega) hy
      · have q1 : ((x.size : Int) == 64) = false := by simp; omega
        have q2 : ((x.size : Int) != 64) = true := by simp; omega
        have hno : Hid (¬ ok6 l) := fun h => h64 (h.2 x (List.mem_of_getElem? HX.out))
        clear h64
        go_wp2_with fail
        try go_ret
        exact ⟨ret_bool (s6_no hno.out), rfl⟩
    · have hd : decide ((j : Int) < 6) = false := by simp; omega
      have hyes : Hid (ok6 l) := ⟨HN.out, fun x hx => by
        obtain ⟨i, hi, e⟩ := List.mem_iff_getElem.1 hx
        have hi' : i < 6 := by have := HN.out; omega
        exact HOK.out i x (by omega) (by rw [List.getElem?_eq_getElem hi, e])⟩
      go_wp2_with fail
      try go_ret
      exact ⟨ret_bool (s6_yes hyes.out), rfl⟩
set_option maxRecDepth 100000 in
set_option maxHeartbeats 4000000 in
theorem njoin_arg (a : Option Addr) (c : Nat) (l : List ByteArray) (n : Int) (w : World) (hS : StrsAt w a l) (h63 : l.length ≤ 9223372036854775807) (h : ¬ (ok6 l ∧ 0 ≤ n ∧ n ≤ 384)) : Calls Tryd.prog 25 #[.slice a l.length c, .int .i64 n] w fun r w' => r = .returned (.tuple #[.string ByteArray.empty, .int .i64 1]) ∧ Below w.heap.size w w' := by
  have H1 := hide (areShards_any a c l w hS h63)
  have HB : Hid (Below w.heap.size w w) := Below.refl _ _
  clear hS
  by_cases h6 : ok6 l
  case neg =>
    rw [← s6_no h6] at H1
    clear h h6
    generalize l.length = m at *
    go_enter Tryd.func25, Tryd.ntmps25
    go_wp2_with fail
    refine H1.out.mono ?_
    rintro e w1 ⟨rfl, rfl⟩
    go_wp2_with fail
    try go_ret2
    exact ⟨rfl, HB.out⟩
  rw [← s6_yes h6] at H1
  by_cases hn0 : n < 0
  · have q0 : decide (n < 0) = true := by simp; omega
    clear h h6
    generalize l.length = m at *
    go_enter Tryd.func25, Tryd.ntmps25
    go_wp2_with fail
    refine H1.out.mono ?_
    rintro e w1 ⟨rfl, rfl⟩
    go_wp2_with fail
    try go_ret2
    exact ⟨rfl, HB.out⟩
  have q0 : decide (n < 0) = false := by simp; omega
  have hn4 : 384 < n := by
    apply Classical.byContradiction
    intro q
    exact h ⟨h6, by omega, by omega⟩
  have q4 : decide (384 < n) = true := by simp; omega
  clear h h6
  generalize l.length = m at *
  go_enter Tryd.func25, Tryd.ntmps25
  go_wp2_with fail
  refine H1.out.mono ?_
  rintro e w1 ⟨rfl, rfl⟩
  go_wp2_with fail
  try go_ret2
  exact ⟨rfl, HB.out⟩
set_option maxRecDepth 100000 in
set_option maxHeartbeats 4000000 in
theorem njoin_six (a : Option Addr) (c : Nat) (l : List ByteArray) (k : Nat) (w : World) (hS : StrsAt w a l) (hc : l.length ≤ c) (h6 : ok6 l) (hk : k ≤ 384) : Calls Tryd.prog 25 #[.slice a l.length c, .int .i64 (k : Int)] w fun r w' => r = .returned (.tuple #[.string (jT l k), .int .i64 (jE l k)]) ∧ Below w.heap.size w w' := by
  have H1 := hide (areShards_any a c l w hS (by rw [h6.1]; omega))
  rw [← s6_yes h6] at H1
  have hz : (catB l).size = 384 := by rw [catB_size l h6.2, h6.1]
  have H2 := hide (join_any a c l w hS (by intro q; have := h6.1; rw [q] at this; simp at this) hc (by omega) (by rw [h6.1]; omega))
  have HJ4 := hide (fun hz => j_form (k := k) h6 hk hz)
  have HJ0 := hide (fun hz => j_ok (k := k) h6 hk hz)
  have HZ := hide (allZ_from (s := catB l) (k := k) (by omega))
  have hzx : ((catB l).extract k (catB l).size).size ≤ 100000 := by rw [ByteArray.size_extract]; omega
  have H3 := hide (fun w => trim_any ((catB l).extract k (catB l).size) w hzx)
  clear hS hc h6 hzx
  generalize jE l k = JE at *
  generalize jT l k = JT at *
  generalize catB l = C at *
  generalize l.length = m at *
  have q0 : decide ((k : Int) < 0) = false := by simp
  have q4 : decide ((384 : Int) < (k : Int)) = false := by simp; omega
  have hki : (k : Int) ≤ (C.size : Int) := by omega
  go_enter Tryd.func25, Tryd.ntmps25
  go_wp2_with fail
  refine H1.out.mono ?_
  rintro e w1 ⟨rfl, rfl⟩
  go_wp2_with fail
  refine H2.out.mono ?_
  rintro e w2 ⟨rfl, hb⟩
  have HB2 := hide hb
  clear hb
  go_wp2_with fail
  have HT := H3.out w2
  simp only [hz] at HT
  refine HT.mono ?_
  rintro e w3 ⟨t, rfl, ht, hb⟩
  have HB3 := hide (HB2.out.trans (hb.mono HB2.out.size))
  clear hb HT HB2
  by_cases h0 : t.size = 0
  · have he := is_empty h0
    have hzf := HZ.out.1 (by rw [hz]; exact ht.1 h0)
    obtain ⟨e1, e2⟩ := HJ0.out hzf
    subst e1 e2
    clear ht hzf h0
    go_wp2_with fail
    try go_ret2
    exact ⟨rfl, HB3.out⟩
  · have he := not_empty h0
    have hzf : ¬ zFrom C k := fun q => h0 (ht.2 (by have := HZ.out.2 q; rw [hz] at this; exact this))
    obtain ⟨e1, e2⟩ := HJ4.out hzf
    subst e1 e2
    clear ht hzf h0
    go_wp2_with fail
    try go_ret2
    exact ⟨rfl, HB3.out⟩
theorem njoin_any (a : Option Addr) (c : Nat) (l : List ByteArray) (n : Int) (w : World) (hS : StrsAt w a l) (hc : l.length ≤ c) (h63 : l.length ≤ 9223372036854775807) : Calls Tryd.prog 25 #[.slice a l.length c, .int .i64 n] w fun r w' => r = .returned (.tuple #[.string (jT l n), .int .i64 (jE l n)]) ∧ Below w.heap.size w w' := by
  by_cases h : ok6 l ∧ 0 ≤ n ∧ n ≤ 384
  · obtain ⟨h6, h0, h4⟩ := h
    obtain ⟨k, rfl⟩ := Int.eq_ofNat_of_zero_le h0
    exact njoin_six a c l k w hS hc h6 (by omega)
  · obtain ⟨e1, e2⟩ := j_arg h
    rw [e1, e2]
    exact njoin_arg a c l n w hS h63 h
end Go.Proofs.YtomcdajoeakhdaaDoor
