/- The text of six parts: what the reference's Join answers. -/
import Derived.Test.YtomcdajoeakhdaaDoorNeJoin
namespace Go.Proofs.YtomcdajoeakhdaaDoor
open Go.RowKit
set_option linter.unusedVariables false
theorem take_snoc {α : Type} {l : List α} {k : Nat} {x : α} (h : l[k]? = some x) : l.take (k + 1) = l.take k ++ [x] := by rw [List.take_add_one, h]; rfl
set_option maxRecDepth 100000 in
set_option maxHeartbeats 4000000 in
theorem rjoin_len (a : Option Addr) (m c : Nat) (n : Int) (w : World) (h : m ≠ 6 ∨ n < 0 ∨ 384 < n) : Calls Tryd.prog 26 #[.slice a m c, .int .i64 n] w fun r w' => r = .returned (.tuple #[.string ByteArray.empty, .int .i64 1]) ∧ Below w.heap.size w w' := by
  have HB : Hid (Below w.heap.size w w) := Below.refl _ _
  by_cases h6 : m = 6
  case neg =>
    have q1 : ((m : Int) == 6) = false := by simp; omega
    have q2 : ((m : Int) != 6) = true := by simp; omega
    clear h
    go_enter Tryd.func26, Tryd.ntmps26
    go_wp2_with fail
    try go_ret2
    exact ⟨rfl, HB.out⟩
  subst h6
  by_cases hn0 : n < 0
  · have q0 : decide (n < 0) = true := by simp; omega
    clear h
    go_enter Tryd.func26, Tryd.ntmps26
    go_wp2_with fail
    try go_ret2
    exact ⟨rfl, HB.out⟩
  have q0 : decide (n < 0) = false := by simp; omega
  have q4 : decide (384 < n) = true := by simp; omega
  clear h
  go_enter Tryd.func26, Tryd.ntmps26
  go_wp2_with fail
  try go_ret2
  exact ⟨rfl, HB.out⟩
set_option maxRecDepth 100000 in
set_option maxHeartbeats 8000000 in
theorem rjoin_six (a : Option Addr) (c : Nat) (l : List ByteArray) (n : Nat) (w : World) (hS : StrsAt w a l) (hl : l.length = 6) (hn : n ≤ 384) : Calls Tryd.prog 26 #[.slice a 6 c, .int .i64 (n : Int)] w fun r w' => r = .returned (.tuple #[.string (jT l n), .int .i64 (jE l n)]) ∧ Below w.heap.size w w' := by
  have HB : Hid (Below w.heap.size w w) := Below.refl _ _
  have HL := hide hl
  obtain ⟨b, o, rfl, hb, hc⟩ : ∃ b o, a = some ⟨b, o, none⟩ ∧ b < w.heap.size ∧ ∀ i s, l[i]? = some s → w.cell? ⟨b, o + i, none⟩ = some (.string s) := by
    rcases hS with h | h
    · have := HL.out; rw [h] at this; simp at this
    · exact h
  have HC := hide hc
  clear hS hc hl
  have HJ1 := hide (fun h => j_arg (l := l) (n := (n : Int)) h)
  have HJ4 := hide (fun h6 hz => j_form (l := l) (k := n) h6 hn hz)
  have HJ0 := hide (fun h6 hz => j_ok (l := l) (k := n) h6 hn hz)
  generalize jE l n = JE at *
  generalize jT l n = JT at *
  have q0 : decide ((n : Int) < 0) = false := by simp
  have q4 : decide ((384 : Int) < (n : Int)) = false := by simp; omega
  have hni : (n : Int) ≤ 384 := by omega
  go_enter Tryd.func26, Tryd.ntmps26
  go_wp2_with fail
  go_loop [6, 7] (fun x y => ∃ j : Nat, j ≤ 6 ∧ y = .int .i64 j ∧ x = .string (catB (l.take j)) ∧ ∀ z ∈ l.take j, z.size = 64) (fun _ y => 6 - (intOf y).toNat)
  case atStart => exact ⟨0, by omega, rfl, rfl, fun z hz => by simp at hz⟩
  case round =>
    obtain ⟨j, hj, rfl, rfl, hok⟩ := hrel
    have HOK := hide hok
    have hz := catB_size _ hok
    rw [List.length_take, HL.out, Nat.min_eq_left hj] at hz
    clear hok
    by_cases hlt : j < 6
    · have hd : decide ((j : Int) < 6) = true := by simp; omega
      have hdi : (j : Int) < 6 := by omega
      obtain ⟨x, hx⟩ : ∃ x, l[j]? = some x := ⟨_, List.getElem?_eq_getElem (by have := HL.out; omega)⟩
      have hcx := HC.out j x hx
      have HX := hide hx
      clear hx
      by_cases h64 : x.size = 64
      · have q1 : ((x.size : Int) == 64) = true := by simp; omega
        have q2 : ((x.size : Int) != 64) = false := by simp; omega
        have HE : Hid (catB (l.take (j + 1)) = catB (l.take j) ++ x) := by show _ = _; rw [take_snoc HX.out, catB_snoc]
        have HO : Hid (∀ z ∈ l.take (j + 1), z.size = 64) := fun z hz => by
          rw [take_snoc HX.out] at hz
          rcases List.mem_append.1 hz with q | q
          · exact HOK.out z q
          · rw [List.mem_singleton.1 q]; exact h64
        have h64' := h64
        clear h64
        generalize catB (l.take j) = L at *
        go_wp2_with fail
        exact ⟨⟨j + 1, by omega, by go_num, by rw [HE.out], HO.out⟩, by simp [intOf]; omega⟩
      · have q1 : ((x.size : Int) == 64) = false := by simp; omega
        have q2 : ((x.size : Int) != 64) = true := by simp; omega
        have hno : ¬ (ok6 l ∧ 0 ≤ (n : Int) ∧ (n : Int) ≤ 384) := fun h => h64 (h.1.2 x (List.mem_of_getElem? HX.out))
        obtain ⟨e1, e2⟩ := HJ1.out hno
        subst e1 e2
        clear h64 hno
        generalize catB (l.take j) = L at *
        go_wp2_with fail
        try go_ret2
        exact ⟨rfl, HB.out⟩
    · have hd : decide ((j : Int) < 6) = false := by simp; omega
      obtain rfl : j = 6 := by omega
      have HA : Hid (ok6 l) := ⟨HL.out, fun z hz => HOK.out z (by rw [List.take_of_length_le (by have := HL.out; omega)]; exact hz)⟩
      rw [List.take_of_length_le (by have := HL.out; omega)] at hz ⊢
      generalize catB l = C at *
      clear hlt hd
      go_wp2_with fail
      go_loop [8] (fun y => ∃ q : Nat, n ≤ q ∧ q ≤ 384 ∧ y = .int .i64 q ∧ ∀ p, n ≤ p → p < q → bt C p = 0) (fun y => 384 - (intOf y).toNat)
      case atStart => exact ⟨n, by omega, by omega, rfl, fun p h1 h2 => by omega⟩
      case round =>
        obtain ⟨q, hq1, hq2, rfl, hz0⟩ := hrel
        have HZ0 := hide hz0
        clear hz0
        by_cases hlt : q < 384
        · have hd : decide ((q : Int) < 384) = true := by simp; omega
          have hdi : (q : Int) < 384 := by omega
          have hqs : q < C.size := by omega
          have HBt := hide (bt_eq hqs)
          have hqi : (q : Int) < (C.size : Int) := by omega
          generalize hcc : (C[q]'hqs).toNat = cc at *
          by_cases hc0 : cc = 0
          · have e1 : ((cc : Int) == 0) = true := by simp; omega
            have e2 : ((cc : Int) != 0) = false := by simp; omega
            have HN : Hid (∀ p, n ≤ p → p < q + 1 → bt C p = 0) := fun p h1 h2 => by
              by_cases e : p = q
              · rw [e, ← HBt.out]; exact hc0
              · exact HZ0.out p h1 (by omega)
            clear hc0
            go_wp2_with fail
            exact ⟨⟨q + 1, by omega, by omega, by go_num, HN.out⟩, by simp [intOf]; omega⟩
          · have e1 : ((cc : Int) == 0) = false := by simp; omega
            have e2 : ((cc : Int) != 0) = true := by simp; omega
            have hno : ¬ zFrom C n := fun h => hc0 (by have := h q hq1 hqs; rw [← HBt.out] at this; exact this)
            obtain ⟨e3, e4⟩ := HJ4.out HA.out hno
            subst e3 e4
            clear hc0 hno
            go_wp2_with fail
            try go_ret2
            exact ⟨rfl, HB.out⟩
        · have hd : decide ((q : Int) < 384) = false := by simp; omega
          have hyes : zFrom C n := fun p h1 h2 => HZ0.out p h1 (by omega)
          obtain ⟨e3, e4⟩ := HJ0.out HA.out hyes
          subst e3 e4
          clear hyes
          have hnC : (n : Int) ≤ (C.size : Int) := by omega
          go_wp2_with fail
          try go_ret2
          exact ⟨rfl, HB.out⟩
theorem rjoin_any (a : Option Addr) (c : Nat) (l : List ByteArray) (n : Int) (w : World) (hS : StrsAt w a l) (h63 : l.length ≤ 9223372036854775807) : Calls Tryd.prog 26 #[.slice a l.length c, .int .i64 n] w fun r w' => r = .returned (.tuple #[.string (jT l n), .int .i64 (jE l n)]) ∧ Below w.heap.size w w' := by
  by_cases h : l.length ≠ 6 ∨ n < 0 ∨ 384 < n
  · obtain ⟨e1, e2⟩ := j_arg (l := l) (n := n) fun q => by
      rcases h with h | h | h
      · exact h q.1.1
      · omega
      · omega
    rw [e1, e2]
    exact rjoin_len a l.length c n w h
  · have h6 : l.length = 6 := by omega
    obtain ⟨k, rfl⟩ := Int.eq_ofNat_of_zero_le (show 0 ≤ n by omega)
    rw [h6]
    exact rjoin_six a c l k w hS h6 (by omega)
end Go.Proofs.YtomcdajoeakhdaaDoor
