/- The law DigestHex returns true at every input, and writes nothing that was there. -/
import Derived.Test.YtenfjhbedcnmeaaDoorShLive
import Derived.OpenShut
namespace Go.Proofs.YtenfjhbedcnmeaaDoor
open Go.RowKit
def hexS (s : ByteArray) : ByteArray := mkS (2 * s.size) (hx (bt s))
theorem hexS_size (s : ByteArray) : (hexS s).size = 2 * s.size := mkS_size _ _
theorem hexS_bt {s : ByteArray} {p : Nat} (h : p < 2 * s.size) : bt (hexS s) p = hx (bt s) p := mkS_bt h (hx_lt (bt_lt s) p)
theorem bt_out {s : ByteArray} {p : Nat} (h : s.size ≤ p) : bt s p = 0 := by unfold bt; rw [dif_neg (by omega)]
theorem bt_append (s t : ByteArray) (p : Nat) : bt (s ++ t) p = if p < s.size then bt s p else bt t (p - s.size) := by
  by_cases h : p < s.size
  · have h' : p < (s ++ t).size := by rw [ByteArray.size_append]; omega
    rw [if_pos h, ← bt_eq h, ← bt_eq h', ByteArray.getElem_append_left h]
  · rw [if_neg h]
    by_cases h2 : p < s.size + t.size
    · have h' : p < (s ++ t).size := by rw [ByteArray.size_append]; exact h2
      have h3 : p - s.size < t.size := by omega
      rw [← bt_eq h', ← bt_eq h3, ByteArray.getElem_append_right (by omega)]
    · rw [bt_out (by rw [ByteArray.size_append]; omega), bt_out (by omega)]
theorem hexS_append (a b : ByteArray) : hexS (a ++ b) = hexS a ++ hexS b := by
  have hz : (hexS (a ++ b)).size = (hexS a ++ hexS b).size := by simp only [ByteArray.size_append, hexS_size]; omega
  apply ext_bt hz
  intro p hp
  rw [hexS_size, ByteArray.size_append] at hp
  rw [hexS_bt (by rw [ByteArray.size_append]; omega), bt_append (hexS a), hexS_size]
  by_cases c : p < 2 * a.size
  · rw [if_pos c, hexS_bt c]
    have e : bt (a ++ b) (p / 2) = bt a (p / 2) := by rw [bt_append, if_pos (by omega)]
    unfold hx
    rw [e]
  · rw [if_neg c, hexS_bt (by omega)]
    have e : bt (a ++ b) (p / 2) = bt b (p / 2 - a.size) := by rw [bt_append, if_neg (by omega)]
    unfold hx
    rw [e, show (p - 2 * a.size) % 2 = p % 2 by omega, show (p - 2 * a.size) / 2 = p / 2 - a.size by omega]
theorem dgt_inj {m n : Nat} (hm : m < 16) (hn : n < 16) (h : dgt m = dgt n) : m = n := by
  unfold dgt at h
  split at h <;> split at h <;> omega
theorem hexS_inj {a b : ByteArray} (h : hexS a = hexS b) : a = b := by
  have hz : a.size = b.size := by have := congrArg ByteArray.size h; rw [hexS_size, hexS_size] at this; omega
  apply ext_bt hz
  intro p hp
  have h0 := congrArg (fun t => bt t (2 * p)) h
  have h1 := congrArg (fun t => bt t (2 * p + 1)) h
  replace h0 : bt (hexS a) (2 * p) = bt (hexS b) (2 * p) := h0
  replace h1 : bt (hexS a) (2 * p + 1) = bt (hexS b) (2 * p + 1) := h1
  rw [hexS_bt (by omega), hexS_bt (by omega)] at h0 h1
  unfold hx at h0 h1
  rw [if_pos (by omega), if_pos (by omega), show 2 * p / 2 = p by omega] at h0
  rw [if_neg (by omega), if_neg (by omega), show (2 * p + 1) / 2 = p by omega] at h1
  have la := bt_lt a p
  have lb := bt_lt b p
  have e0 := dgt_inj (by omega) (by omega) h0
  have e1 := dgt_inj (by omega) (by omega) h1
  omega
theorem str_ne {s t : ByteArray} (h : s ≠ t) : (s.toList == t.toList) = false := by
  rw [beq_eq_false_iff_ne]
  intro e
  rw [ByteArray.toList_eq, ByteArray.toList_eq] at e
  exact h (ByteArray.ext (Array.toList_inj.1 e))
theorem hexS_any (s : ByteArray) (w : World) (hs : s.size ≤ 100000) :
    Calls Tryd.prog 12 #[.string s] w fun e w' => e = .returned (.string (hexS s)) ∧ Below w.heap.size w w' := hex_any s w hs
set_option maxRecDepth 100000 in
set_option maxHeartbeats 2000000 in
theorem walkDigestHex (a b : ByteArray) (w : World) (hK : KAt w) (w0 : a.data.toList.length ≤ reachBytes) (w1 : b.data.toList.length ≤ reachBytes) :
    Calls Tryd.prog 6 #[.string a, .string b] w fun e w' => e = .returned (.bool true) ∧ Below w.heap.size w w' := by
  have ha : a.size ≤ reachBytes := by simpa using w0
  have hb : b.size ≤ reachBytes := by simpa using w1
  have hr : reachBytes < 2 ^ 47 := by decide
  have HK := hide hK
  clear w0 w1 hK
  by_cases hbig : (decide ((1000 : Int) < a.size) || decide ((1000 : Int) < b.size)) = true
  · go_enter Tryd.func6, Tryd.ntmps6
    go_wp2_with fail
    all_goals
      refine (live_any w HK.out).mono ?_
      rintro e w1 ⟨rfl, hb⟩
      go_wp2_with fail
      go_ret
      exact ⟨rfl, hb⟩
  have h1 : a.size ≤ 1000 := by simp at hbig; omega
  have h2 : b.size ≤ 1000 := by simp at hbig; omega
  clear hbig ha hb hr
  have hza := hexS_size a
  have hzb := hexS_size b
  have heq : ((hexS a).toList == (hexS b).toList) = (a.toList == b.toList) := by
    by_cases h : a = b
    · subst h; simp
    · rw [str_ne h, str_ne fun h' => h (hexS_inj h')]
  have HQ := hide heq
  have HA := hide (hexS_append a b)
  clear heq
  go_enter Tryd.func6, Tryd.ntmps6
  go_wp2_with fail
  refine (hexS_any a w (by omega)).mono ?_
  rintro e w1 ⟨rfl, hb1⟩
  have HB1 := hide hb1
  clear hb1
  go_wp2_with fail
  refine (hexS_any b w1 (by omega)).mono ?_
  rintro e w2 ⟨rfl, hb2⟩
  have HB2 := hide (HB1.out.trans (hb2.mono HB1.out.size))
  clear hb2 HB1
  have heq2 : ((hexS a).toList == (hexS b).toList) = (a.toList == b.toList) := HQ.out
  generalize hexS a = X at *
  generalize hexS b = Y at *
  have hzab : (a ++ b).size ≤ 100000 := by rw [ByteArray.size_append]; omega
  go_wp2_with fail
  refine (hexS_any (a ++ b) w2 hzab).mono ?_
  rw [HA.out]
  rintro e w3 ⟨rfl, hb3⟩
  have HB3 := hide (HB2.out.trans (hb3.mono HB2.out.size))
  clear hb3 HB2
  go_wp2_with fail
  refine (dsum_any a w3 (HK.out.below HB3.out) (by omega)).mono ?_
  rintro e w4 ⟨rfl, hb4⟩
  have HB4 := hide (HB3.out.trans (hb4.mono HB3.out.size))
  clear hb4 HB3
  have hzd := dig_size (bt a) a.size
  generalize dig (bt a) a.size = D at *
  go_wp2_with fail
  refine (live_any w4 (HK.out.below HB4.out)).mono ?_
  rintro e w5 ⟨rfl, hb5⟩
  have HB5 := hide (HB4.out.trans (hb5.mono HB4.out.size))
  clear hb5 HB4
  go_wp2_with fail
  go_ret
  exact ⟨rfl, HB5.out⟩
end Go.Proofs.YtenfjhbedcnmeaaDoor
