/- What request.Answer answers, and the document's. -/
import Derived.Test.YtgcjcojmhfkbjaaDoorRqAnswer
import Derived.Laws.AppendOwnNone
import Derived.Lib.QuietBelow
namespace Go.Proofs.YtgcjcojmhfkbjaaDoor
open Go.RowKit
set_option linter.unusedVariables false
def errW : ByteArray := ⟨#[101, 114, 114, 111, 114, 32]⟩
def okW : ByteArray := ⟨#[111, 107]⟩
def valW : ByteArray := ⟨#[118, 97, 108, 117, 101, 32]⟩
def stW : ByteArray := ⟨#[115, 116, 97, 116, 32]⟩
def keysL : List UInt8 := [107, 101, 121, 115]
def keysW : ByteArray := ⟨#[107, 101, 121, 115]⟩
/-- keys in a line -/
def kyS (L : List ByteArray) : ByteArray := ofL (keysL ++ Lib.joinTail [32] (L.map (·.data.toList)))
theorem kyS_nil : kyS [] = keysW := rfl
theorem kyS_step {L : List ByteArray} {k : Nat} {s : ByteArray} (h : L[k]? = some s) : kyS (L.take (k + 1)) = kyS (L.take k) ++ ⟨#[32]⟩ ++ s := by
  unfold kyS
  have e := Lib.joinTail_take_succ [32] (L.map (·.data.toList)) k s.data.toList (by rw [List.getElem?_map, h]; rfl)
  rw [List.map_take, List.map_take, e, ← List.append_assoc, ← List.append_assoc, ofL_app, ofL_app, ofL_data]
  rfl
theorem kyS_join (L : List ByteArray) : ofL (Lib.join ((keysW :: L).map (·.data.toList)) [32]) = kyS L := by
  rw [List.map_cons, Lib.join_cons]
  rfl
theorem kyS_len {m : Nat} {L : List ByteArray} (h : ∀ s ∈ L, s.size ≤ m) : ∀ k, k ≤ L.length → (kyS (L.take k)).size ≤ 4 + k * (m + 1)
  | 0, _ => by rw [List.take_zero, kyS_nil]; show 4 ≤ _; omega
  | k + 1, hk => by
    have hs : L[k]? = some L[k] := List.getElem?_eq_getElem (by omega)
    rw [kyS_step hs, ByteArray.size_append, ByteArray.size_append]
    have h1 := kyS_len h k (by omega)
    have h2 := h L[k] (List.getElem_mem _)
    have h3 : (⟨#[32]⟩ : ByteArray).size = 1 := rfl
    have e : (k + 1) * (m + 1) = k * (m + 1) + (m + 1) := by rw [Nat.add_mul, Nat.one_mul]
    omega
/-- an answer's line -/
def anS (d : Int) (c : Nat) (v : ByteArray) (L : List ByteArray) : ByteArray :=
  if c ≠ 0 then errW ++ dcN c else if d = 0 ∨ d = 2 then okW else if d = 1 then valW ++ dgS v else if d = 3 then stW ++ v else if d = 4 then kyS L else ByteArray.empty
/-- an answer in a block of its own -/
def rss (c : Int) (v : ByteArray) (a : Option Addr) (n p : Nat) : Array Value := #[.int .i64 c, .string v, .slice a n p]
theorem grow_below {w : World} {k : Nat} {os : Array Obj} {w' : World} (h : w' = Go.Sort.grow (w.drewN k) os) : Below w.heap.size w w' := by
  rw [h]; exact below_regrown w (w.drewN k).drawn os
theorem anS_err {d : Int} {c : Nat} {v : ByteArray} {L : List ByteArray} (h : c ≠ 0) : anS d c v L = errW ++ dcN c := by unfold anS; rw [if_pos h]
theorem anS_ok {d : Int} {v : ByteArray} {L : List ByteArray} (h : d = 0 ∨ d = 2) : anS d 0 v L = okW := by unfold anS; rw [if_neg (by simp), if_pos h]
theorem anS_val {v : ByteArray} {L : List ByteArray} : anS 1 0 v L = valW ++ dgS v := by unfold anS; rw [if_neg (by simp), if_neg (by decide), if_pos rfl]
theorem anS_st {v : ByteArray} {L : List ByteArray} : anS 3 0 v L = stW ++ v := by unfold anS; rw [if_neg (by simp), if_neg (by decide), if_neg (by decide), if_pos rfl]
theorem anS_ky {v : ByteArray} {L : List ByteArray} : anS 4 0 v L = kyS L := by unfold anS; rw [if_neg (by simp), if_neg (by decide), if_neg (by decide), if_neg (by decide), if_pos rfl]
theorem anS_none {d : Int} {v : ByteArray} {L : List ByteArray} (h0 : d ≠ 0) (h1 : d ≠ 1) (h2 : d ≠ 2) (h3 : d ≠ 3) (h4 : d ≠ 4) : anS d 0 v L = ByteArray.empty := by
  unfold anS; rw [if_neg (by simp), if_neg (by omega), if_neg h1, if_neg h3, if_neg h4]
set_option maxRecDepth 100000 in
set_option maxHeartbeats 16000000 in
theorem answer_any (d : Int) (c : Nat) (v : ByteArray) (a : Option Addr) (n p : Nat) (L : List ByteArray) (w : World) (hK : KD w) (hc : c ≤ 9223372036854775807) (hv : v.size ≤ 10000) (hn : L.length = n) (hL : StrsAt w a L) (hn1 : n ≤ 1000) (hna : a = none → p = 0) (hs : ∀ s ∈ L, s.size ≤ 1000) : Calls Tryd.prog 17 #[.int .i64 d, .agg #[.int .i64 (c : Int), .string v, .slice a n p]] w fun e w' => e = .returned (.string (anS d c v L)) ∧ Below w.heap.size w w' := by
  have HB : Hid (Below w.heap.size w (w.alloc (.cells #[.int .i64 (c : Int), .string v, .slice a n p] 36))) := (Below.refl _ _).alloc (Nat.le_refl _) _
  have ze : errW.size = 6 := rfl
  have zv : valW.size = 6 := rfl
  have zs : stW.size = 5 := rfl
  have HKD := hide hK
  have HLS := hide hL
  have HNL := hide hn
  have HSM := hide hs
  clear hK hL hn hs
  by_cases h0 : c ≠ 0
  · have g0 : ((c : Int) != 0) = true := by simp; omega
    have HE : Hid (anS d c v L = errW ++ dcN c) := anS_err h0
    have HI := hide (Tryd.strconv_Itoa (c : Int) (by omega) (by omega) _ (HKD.out.below HB.out).tab)
    rw [itoa_nat] at HI
    have zd := dcN_le hc
    have hs1 : ∀ wx, (Op.stringOp .add ⟨#[101, 114, 114, 111, 114, 32]⟩ (dcN c)).run Tryd.prog wx = .ok (.string (errW ++ dcN c)) wx := fun wx => run_string_add_sum wx errW _ (by omega)
    clear h0
    generalize dcN c = D at *
    go_enter Tryd.func17, Tryd.ntmps17
    go_wp2_with fail
    refine HI.out.mono ?_
    rintro e w1 ⟨rfl, k, os, hw1⟩
    have HB1 := hide (HB.out.trans ((grow_below hw1).mono HB.out.size))
    clear hw1
    go_wp2_with fail
    first | go_ret | go_returns
    exact ⟨ret_str HE.out.symm, HB1.out⟩
  obtain rfl : c = 0 := by omega
  clear h0
  by_cases hd0 : d = 0
  · subst hd0
    have HE : Hid (anS 0 0 v L = okW) := anS_ok (.inl rfl)
    go_enter Tryd.func17, Tryd.ntmps17
    go_wp2_with fail
    first | go_ret | go_returns
    exact ⟨ret_str HE.out.symm, HB.out⟩
  have e0 : (d == 0) = false := by simpa using hd0
  by_cases hd2 : d = 2
  · subst hd2
    have HE : Hid (anS 2 0 v L = okW) := anS_ok (.inr rfl)
    go_enter Tryd.func17, Tryd.ntmps17
    go_wp2_with fail
    first | go_ret | go_returns
    exact ⟨ret_str HE.out.symm, HB.out⟩
  have e2 : (d == 2) = false := by simpa using hd2
  by_cases hd1 : d = 1
  · subst hd1
    have HE : Hid (anS 1 0 v L = valW ++ dgS v) := anS_val
    have HD := hide (fun W => inDigits_any v W (by omega))
    have zd := dgS_size v
    have hs1 : ∀ wx, (Op.stringOp .add ⟨#[118, 97, 108, 117, 101, 32]⟩ (dgS v)).run Tryd.prog wx = .ok (.string (valW ++ dgS v)) wx := fun wx => run_string_add_sum wx valW _ (by omega)
    generalize dgS v = D at *
    go_enter Tryd.func17, Tryd.ntmps17
    go_wp2_with fail
    refine (HD.out _).mono ?_
    rintro e w1 ⟨rfl, hb⟩
    have HB1 := hide (HB.out.trans (hb.mono HB.out.size))
    clear hb
    go_wp2_with fail
    first | go_ret | go_returns
    exact ⟨ret_str HE.out.symm, HB1.out⟩
  have e1 : (d == 1) = false := by simpa using hd1
  by_cases hd3 : d = 3
  · subst hd3
    have HE : Hid (anS 3 0 v L = stW ++ v) := anS_st
    have hs1 : ∀ wx, (Op.stringOp .add ⟨#[115, 116, 97, 116, 32]⟩ v).run Tryd.prog wx = .ok (.string (stW ++ v)) wx := fun wx => run_string_add_sum wx stW _ (by omega)
    go_enter Tryd.func17, Tryd.ntmps17
    go_wp2_with fail
    first | go_ret | go_returns
    exact ⟨ret_str HE.out.symm, HB.out⟩
  have e3 : (d == 3) = false := by simpa using hd3
  by_cases hd4 : d = 4
  case neg =>
    have e4 : (d == 4) = false := by simpa using hd4
    have HE : Hid (anS d 0 v L = ByteArray.empty) := anS_none hd0 hd1 hd2 hd3 hd4
    clear hd0 hd1 hd2 hd3 hd4
    go_enter Tryd.func17, Tryd.ntmps17
    go_wp2_with fail
    first | go_ret | go_returns
    exact ⟨ret_str HE.out.symm, HB.out⟩
  subst hd4
  clear hd0 hd1 hd2 hd3 e0 e1 e2 e3
  have HE : Hid (anS 4 0 v L = kyS L) := anS_ky
  obtain ⟨i0, hi0, hz0, hz1, hz2⟩ := info_parts kstr_info
  have HI := hide hi0
  have HI0 := hide hz0
  have HI1 := hide hz1
  have HI2 := hide hz2
  clear hi0 hz0 hz1 hz2
  -- the row that the call makes: one cell
  have HW0 : Hid (Below w.heap.size w ((w.alloc (.cells #[.int .i64 0, .string v, .slice a n p] 36)).alloc (.cells #[.string keysW] 9))) := HB.out.alloc HB.out.size _
  have HR0 : Hid (((w.alloc (.cells #[.int .i64 0, .string v, .slice a n p] 36)).alloc (.cells #[.string keysW] 9)).ownsRow w.heap.size 9 1 (.slice (some ⟨w.heap.size + 1, 0, none⟩) 1 1) 1 (ksS [keysW])) := by
    refine ⟨rfl, .inr ⟨w.heap.size + 1, 1, #[.string keysW], rfl, by omega, ?_, Nat.le_refl _, by unfold maxLen; omega, rfl, rfl⟩⟩
    have := heap_alloc_new (w.alloc (.cells #[.int .i64 0, .string v, .slice a n p] 36)) (.cells #[.string keysW] 9)
    rw [World.size_alloc] at this
    exact this
  have HJ : Hid (∀ W v1, W.ownsRow w.heap.size 9 1 v1 (1 + n) (ksS [keysW] ++ ksS L) → ∃ g q, v1 = .slice (some ⟨g, 0, none⟩) (n + 1) q ∧ Calls Tryd.prog 30 #[.slice (some ⟨g, 0, none⟩) (n + 1) q, .string ⟨#[32]⟩] W fun e w' => e = .returned (.string (kyS L)) ∧ Below W.heap.size W w') := by
    intro W v1 hr
    obtain ⟨hl, ⟨rfl, hz⟩ | ⟨g, cap, cur, rfl, hB, hg, hcp, hm, hs, ht⟩⟩ := hr
    · omega
    · refine ⟨g, cap, by rw [Nat.add_comm], ?_⟩
      have hcell : ∀ (j : Nat) x, (keysW :: L)[j]? = some x → W.cell? ⟨g, 0 + j, none⟩ = some (.string x) := fun j x hx => by
        rw [Nat.zero_add, cell_of_block hg]
        have e1 : (ksS [keysW] ++ ksS L)[j]? = some (.string x) := by
          have : ksS [keysW] ++ ksS L = ksS (keysW :: L) := rfl
          rw [this]; unfold ksS; rw [List.getElem?_map, hx]; rfl
        rw [← ht, List.getElem?_take] at e1
        split at e1
        · rw [← e1, Array.getElem?_toList]
        · cases e1
      have hln : (keysW :: L).length = n + 1 := by rw [List.length_cons, HNL.out]
      have hsz := kyS_len HSM.out L.length (Nat.le_refl _)
      rw [List.take_length, HNL.out] at hsz
      have hjl : (Lib.join ((keysW :: L).map (·.data.toList)) [32]).length = (kyS L).size := by rw [← kyS_join, ofL_size]
      have hj := Tryd.strings_Join g 0 cap (keysW :: L) ⟨#[32]⟩ W hcell (lt_of_block hg) (by rw [hln]; omega) (by rw [hln]; omega) (by show (Lib.join _ [32]).length ≤ _; rw [hjl]; have : n * (1000 + 1) ≤ 1000 * 1001 := Nat.mul_le_mul_right _ hn1; omega)
      rw [hln] at hj
      have e2 : (⟨(Lib.join ((keysW :: L).map (·.data.toList)) [32]).toArray⟩ : ByteArray) = kyS L := kyS_join L
      have e3 : (⟨#[32]⟩ : ByteArray).data.toList = [32] := rfl
      rw [e3, e2] at hj
      exact hj
  unfold keysW at HW0 HR0 HJ
  go_enter Tryd.func17, Tryd.ntmps17
  cases a with
  | none =>
    have hn0 : L = [] := by
      rcases HLS.out with q | ⟨b, o, e, _⟩
      · exact q
      · cases e
    subst hn0
    obtain rfl : n = 0 := HNL.out.symm
    obtain rfl := hna rfl
    clear hna
    obtain ⟨g, q, e1, hj⟩ := HJ.out _ (.slice (some ⟨w.heap.size + 1, 0, none⟩) 1 1) HR0.out
    injection e1 with q1 q2 q3
    injection q1 with q1
    injection q1 with q1 _
    subst q1
    subst q3
    clear q2
    have HJ1 := hide hj
    clear hj
    go_wp2_with (first | (at_builtin; refine wpList_append_own_none rfl (.tmp 31) (.tmp 33) 34 rfl w.heap.size 9 i0 1 Tryd.underlying34 HI.out (.slice (some ⟨w.heap.size + 1, 0, none⟩) 1 1) 1 _ rfl HR0.out rfl ?_))
    refine HJ1.out.mono ?_
    rintro e w4 ⟨rfl, hb⟩
    have HB4 := hide (HW0.out.trans (hb.mono HW0.out.size))
    clear hb
    go_wp2_with fail
    first | go_ret | go_returns
    exact ⟨ret_str HE.out.symm, HB4.out⟩
  | some ad =>
    have HNW : Hid (∀ W, Below w.heap.size w W → ∀ j u, (ksS L)[j]? = some u → W.cell? (ad.add j) = some u) := fun W hb j u hj => by
      rcases HLS.out with q | ⟨b, o, e, hlt, hc⟩
      · rw [q] at hj; simp [ksS] at hj
      · cases e
        rw [add_plain]
        unfold ksS at hj
        rw [List.getElem?_map] at hj
        cases hq : L[j]? with
        | none => rw [hq] at hj; cases hj
        | some s =>
          rw [hq] at hj
          cases hj
          exact (hb.cell (p := ⟨b, o + j, none⟩) hlt).trans (hc j s hq)
    go_wp2_with (first | (at_builtin; refine wpList_append_own _ rfl (.tmp 31) (.tmp 33) 34 rfl w.heap.size 9 i0 (.string ByteArray.empty) 1 16 Tryd.underlying34 HI.out HI0.out HI1.out HI2.out rfl (by decide) _ 1 (ksS [⟨#[107, 101, 121, 115]⟩]) rfl HR0.out ad n p (ksS L) rfl (by rw [ksS_len, HNL.out, Nat.mul_one]) (HNW.out _ HW0.out) (by intro u hu; unfold ksS at hu; obtain ⟨x, _, rfl⟩ := List.mem_map.1 hu; rfl) (by unfold maxLen; omega) (by omega) (by simp only [World.size_alloc]; omega) ?_; intro v' w3 hown hgr hnil; clear hnil; have HB3 : Hid (Below w.heap.size w w3) := Below.grown HW0.out hgr (by simp only [World.size_alloc]; omega) (fun g hg => row_base HR0.out hg); obtain ⟨g, q, rfl, hj⟩ := HJ.out w3 v' hown; have HJ1 := hide hj; clear hown hgr hj))
    refine HJ1.out.mono ?_
    rintro e w4 ⟨rfl, hb⟩
    have HB4 := hide (HB3.out.trans (hb.mono HB3.out.size))
    clear hb
    go_wp2_with fail
    first | go_ret | go_returns
    exact ⟨ret_str HE.out.symm, HB4.out⟩
set_option maxRecDepth 100000 in
set_option maxHeartbeats 16000000 in
theorem ranswer_any (d : Int) (c : Nat) (v : ByteArray) (a : Option Addr) (n p : Nat) (L : List ByteArray) (w : World) (hc : c ≤ 9223372036854775807) (hv : v.size ≤ 10000) (hn : L.length = n) (hL : StrsAt w a L) (hn1 : n ≤ 1000) (hs : ∀ s ∈ L, s.size ≤ 1000) : Calls Tryd.prog 18 #[.int .i64 d, .agg #[.int .i64 (c : Int), .string v, .slice a n p]] w fun e w' => e = .returned (.string (anS d c v L)) ∧ Below w.heap.size w w' := by
  have HB : Hid (Below w.heap.size w (w.alloc (.cells #[.int .i64 (c : Int), .string v, .slice a n p] 36))) := (Below.refl _ _).alloc (Nat.le_refl _) _
  have ze : errW.size = 6 := rfl
  have zv : valW.size = 6 := rfl
  have zs : stW.size = 5 := rfl
  have HLS := hide hL
  have HNL := hide hn
  have HSM := hide hs
  clear hL hn hs
  by_cases h0 : c ≠ 0
  · have g0 : ((c : Int) != 0) = true := by simp; omega
    have HE : Hid (anS d c v L = errW ++ dcN c) := anS_err h0
    have HI := hide (fun W => refNumber_any c hc W)
    have zd := dcN_le hc
    have hs1 : ∀ wx, (Op.stringOp .add ⟨#[101, 114, 114, 111, 114, 32]⟩ (dcN c)).run Tryd.prog wx = .ok (.string (errW ++ dcN c)) wx := fun wx => run_string_add_sum wx errW _ (by omega)
    clear h0
    generalize dcN c = D at *
    go_enter Tryd.func18, Tryd.ntmps18
    go_wp2_with fail
    refine (HI.out _).mono ?_
    rintro e w1 ⟨rfl, hb⟩
    have HB1 := hide (HB.out.trans (hb.mono HB.out.size))
    clear hb
    go_wp2_with fail
    first | go_ret | go_returns
    exact ⟨ret_str HE.out.symm, HB1.out⟩
  obtain rfl : c = 0 := by omega
  clear h0
  by_cases hd0 : d = 0
  · subst hd0
    have HE : Hid (anS 0 0 v L = okW) := anS_ok (.inl rfl)
    go_enter Tryd.func18, Tryd.ntmps18
    go_wp2_with fail
    first | go_ret | go_returns
    exact ⟨ret_str HE.out.symm, HB.out⟩
  have e0 : (d == 0) = false := by simpa using hd0
  by_cases hd2 : d = 2
  · subst hd2
    have HE : Hid (anS 2 0 v L = okW) := anS_ok (.inr rfl)
    go_enter Tryd.func18, Tryd.ntmps18
    go_wp2_with fail
    first | go_ret | go_returns
    exact ⟨ret_str HE.out.symm, HB.out⟩
  have e2 : (d == 2) = false := by simpa using hd2
  by_cases hd1 : d = 1
  · subst hd1
    have HE : Hid (anS 1 0 v L = valW ++ dgS v) := anS_val
    have HD := hide (fun W => refdigits_any v W (by omega))
    have zd := dgS_size v
    have hs1 : ∀ wx, (Op.stringOp .add ⟨#[118, 97, 108, 117, 101, 32]⟩ (dgS v)).run Tryd.prog wx = .ok (.string (valW ++ dgS v)) wx := fun wx => run_string_add_sum wx valW _ (by omega)
    generalize dgS v = D at *
    go_enter Tryd.func18, Tryd.ntmps18
    go_wp2_with fail
    refine (HD.out _).mono ?_
    rintro e w1 ⟨rfl, hb⟩
    have HB1 := hide (HB.out.trans (hb.mono HB.out.size))
    clear hb
    go_wp2_with fail
    first | go_ret | go_returns
    exact ⟨ret_str HE.out.symm, HB1.out⟩
  have e1 : (d == 1) = false := by simpa using hd1
  by_cases hd3 : d = 3
  · subst hd3
    have HE : Hid (anS 3 0 v L = stW ++ v) := anS_st
    have hs1 : ∀ wx, (Op.stringOp .add ⟨#[115, 116, 97, 116, 32]⟩ v).run Tryd.prog wx = .ok (.string (stW ++ v)) wx := fun wx => run_string_add_sum wx stW _ (by omega)
    go_enter Tryd.func18, Tryd.ntmps18
    go_wp2_with fail
    first | go_ret | go_returns
    exact ⟨ret_str HE.out.symm, HB.out⟩
  have e3 : (d == 3) = false := by simpa using hd3
  by_cases hd4 : d = 4
  case neg =>
    have e4 : (d == 4) = false := by simpa using hd4
    have HE : Hid (anS d 0 v L = ByteArray.empty) := anS_none hd0 hd1 hd2 hd3 hd4
    clear hd0 hd1 hd2 hd3 hd4
    go_enter Tryd.func18, Tryd.ntmps18
    go_wp2_with fail
    first | go_ret | go_returns
    exact ⟨ret_str HE.out.symm, HB.out⟩
  subst hd4
  clear hd0 hd1 hd2 hd3 e0 e1 e2 e3
  have HE : Hid (anS 4 0 v L = kyS L) := anS_ky
  have HC2 : Hid ((w.alloc (.cells #[.int .i64 0, .string v, .slice a n p] 36)).cell? ⟨w.heap.size, 2, none⟩ = some (.slice a n p)) := cell_of_block (heap_alloc_new _ _)
  have HLA : Hid (StrsAt (w.alloc (.cells #[.int .i64 0, .string v, .slice a n p] 36)) a L) := HLS.out.below HB.out
  go_enter Tryd.func18, Tryd.ntmps18
  go_wp2_with fail
  generalize w.alloc (.cells #[.int .i64 0, .string v, .slice a n p] 36) = W1 at *
  go_loopw [5, 6] (fun x y wr => ∃ k : Nat, k ≤ n ∧ y = .int .i64 (k : Int) ∧ x = .string (kyS (L.take k)) ∧ wr = W1) (fun _ y _ => n - (kIx y).toNat)
  case atStart => exact ⟨0, by omega, rfl, rfl, rfl⟩
  case round =>
    obtain ⟨k, hk, rfl, rfl, rfl⟩ := hrel
    have c2 := HC2.out
    by_cases hlt : k < n
    · have hd : decide ((k : Int) < (n : Int)) = true := by simp; omega
      have i1 : (k : Int) < (n : Int) := by omega
      have i2 : (0 : Int) ≤ (k : Int) := by omega
      obtain ⟨s, hs⟩ : ∃ s, L[k]? = some s := ⟨_, List.getElem?_eq_getElem (by have := HNL.out; omega)⟩
      obtain ⟨b, o, rfl, hb, ck⟩ := HLA.out.cell hs
      have HKE := hide (kyS_step hs)
      have z1 := kyS_len HSM.out k (by have := HNL.out; omega)
      have z2 := HSM.out s (List.mem_of_getElem? hs)
      have z3 : k * (1000 + 1) ≤ 1000 * 1001 := Nat.mul_le_mul (by omega) (Nat.le_refl _)
      have z4 : (⟨#[32]⟩ : ByteArray).size = 1 := rfl
      generalize kyS (L.take k) = T at *
      have hs1 : ∀ wx, (Op.stringOp .add T ⟨#[32]⟩).run Tryd.prog wx = .ok (.string (T ++ ⟨#[32]⟩)) wx := fun wx => run_string_add_sum wx _ _ (by omega)
      have hs2 : ∀ wx, (Op.stringOp .add (T ++ ⟨#[32]⟩) s).run Tryd.prog wx = .ok (.string (T ++ ⟨#[32]⟩ ++ s)) wx := fun wx => run_string_add_sum wx _ _ (by rw [ByteArray.size_append]; omega)
      clear hs z1 z2 z3
      go_wp2_with fail
      exact ⟨⟨k + 1, by omega, by go_num, by rw [HKE.out], trivial⟩, by simp [kIx]; omega⟩
    · have hd : decide ((k : Int) < (n : Int)) = false := by simp; omega
      obtain rfl : k = n := by omega
      have HT : Hid (kyS (L.take k) = kyS L) := by show _ = _; rw [← HNL.out, List.take_length]
      go_wp2_with fail
      first | go_ret | go_returns
      exact ⟨by rw [HE.out, ← HT.out]; rfl, HB.out⟩
end Go.Proofs.YtgcjcojmhfkbjaaDoor
