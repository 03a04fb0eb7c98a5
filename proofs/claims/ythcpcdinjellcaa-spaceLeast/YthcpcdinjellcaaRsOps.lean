/- What the document's Taken, Free, Take and Mark answer. -/
import Derived.Test.YthcpcdinjellcaaRsMem
import Derived.Deep.RegionHeld3
namespace Go.Proofs.Ythcpcdinjellcaa
open Go.RowKit
set_option linter.unusedVariables false
def memL (L : List (Int × Int)) (x : Int × Int) : Bool := decide (x ∈ L)
theorem memL_no {L : List (Int × Int)} {x : Int × Int} (h : ∀ (j : Nat) (y : Int × Int), j < L.length → L[j]? = some y → y ≠ x) : memL L x = false := by
  unfold memL
  rw [decide_eq_false_iff_not]
  intro hm
  obtain ⟨j, hj, he⟩ := List.getElem_of_mem hm
  exact h j _ hj (List.getElem?_eq_getElem hj) he
theorem memL_yes {L : List (Int × Int)} {x : Int × Int} {j : Nat} (h : L[j]? = some x) : memL L x = true := by unfold memL; rw [decide_eq_true_eq]; exact List.mem_of_getElem? h
set_option maxRecDepth 100000 in
set_option maxHeartbeats 4000000 in
theorem rTaken_any (rb : Nat) (v : Value) (L : List (Int × Int)) (x y : Int) (w : World) (h : Rs w rb v L) : Calls Try.prog 15 #[.pointer (some ⟨rb, 0, none⟩), .agg #[.int .i64 x, .int .i64 y]] w fun e w' => e = .returned (.bool (memL L (x, y))) ∧ Below w.heap.size w w' := by
  obtain ⟨a, c, rfl, hc, hcm, hL⟩ := h.form
  have HS := hide h
  have HLC := hide hL
  have hn : L.length ≤ 9223372036854775807 := by omega
  have hal : Below w.heap.size w (w.alloc (.cells #[.int .i64 x, .int .i64 y] 31)) := (Below.refl _ _).alloc (Nat.le_refl _) _
  have HAL := hide hal
  have HBX : Hid ((w.alloc (.cells #[.int .i64 x, .int .i64 y] 31)).heap[w.heap.size]? = some (.cells #[.int .i64 x, .int .i64 y] 31 (0, 0))) := heap_alloc_new _ _
  clear h hL hal
  go_enter Try.func15, Try.ntmps15
  go_wp2_with fail
  go_loopw [5] (fun q wr => ∃ k : Nat, k ≤ L.length ∧ q = .int .i64 k ∧ (∀ (j : Nat) (z : Int × Int), j < k → L[j]? = some z → z ≠ (x, y)) ∧ Below (w.alloc (.cells #[.int .i64 x, .int .i64 y] 31)).heap.size (w.alloc (.cells #[.int .i64 x, .int .i64 y] 31)) wr) (fun q _ => L.length - (intOf q).toNat)
  case atStart => exact ⟨0, by omega, rfl, fun j z hj => by omega, Below.refl _ _⟩
  case round =>
    obtain ⟨k, hk, rfl, hall, hb⟩ := hrel
    have HA := hide hall
    have HB := hide hb
    have hb2 : Below w.heap.size w wr := HAL.out.trans (hb.mono HAL.out.size)
    have HB2 := hide hb2
    have c0 := (HS.out.below hb2).c0
    have hbk := (hb.block w.heap.size (lt_of_block HBX.out)).trans HBX.out
    have m0 : wr.cell? ⟨w.heap.size, 0, none⟩ = some (.int .i64 x) := cell_of_block hbk
    have m1 : wr.cell? ⟨w.heap.size, 1, none⟩ = some (.int .i64 y) := cell_of_block hbk
    clear hall hb hb2 hbk
    by_cases hlt : k < L.length
    · have hdk : decide ((k : Int) < (L.length : Int)) = true := by simp; omega
      have hki : (k : Int) < (L.length : Int) := by omega
      have hk0 : (0 : Int) ≤ (k : Int) := by omega
      obtain ⟨⟨p, q⟩, hx⟩ : ∃ x, L[k]? = some x := ⟨_, List.getElem?_eq_getElem hlt⟩
      obtain ⟨b1, o1, rfl, hb1, e0, e1⟩ := (HLC.out.below HB2.out).nth hx
      simp only at e0 e1
      have HX := hide hx
      clear hx
      by_cases ex : p = x
      · have q1 : (p == x) = true := by simpa using ex
        by_cases ey : q = y
        · have q2 : (q == y) = true := by simpa using ey
          have HYES : Hid (memL L (x, y) = true) := memL_yes (by rw [← ex, ← ey]; exact HX.out)
          clear ex ey
          go_wp2_with fail
          go_quiet (fail)
          go_wp2_with fail
          all_goals
            try go_ret
            exact ⟨ret_bool HYES.out.symm, drawn_below HB2.out _⟩
        · have q2 : (q == y) = false := by simpa using ey
          have HN : Hid (∀ (j : Nat) (z : Int × Int), j < k + 1 → L[j]? = some z → z ≠ (x, y)) := fun j z hj hz => by
            by_cases e : j = k
            · subst e; rw [HX.out] at hz; cases hz; intro e; exact ey (congrArg Prod.snd e)
            · exact HA.out j z (by omega) hz
          clear ex ey
          go_wp2_with fail
          go_quiet (fail)
          go_wp2_with fail
          all_goals exact ⟨⟨k + 1, by omega, by go_num, HN.out, drawn_below HB.out _⟩, by simp [intOf]; omega⟩
      · have q1 : (p == x) = false := by simpa using ex
        have HN : Hid (∀ (j : Nat) (z : Int × Int), j < k + 1 → L[j]? = some z → z ≠ (x, y)) := fun j z hj hz => by
          by_cases e : j = k
          · subst e; rw [HX.out] at hz; cases hz; intro e; exact ex (congrArg Prod.fst e)
          · exact HA.out j z (by omega) hz
        clear ex
        go_wp2_with fail
        go_quiet (fail)
        go_wp2_with fail
        all_goals exact ⟨⟨k + 1, by omega, by go_num, HN.out, drawn_below HB.out _⟩, by simp [intOf]; omega⟩
    · have hdk : decide ((k : Int) < (L.length : Int)) = false := by simp; omega
      go_wp2_with fail
      try go_ret
      exact ⟨ret_bool (memL_no fun j z hj hz => HA.out j z (by omega) hz).symm, HB2.out⟩
def cntD (L : List (Int × Int)) (d : Int) (k : Nat) : Nat := (L.take k).countP fun x => x.1 == d
theorem cntD_succ {L : List (Int × Int)} {d : Int} {k : Nat} {x : Int × Int} (h : L[k]? = some x) : cntD L d (k + 1) = cntD L d k + (if x.1 == d then 1 else 0) := by
  unfold cntD; rw [List.take_add_one, h, List.countP_append]; simp [List.countP_cons]
theorem cntD_le (L : List (Int × Int)) (d : Int) (k : Nat) : cntD L d k ≤ k := by unfold cntD; exact Nat.le_trans List.countP_le_length (by rw [List.length_take]; omega)
def rfC (L : List (Int × Int)) (d : Int) : Int := if okD d then 48 - ((cntD L d L.length : Nat) : Int) else 0
set_option maxRecDepth 100000 in
set_option maxHeartbeats 4000000 in
theorem rFree_any (rb : Nat) (v : Value) (L : List (Int × Int)) (d : Int) (w : World) (h : Rs w rb v L) (hl : L.length ≤ 1000000) : Calls Try.prog 13 #[.pointer (some ⟨rb, 0, none⟩), .int .i64 d] w fun e w' => e = .returned (.int .i64 (rfC L d)) ∧ w = w' := by
  obtain ⟨a, c, rfl, hc, hcm, hL⟩ := h.form
  have HLC := hide hL
  have c0 := h.c0
  unfold rfC
  clear h hL
  by_cases hd : okD d = true
  · rw [if_pos hd]
    have q0 : decide (d < 0) = false := by have := okD_iff.1 hd; simp; omega
    have q1 : decide (11 < d) = false := by have := okD_iff.1 hd; simp; omega
    clear hd
    go_enter Try.func13, Try.ntmps13
    go_wp2_with fail
    go_loop [5, 6] (fun u y => ∃ k : Nat, k ≤ L.length ∧ y = .int .i64 k ∧ u = .int .i64 (48 - ((cntD L d k : Nat) : Int))) (fun _ y => L.length - (intOf y).toNat)
    case atStart => exact ⟨0, by omega, rfl, by simp [cntD]⟩
    case round =>
      obtain ⟨k, hk, rfl, rfl⟩ := hrel
      by_cases hlt : k < L.length
      · have hdk : decide ((k : Int) < (L.length : Int)) = true := by simp; omega
        have hki : (k : Int) < (L.length : Int) := by omega
        obtain ⟨⟨p, q⟩, hx⟩ : ∃ x, L[k]? = some x := ⟨_, List.getElem?_eq_getElem hlt⟩
        obtain ⟨b1, o1, rfl, hb1, e0, e1⟩ := HLC.out.nth hx
        simp only at e0 e1
        have HC := hide (cntD_succ (d := d) hx)
        have hle := cntD_le L d k
        clear hx
        simp only at HC
        generalize cntD L d k = F at *
        cases hp : (p == d) with
        | true =>
          rw [hp] at HC
          have hw : IntKind.i64.wrap (48 - (F : Int) - 1) = 48 - ((F + 1 : Nat) : Int) := by rw [IntKind.wrap_i64]; omega
          go_wp2_with fail
          go_round
          case rel => exact ⟨k + 1, by omega, by go_num, by rw [HC.out]; rfl⟩
          case measure => simp [intOf]; omega
        | false =>
          rw [hp] at HC
          go_wp2_with fail
          go_round
          case rel => exact ⟨k + 1, by omega, by go_num, by rw [HC.out]; rfl⟩
          case measure => simp [intOf]; omega
      · have hdk : decide ((k : Int) < (L.length : Int)) = false := by simp; omega
        have HK : Hid (k = L.length) := by show k = L.length; omega
        go_wp2_with fail
        try go_ret
        exact ⟨by rw [← HK.out]; rfl, rfl⟩
  · rw [if_neg hd]
    have hn : ¬ (0 ≤ d ∧ d < 12) := fun q => hd (okD_iff.2 q)
    clear hd
    by_cases h0 : d < 0
    · have q0 : decide (d < 0) = true := by simpa using h0
      go_enter Try.func13, Try.ntmps13
      go_wp2_with fail
      try go_ret
      exact ⟨rfl, rfl⟩
    · have q0 : decide (d < 0) = false := by simpa using h0
      have q1 : decide (11 < d) = true := by simp; omega
      go_enter Try.func13, Try.ntmps13
      go_wp2_with fail
      try go_ret
      exact ⟨rfl, rfl⟩
/-- what is taken, told by both -/
structure Rel (B : Nat → Bool) (L : List (Int × Int)) : Prop where
  iff : ∀ x, okL x = true → B (idx x) = memL L x
  nodup : L.Nodup
  ok : ∀ x ∈ L, okL x = true
def rtL (B : Nat → Bool) (L : List (Int × Int)) (d : Int) : List (Int × Int) := if tkE B d = 0 then L ++ [(d, tkN B d)] else L
def rmL (B : Nat → Bool) (L : List (Int × Int)) (x : Int × Int) : List (Int × Int) := if mkE B x = 0 then L ++ [x] else L
theorem memL_snoc (L : List (Int × Int)) (x y : Int × Int) : memL (L ++ [x]) y = (memL L y || decide (y = x)) := by unfold memL; simp
theorem Rel.put {B : Nat → Bool} {L : List (Int × Int)} (h : Rel B L) {x : Int × Int} (ho : okL x = true) (hb : B (idx x) = false) : Rel (setB B (idx x) true) (L ++ [x]) := by
  have hm : x ∉ L := fun hm => by have := h.iff x ho; rw [hb] at this; unfold memL at this; rw [decide_eq_true hm] at this; cases this
  refine ⟨fun y hy => ?_, ?_, fun y hy => ?_⟩
  · rw [memL_snoc]
    by_cases e : y = x
    · subst e; rw [setB_at]; simp
    · rw [setB_ne fun q => e (idx_inj hy ho q), h.iff y hy]; simp [e]
  · rw [List.nodup_append]
    exact ⟨h.nodup, by simp, fun y hy z hz e => hm (by rw [List.mem_singleton.1 hz] at e; exact e ▸ hy)⟩
  · rcases List.mem_append.1 hy with q | q
    · exact h.ok y q
    · rw [List.mem_singleton.1 q]; exact ho
theorem Rel.take {B : Nat → Bool} {L : List (Int × Int)} (h : Rel B L) (d : Int) : Rel (tkB B d) (rtL B L d) := by
  unfold rtL
  by_cases he : tkE B d = 0
  · obtain ⟨t1, t2, t3⟩ := tk_ok he
    rw [if_pos he, t3]
    exact h.put t1 t2
  · rw [if_neg he, tk_bad he]; exact h
theorem Rel.congr {B C : Nat → Bool} {L : List (Int × Int)} (h : Rel B L) (e : ∀ q, B q = C q) : Rel C L := by
  obtain rfl : B = C := funext e
  exact h
theorem Rel.mark {B : Nat → Bool} {L : List (Int × Int)} (h : Rel B L) (x : Int × Int) : Rel (mkB B x) (rmL B L x) := by
  unfold rmL
  by_cases he : mkE B x = 0
  · obtain ⟨t1, t2, t3⟩ := mk_free he
    rw [if_pos he, t3]
    exact h.put t1 t2
  · rw [if_neg he]
    exact h.congr fun q => (mk_held he q).symm
theorem Rel.tn {B : Nat → Bool} {L : List (Int × Int)} (h : Rel B L) (x : Int × Int) : memL L x = tnB B x := by
  unfold tnB
  cases ho : okL x with
  | true => rw [← h.iff x ho]; rfl
  | false =>
    rw [Bool.false_and]
    unfold memL
    rw [decide_eq_false_iff_not]
    intro hm
    rw [h.ok x hm] at ho; cases ho
/-- the place's box -/
def S2 (lb : Nat) (x y : Int) (w : World) : Prop := w.cell? ⟨lb, 0, none⟩ = some (.int .i64 x) ∧ w.cell? ⟨lb, 1, none⟩ = some (.int .i64 y)
theorem own_new_ne {w : World} {B z n k : Nat} {e : TypeId} {v : Value} {xs : List Value} (h : w.ownsRow B e z v n xs) (hk : w.heap.size ≤ k) : v.ownBlock ≠ some k := fun q => by have := (own_lt h q).1; omega
set_option maxRecDepth 100000 in
set_option maxHeartbeats 8000000 in
theorem rTake_any (rb : Nat) (v : Value) (L : List (Int × Int)) (B : Nat → Bool) (d : Int) (w : World) (h : Rs w rb v L) (hr : Rel B L) (hl : L.length ≤ 1000000) : Calls Try.prog 22 #[.pointer (some ⟨rb, 0, none⟩), .int .i64 d] w fun e w' => e = .returned (.tuple #[.int .i64 (tkN B d), .int .i64 (tkE B d)]) ∧ ∃ v', Rs w' rb v' (rtL B L d) ∧ Ru rb v w v' w' ∧ Was rb v L w v' (rtL B L d) w' := by
  by_cases hd : okD d = true
  case neg =>
    have hn : ¬ (0 ≤ d ∧ d < 12) := fun q => hd (okD_iff.2 q)
    have e1 : tkE B d = 1 := by unfold tkE; rw [if_neg hd]
    have e2 : tkN B d = 0 := by unfold tkN; rw [if_neg hd]
    have e3 : rtL B L d = L := by unfold rtL; rw [if_neg (by rw [e1]; decide)]
    rw [e1, e2, e3]
    have HS := hide h
    clear hd e1 e2 e3 h hr
    by_cases h0 : d < 0
    · have q0 : decide (d < 0) = true := by simpa using h0
      go_enter Try.func22, Try.ntmps22
      go_wp2_with fail
      go_ret2
      exact ⟨rfl, _, HS.out, Ru.refl _ _ _, Was.of_below (Below.refl _ _)⟩
    · have q0 : decide (d < 0) = false := by simpa using h0
      have q1 : decide (11 < d) = true := by simp; omega
      go_enter Try.func22, Try.ntmps22
      go_wp2_with fail
      go_ret2
      exact ⟨rfl, _, HS.out, Ru.refl _ _ _, Was.of_below (Below.refl _ _)⟩
  obtain ⟨p, rfl⟩ := Int.eq_ofNat_of_zero_le (okD_iff.1 hd).1
  have hp : p < 12 := by have := (okD_iff.1 hd).2; omega
  have q0 : decide ((p : Int) < 0) = false := by simp
  have q1 : decide ((11 : Int) < (p : Int)) = false := by simp; omega
  have HE : Hid (tkE B (p : Int) = (if (frO B p).isSome then 0 else 7)) := by unfold Hid tkE; rw [if_pos hd, Int.toNat_natCast]
  have HN : Hid (tkN B (p : Int) = (((frO B p).getD 0 : Nat) : Int)) := by unfold Hid tkN; rw [if_pos hd, Int.toNat_natCast]
  obtain ⟨av, cv, rfl, hcv, hcm, hL⟩ := h.form
  have HS0 := hide h
  have HR := hide hr
  obtain ⟨i0, hi0, hz0, hz1, hz2⟩ := info_parts loc_info
  have HI := hide hi0
  have HZ0 := hide hz0
  have HZ1 := hide hz1
  have HZ2 := hide hz2
  clear hi0 hz0 hz1 hz2 hL h hr hd
  go_enter Try.func22, Try.ntmps22
  go_wp2_with fail
  go_loopw [6] (fun y wr => ∃ k : Nat, k ≤ 48 ∧ y = .int .i64 k ∧ (∀ i, i < k → B (p * 48 + i) = true) ∧ Below w.heap.size w wr) (fun y _ => 48 - (intOf y).toNat)
  case atStart => exact ⟨0, by omega, rfl, fun i hi => by omega, Below.refl _ _⟩
  case round =>
    obtain ⟨k, hk, rfl, hall, hb⟩ := hrel
    have HA := hide hall
    have HB := hide hb
    clear hall hb
    by_cases hlt : k < 48
    · have hdk : decide ((k : Int) < 48) = true := by simp; omega
      have hok : okL ((p : Int), (k : Int)) = true := okL_iff.2 ⟨⟨by simp only; omega, by simp only; omega⟩, by simp only; omega, by simp only; omega⟩
      have hix : idx ((p : Int), (k : Int)) = p * 48 + k := rfl
      have hal : Below wr.heap.size wr (wr.alloc (.cells #[.int .i64 (p : Int), .int .i64 (k : Int)] 31)) := (Below.refl _ _).alloc (Nat.le_refl _) _
      have HAB : Hid (Below w.heap.size w (wr.alloc (.cells #[.int .i64 (p : Int), .int .i64 (k : Int)] 31))) := HB.out.trans (hal.mono HB.out.size)
      have HT := hide (rTaken_any rb _ L (p : Int) (k : Int) _ (HS0.out.below HAB.out))
      have HBX : Hid ((wr.alloc (.cells #[.int .i64 (p : Int), .int .i64 (k : Int)] 31)).heap[wr.heap.size]? = some (.cells #[.int .i64 (p : Int), .int .i64 (k : Int)] 31 (0, 0))) := heap_alloc_new _ _
      have hmem := HR.out.iff _ hok
      rw [hix] at hmem
      rw [← hmem] at HT
      clear hal hmem hok hix
      cases hbk : B (p * 48 + k) with
      | true =>
        rw [hbk] at HT
        have HBK := hide hbk
        clear hbk
        go_wp2_with fail
        refine HT.out.mono ?_
        rintro e w1 ⟨rfl, hb1⟩
        have HB1 : Hid (Below w.heap.size w w1) := HAB.out.trans (hb1.mono HAB.out.size)
        clear hb1
        go_wp2_with fail
        go_roundw
        case rel => exact ⟨k + 1, by omega, by go_num, fun i hi => by
          by_cases q : i = k
          · subst q; exact HBK.out
          · exact HA.out i (by omega), HB1.out⟩
        case measure => simp [intOf]; omega
      | false =>
        rw [hbk] at HT
        have hfr := fr_some hlt HA.out hbk
        have HEN : Hid (tkE B (p : Int) = 0 ∧ tkN B (p : Int) = (k : Int)) := ⟨by rw [HE.out, hfr]; rfl, by rw [HN.out, hfr]; rfl⟩
        clear hbk hfr
        go_wp2_with fail
        refine HT.out.mono ?_
        rintro e w1 ⟨rfl, hb1⟩
        have HB1 : Hid (Below w.heap.size w w1) := HAB.out.trans (hb1.mono HAB.out.size)
        have HRS := hide (HS0.out.below HB1.out)
        have hlk : w1.heap[wr.heap.size]? = some (.cells #[.int .i64 (p : Int), .int .i64 (k : Int)] 31 (0, 0)) := (hb1.block _ (lt_of_block HBX.out)).trans HBX.out
        have m0 : w1.cell? ⟨wr.heap.size, 0, none⟩ = some (.int .i64 (p : Int)) := cell_of_block hlk
        have m1 : w1.cell? ⟨wr.heap.size, 1, none⟩ = some (.int .i64 (k : Int)) := cell_of_block hlk
        have hlb : wr.heap.size < w1.heap.size := lt_of_block hlk
        have HLB : Hid ((Value.slice av L.length cv).ownBlock ≠ some wr.heap.size) := own_new_ne HS0.out.row HB.out.size
        have hlbne : rb < wr.heap.size := Nat.lt_of_lt_of_le HS0.out.lt HB.out.size
        clear hb1 hlk
        go_wp2_with fail
        have hS : S2 wr.heap.size (p : Int) (k : Int) w1 := ⟨m0, m1⟩
        have hW1 : Below w1.heap.size w1 (w1.drew.alloc (.cells #[.int .i64 (p : Int), .int .i64 (k : Int)] 31)) := ((Below.refl _ w1).drew).alloc (Nat.le_refl _) _
        have hb3 : w1.cell? ⟨rb, 0, none⟩ = some (.slice av L.length cv) := HRS.out.c0
        have hb3d : w1.drew.cell? ⟨rb, 0, none⟩ = some (.slice av L.length cv) := hb3
        have hbW : (w1.drew.alloc (.cells #[.int .i64 (p : Int), .int .i64 (k : Int)] 31)).cell? ⟨rb, 0, none⟩ = some (.slice av L.length cv) := (hW1.cell (p := ⟨rb, 0, none⟩) HRS.out.lt).trans hb3
        have hbV : (w1.alloc (.cells #[.int .i64 (p : Int), .int .i64 (k : Int)] 31)).cell? ⟨rb, 0, none⟩ = some (.slice av L.length cv) := hbW
        have HSW : Hid (S2 wr.heap.size (p : Int) (k : Int) (w1.drew.alloc (.cells #[.int .i64 (p : Int), .int .i64 (k : Int)] 31))) := ⟨(hW1.cell (p := ⟨wr.heap.size, 0, none⟩) hlb).trans m0, (hW1.cell (p := ⟨wr.heap.size, 1, none⟩) hlb).trans m1⟩
        have HW1 := hide hW1
        have hrbl := HRS.out.lt
        clear hW1
        refine wp_region_noPanic ?_
        refine wp_region_held_drew (S := S2 wr.heap.size (p : Int) (k : Int)) (by kernel_rfl) hS (fun hHeld => ?_)
        refine wpAnyH_take (i := 0) (v := ?v1) rfl (by kernel_rfl) (by kernel_rfl) (by kernel_rfl) (fun _ _ _ h => h) (Or.inl ⟨by rfl, ?hy1⟩) hHeld ?rest1
        case hy1 => (intro w' hSw; obtain ⟨s1, s2⟩ := hSw; go_simp; try with_reducible rfl)
        try simp [Act.put]
        refine wpAnyH_take (i := 1) (v := ?v2) rfl (by kernel_rfl) (by kernel_rfl) (by kernel_rfl) (fun _ _ _ h => h) (Or.inl ⟨by rfl, ?hy2⟩) hHeld ?rest2
        case hy2 => (intro w' hSw; obtain ⟨s1, s2⟩ := hSw; go_simp; try with_reducible rfl)
        try simp [Act.put]
        refine wpAnyH_take (i := 2) (v := ?v3) rfl (by kernel_rfl) (by kernel_rfl) (by kernel_rfl) (fun _ _ _ h => h) (Or.inl ⟨by rfl, ?hy3⟩) hHeld ?rest3
        case hy3 => (intro w' hSw; obtain ⟨s1, s2⟩ := hSw; go_simp; try with_reducible rfl)
        try simp [Act.put]
        refine wpAnyH_take (i := 3) (v := ?v4) rfl (by kernel_rfl) (by kernel_rfl) (by kernel_rfl) (fun _ _ _ h => h) (Or.inl ⟨by rfl, ?hy4⟩) hHeld ?rest4
        case hy4 => (intro w' hSw; obtain ⟨s1, s2⟩ := hSw; go_simp; try with_reducible rfl)
        try simp [Act.put]
        refine wpAnyH_take (i := 5) (v := ?v5) rfl (by kernel_rfl) (by kernel_rfl) (by kernel_rfl) (fun _ _ _ h => h) (Or.inl ⟨by rfl, ?hy5⟩) hHeld ?rest5
        case hy5 => (intro w' hSw; obtain ⟨s1, s2⟩ := hSw; go_simp; try with_reducible rfl)
        try simp [Act.put]
        refine wpAnyH_ready (rs := [4, 6]) (by kernel_rfl) (by simp) ?_
        refine AllReadyH.cons rfl (fun K hK => ?first) (AllReadyH.cons rfl (fun K hK => ?second) AllReadyH.nil)
        case first =>
          go_simp
          refine hK.out _ _ hS (fun hHeld => ?_)
          clear hK K
          try simp [Act.put]
          refine wpAnyH_ready (rs := [6]) (by kernel_rfl) (by simp) ?_
          refine AllReadyH.cons rfl (fun K hK => ?_) AllReadyH.nil
          go_simp
          refine hK.out _ _ HSW.out (fun hHeld => ?_)
          clear hK K
          try simp [Act.put]
          refine wpAnyH_ready (rs := [7]) (by kernel_rfl) (by simp) ?_
          refine AllReadyH.cons rfl (fun K hK => ?_) AllReadyH.nil
          rw [if_pos (by simp [Region.wanted])]
          refine wp_append_keep (rb + 1) (.tmp 29) (.tmp 31) 27 rfl 31 i0 (.agg #[.int .i64 0, .int .i64 0]) 2 16 Try.underlying27 HI.out HZ0.out HZ1.out HZ2.out rfl (by decide) (.slice av L.length cv) L.length (lcV L) (by simp [Act.eval]) (own_below HRS.out.row HW1.out) ⟨w1.heap.size, 0, none⟩ 1 1 [.int .i64 (p : Int), .int .i64 (k : Int)] (by simp [Act.eval]) rfl (cell_two_new w1.drew _ _ _) (by simp [Value.oneCell']) (by unfold maxLen; omega) (by omega) (by show _ ≤ (w1.alloc _).heap.size; rw [World.size_alloc]; omega) (by omega) ?_
          intro v' w3 hown hgr hat hkp hcp
          obtain ⟨g', cap', rfl⟩ := ownsRow_succ hown
          obtain ⟨p1, p2, p3⟩ := HRS.out.push (x := ((p : Int), (k : Int))) HW1.out hown hgr hat
          have cst : w3.cell? ⟨rb, 0, none⟩ = some (.slice av L.length cv) := cell_of_block p1
          have fst : w3.frozen? ⟨rb, 0, none⟩ = false := free_of_block p1
          have HP2 := hide p2
          have HP3 := hide p3
          have HP4 := hide (Was.push (x := ((p : Int), (k : Int))) HRS.out HW1.out hown hat hkp hcp)
          have hlk : w3.heap[wr.heap.size]? = w1.heap[wr.heap.size]? := (hgr.block wr.heap.size (Nat.lt_of_lt_of_le hlb HW1.out.size) (fun e => HLB.out e.symm)).trans (HW1.out.block wr.heap.size hlb)
          have hS3 : S2 wr.heap.size (p : Int) (k : Int) w3 := ⟨(World.cell?_of_block (a := ⟨wr.heap.size, 0, none⟩) hlk).trans m0, (World.cell?_of_block (a := ⟨wr.heap.size, 1, none⟩) hlk).trans m1⟩
          have HS4 : Hid (∀ v, S2 wr.heap.size (p : Int) (k : Int) (w3.setCell ⟨rb, 0, none⟩ v)) := fun v => ⟨(World.cell?_of_block (a := ⟨wr.heap.size, 0, none⟩) (Below.heap_setCell _ _ _ _ (by show wr.heap.size ≠ rb; omega))).trans hS3.1, (World.cell?_of_block (a := ⟨wr.heap.size, 1, none⟩) (Below.heap_setCell _ _ _ _ (by show wr.heap.size ≠ rb; omega))).trans hS3.2⟩
          clear hown hgr hat p1 p2 p3 hlk hkp hcp
          refine hK.out _ _ hS3 (fun hHeld => ?_)
          clear hK K
          try simp [Act.put]
          refine wpAnyH_take (i := 8) (v := ?v101) rfl (by kernel_rfl) (by kernel_rfl) (by kernel_rfl) (fun _ _ _ h => h) (Or.inl ⟨by rfl, ?hy101⟩) hHeld ?rest101
          case hy101 => (intro w' hSw; obtain ⟨s1, s2⟩ := hSw; go_simp; try with_reducible rfl)
          try simp [Act.put]
          refine wpAnyH_take (i := 9) (v := ?v102) rfl (by kernel_rfl) (by kernel_rfl) (by kernel_rfl) (fun _ _ _ h => h) (Or.inl ⟨by rfl, ?hy102⟩) hHeld ?rest102
          case hy102 => (intro w' hSw; obtain ⟨s1, s2⟩ := hSw; go_simp; try with_reducible rfl)
          try simp [Act.put]
          refine wpAnyH_ready (rs := [10]) (by kernel_rfl) (by simp) ?_
          refine AllReadyH.cons rfl (fun K hK => ?_) AllReadyH.nil
          go_simp
          refine hK.out _ _ (HS4.out _) (fun hHeld => ?_)
          clear hK K
          try simp [Act.put]
          refine wpAnyH_done (by kernel_rfl) (NoPanic.normal ?_) _
          go_wp2_with fail
          go_ret2
          refine ⟨by rw [HEN.out.1, HEN.out.2]; rfl, _, ?_, (Ru.of_below HB1.out).trans HP3.out, ?_⟩
          · unfold rtL; rw [if_pos HEN.out.1, HEN.out.2]; exact HP2.out
          · unfold rtL; rw [if_pos HEN.out.1, HEN.out.2]; exact (Was.of_below HB1.out).trans HP4.out
        case second =>
          go_simp
          refine hK.out _ _ HSW.out (fun hHeld => ?_)
          clear hK K
          try simp [Act.put]
          refine wpAnyH_ready (rs := [4]) (by kernel_rfl) (by simp) ?_
          refine AllReadyH.cons rfl (fun K hK => ?_) AllReadyH.nil
          go_simp
          refine hK.out _ _ HSW.out (fun hHeld => ?_)
          clear hK K
          try simp [Act.put]
          refine wpAnyH_ready (rs := [7]) (by kernel_rfl) (by simp) ?_
          refine AllReadyH.cons rfl (fun K hK => ?_) AllReadyH.nil
          rw [if_pos (by simp [Region.wanted])]
          refine wp_append_keep (rb + 1) (.tmp 29) (.tmp 31) 27 rfl 31 i0 (.agg #[.int .i64 0, .int .i64 0]) 2 16 Try.underlying27 HI.out HZ0.out HZ1.out HZ2.out rfl (by decide) (.slice av L.length cv) L.length (lcV L) (by simp [Act.eval]) (own_below HRS.out.row HW1.out) ⟨w1.heap.size, 0, none⟩ 1 1 [.int .i64 (p : Int), .int .i64 (k : Int)] (by simp [Act.eval]) rfl (cell_two_new w1.drew _ _ _) (by simp [Value.oneCell']) (by unfold maxLen; omega) (by omega) (by show _ ≤ (w1.alloc _).heap.size; rw [World.size_alloc]; omega) (by omega) ?_
          intro v' w3 hown hgr hat hkp hcp
          obtain ⟨g', cap', rfl⟩ := ownsRow_succ hown
          obtain ⟨p1, p2, p3⟩ := HRS.out.push (x := ((p : Int), (k : Int))) HW1.out hown hgr hat
          have cst : w3.cell? ⟨rb, 0, none⟩ = some (.slice av L.length cv) := cell_of_block p1
          have fst : w3.frozen? ⟨rb, 0, none⟩ = false := free_of_block p1
          have HP2 := hide p2
          have HP3 := hide p3
          have HP4 := hide (Was.push (x := ((p : Int), (k : Int))) HRS.out HW1.out hown hat hkp hcp)
          have hlk : w3.heap[wr.heap.size]? = w1.heap[wr.heap.size]? := (hgr.block wr.heap.size (Nat.lt_of_lt_of_le hlb HW1.out.size) (fun e => HLB.out e.symm)).trans (HW1.out.block wr.heap.size hlb)
          have hS3 : S2 wr.heap.size (p : Int) (k : Int) w3 := ⟨(World.cell?_of_block (a := ⟨wr.heap.size, 0, none⟩) hlk).trans m0, (World.cell?_of_block (a := ⟨wr.heap.size, 1, none⟩) hlk).trans m1⟩
          have HS4 : Hid (∀ v, S2 wr.heap.size (p : Int) (k : Int) (w3.setCell ⟨rb, 0, none⟩ v)) := fun v => ⟨(World.cell?_of_block (a := ⟨wr.heap.size, 0, none⟩) (Below.heap_setCell _ _ _ _ (by show wr.heap.size ≠ rb; omega))).trans hS3.1, (World.cell?_of_block (a := ⟨wr.heap.size, 1, none⟩) (Below.heap_setCell _ _ _ _ (by show wr.heap.size ≠ rb; omega))).trans hS3.2⟩
          clear hown hgr hat p1 p2 p3 hlk hkp hcp
          refine hK.out _ _ hS3 (fun hHeld => ?_)
          clear hK K
          try simp [Act.put]
          refine wpAnyH_take (i := 8) (v := ?v201) rfl (by kernel_rfl) (by kernel_rfl) (by kernel_rfl) (fun _ _ _ h => h) (Or.inl ⟨by rfl, ?hy201⟩) hHeld ?rest201
          case hy201 => (intro w' hSw; obtain ⟨s1, s2⟩ := hSw; go_simp; try with_reducible rfl)
          try simp [Act.put]
          refine wpAnyH_take (i := 9) (v := ?v202) rfl (by kernel_rfl) (by kernel_rfl) (by kernel_rfl) (fun _ _ _ h => h) (Or.inl ⟨by rfl, ?hy202⟩) hHeld ?rest202
          case hy202 => (intro w' hSw; obtain ⟨s1, s2⟩ := hSw; go_simp; try with_reducible rfl)
          try simp [Act.put]
          refine wpAnyH_ready (rs := [10]) (by kernel_rfl) (by simp) ?_
          refine AllReadyH.cons rfl (fun K hK => ?_) AllReadyH.nil
          go_simp
          refine hK.out _ _ (HS4.out _) (fun hHeld => ?_)
          clear hK K
          try simp [Act.put]
          refine wpAnyH_done (by kernel_rfl) (NoPanic.normal ?_) _
          go_wp2_with fail
          go_ret2
          refine ⟨by rw [HEN.out.1, HEN.out.2]; rfl, _, ?_, (Ru.of_below HB1.out).trans HP3.out, ?_⟩
          · unfold rtL; rw [if_pos HEN.out.1, HEN.out.2]; exact HP2.out
          · unfold rtL; rw [if_pos HEN.out.1, HEN.out.2]; exact (Was.of_below HB1.out).trans HP4.out
    · have hdk : decide ((k : Int) < 48) = false := by simp; omega
      obtain rfl : k = 48 := by omega
      have hfr := fr_none HA.out
      have HEN : Hid (tkE B (p : Int) = 7 ∧ tkN B (p : Int) = 0) := ⟨by rw [HE.out, hfr]; rfl, by rw [HN.out, hfr]; rfl⟩
      clear hfr
      go_wp2_with fail
      go_ret2
      refine ⟨by rw [HEN.out.1, HEN.out.2]; rfl, _, ?_, Ru.of_below HB.out, ?_⟩
      · unfold rtL; rw [if_neg (by rw [HEN.out.1]; decide)]; exact HS0.out.below HB.out
      · unfold rtL; rw [if_neg (by rw [HEN.out.1]; decide)]; exact Was.of_below HB.out
set_option maxRecDepth 100000 in
set_option maxHeartbeats 8000000 in
theorem rMark_any (rb : Nat) (v : Value) (L : List (Int × Int)) (B : Nat → Bool) (x y : Int) (w : World) (h : Rs w rb v L) (hr : Rel B L) (hl : L.length ≤ 1000000) : Calls Try.prog 23 #[.pointer (some ⟨rb, 0, none⟩), .agg #[.int .i64 x, .int .i64 y]] w fun e w' => e = .returned (.int .i64 (mkE B (x, y))) ∧ ∃ v', Rs w' rb v' (rmL B L (x, y)) ∧ Ru rb v w v' w' := by
  have hal : Below w.heap.size w (w.alloc (.cells #[.int .i64 x, .int .i64 y] 31)) := (Below.refl _ _).alloc (Nat.le_refl _) _
  have HAL := hide hal
  have HBX : Hid ((w.alloc (.cells #[.int .i64 x, .int .i64 y] 31)).heap[w.heap.size]? = some (.cells #[.int .i64 x, .int .i64 y] 31 (0, 0))) := heap_alloc_new _ _
  have HIS := hide (is_any x y (w.alloc (.cells #[.int .i64 x, .int .i64 y] 31)))
  have HS0 := hide h
  have HT : Hid (∀ w', Below w.heap.size w w' → Calls Try.prog 15 #[.pointer (some ⟨rb, 0, none⟩), .agg #[.int .i64 x, .int .i64 y]] w' fun e w'' => e = .returned (.bool (tnB B (x, y))) ∧ Below w'.heap.size w' w'') := fun w' hb => by have := rTaken_any rb v L x y w' (h.below hb); rw [hr.tn] at this; exact this
  have hcs := mk_cases B (x, y)
  have HTN : Hid (okL (x, y) = true → (mkE B (x, y) = 13 → tnB B (x, y) = true) ∧ (mkE B (x, y) = 0 → tnB B (x, y) = false)) := fun ho => by
    unfold mkE tnB
    rw [if_pos ho, ho]
    cases B (idx (x, y)) <;> simp
  obtain ⟨i0, hi0, hz0, hz1, hz2⟩ := info_parts loc_info
  have HI := hide hi0
  have HZ0 := hide hz0
  have HZ1 := hide hz1
  have HZ2 := hide hz2
  obtain ⟨av, cv, rfl, hcv, hcm, hL⟩ := h.form
  clear hi0 hz0 hz1 hz2 h hr hal hL
  rcases hcs with ⟨ho, hE⟩ | ⟨ho, hE⟩ | ⟨ho, hE⟩
  · have HRL : Hid (rmL B L (x, y) = L) := by unfold Hid rmL; rw [if_neg (by rw [hE]; decide)]
    rw [hE, HRL.out]
    rw [ho] at HIS
    clear hE ho HTN
    go_enter Try.func23, Try.ntmps23
    go_wp2_with fail
    refine HIS.out.mono ?_
    rintro e w1 ⟨rfl, hb1⟩
    have HB1 : Hid (Below w.heap.size w w1) := HAL.out.trans (hb1.mono HAL.out.size)
    clear hb1
    go_wp2_with fail
    try go_ret
    exact ⟨rfl, _, HS0.out.below HB1.out, Ru.of_below HB1.out⟩
  · have HRL : Hid (rmL B L (x, y) = L) := by unfold Hid rmL; rw [if_neg (by rw [hE]; decide)]
    have htn := (HTN.out ho).1 hE
    rw [htn] at HT
    rw [hE, HRL.out]
    rw [ho] at HIS
    clear hE ho HTN htn
    go_enter Try.func23, Try.ntmps23
    go_wp2_with fail
    refine HIS.out.mono ?_
    rintro e w1 ⟨rfl, hb1⟩
    have HB1 : Hid (Below w.heap.size w w1) := HAL.out.trans (hb1.mono HAL.out.size)
    have hlk : w1.heap[w.heap.size]? = some (.cells #[.int .i64 x, .int .i64 y] 31 (0, 0)) := (hb1.block _ (lt_of_block HBX.out)).trans HBX.out
    have m0 : w1.cell? ⟨w.heap.size, 0, none⟩ = some (.int .i64 x) := cell_of_block hlk
    have m1 : w1.cell? ⟨w.heap.size, 1, none⟩ = some (.int .i64 y) := cell_of_block hlk
    clear hb1 hlk
    go_wp2_with fail
    refine (HT.out _ HB1.out).mono ?_
    rintro e w2 ⟨rfl, hb2⟩
    have HB2 : Hid (Below w.heap.size w w2) := HB1.out.trans (hb2.mono HB1.out.size)
    clear hb2
    go_wp2_with fail
    try go_ret
    exact ⟨rfl, _, HS0.out.below HB2.out, Ru.of_below HB2.out⟩
  · have HRL : Hid (rmL B L (x, y) = L ++ [(x, y)]) := by unfold Hid rmL; rw [if_pos hE]
    have htn := (HTN.out ho).2 hE
    rw [htn] at HT
    rw [hE, HRL.out]
    rw [ho] at HIS
    clear hE ho HTN htn
    go_enter Try.func23, Try.ntmps23
    go_wp2_with fail
    refine HIS.out.mono ?_
    rintro e w1 ⟨rfl, hb1⟩
    have HB1 : Hid (Below w.heap.size w w1) := HAL.out.trans (hb1.mono HAL.out.size)
    have hlk : w1.heap[w.heap.size]? = some (.cells #[.int .i64 x, .int .i64 y] 31 (0, 0)) := (hb1.block _ (lt_of_block HBX.out)).trans HBX.out
    have HLK := hide hlk
    have m0 : w1.cell? ⟨w.heap.size, 0, none⟩ = some (.int .i64 x) := cell_of_block hlk
    have m1 : w1.cell? ⟨w.heap.size, 1, none⟩ = some (.int .i64 y) := cell_of_block hlk
    clear hb1 hlk
    go_wp2_with fail
    refine (HT.out _ HB1.out).mono ?_
    rintro e w2 ⟨rfl, hb2⟩
    have HB2 : Hid (Below w.heap.size w w2) := HB1.out.trans (hb2.mono HB1.out.size)
    have HRS := hide (HS0.out.below HB2.out)
    have hlk : w2.heap[w.heap.size]? = some (.cells #[.int .i64 x, .int .i64 y] 31 (0, 0)) := (hb2.block _ (lt_of_block HLK.out)).trans HLK.out
    clear m0 m1
    have m0 : w2.cell? ⟨w.heap.size, 0, none⟩ = some (.int .i64 x) := cell_of_block hlk
    have m1 : w2.cell? ⟨w.heap.size, 1, none⟩ = some (.int .i64 y) := cell_of_block hlk
    have hlb : w.heap.size < w2.heap.size := lt_of_block hlk
    have HLB : Hid ((Value.slice av L.length cv).ownBlock ≠ some w.heap.size) := own_new_ne HS0.out.row (Nat.le_refl _)
    have hlbne : rb < w.heap.size := HS0.out.lt
    clear hb2 hlk HLK
    go_wp2_with fail
    have hS : S2 w.heap.size x y w2 := ⟨m0, m1⟩
    have hW1 : Below w2.heap.size w2 (w2.drew.alloc (.cells #[.int .i64 x, .int .i64 y] 31)) := ((Below.refl _ w2).drew).alloc (Nat.le_refl _) _
    have hb3 : w2.cell? ⟨rb, 0, none⟩ = some (.slice av L.length cv) := HRS.out.c0
    have hb3d : w2.drew.cell? ⟨rb, 0, none⟩ = some (.slice av L.length cv) := hb3
    have hbW : (w2.drew.alloc (.cells #[.int .i64 x, .int .i64 y] 31)).cell? ⟨rb, 0, none⟩ = some (.slice av L.length cv) := (hW1.cell (p := ⟨rb, 0, none⟩) HRS.out.lt).trans hb3
    have hbV : (w2.alloc (.cells #[.int .i64 x, .int .i64 y] 31)).cell? ⟨rb, 0, none⟩ = some (.slice av L.length cv) := hbW
    have HSW : Hid (S2 w.heap.size x y (w2.drew.alloc (.cells #[.int .i64 x, .int .i64 y] 31))) := ⟨(hW1.cell (p := ⟨w.heap.size, 0, none⟩) hlb).trans m0, (hW1.cell (p := ⟨w.heap.size, 1, none⟩) hlb).trans m1⟩
    have HW1 := hide hW1
    have hrbl := HRS.out.lt
    clear hW1
    refine wp_region_noPanic ?_
    refine wp_region_held_drew (S := S2 w.heap.size x y) (by kernel_rfl) hS (fun hHeld => ?_)
    refine wpAnyH_take (i := 0) (v := ?v1) rfl (by kernel_rfl) (by kernel_rfl) (by kernel_rfl) (fun _ _ _ h => h) (Or.inl ⟨by rfl, ?hy1⟩) hHeld ?rest1
    case hy1 => (intro w' hSw; obtain ⟨s1, s2⟩ := hSw; go_simp; try with_reducible rfl)
    try simp [Act.put]
    refine wpAnyH_take (i := 1) (v := ?v2) rfl (by kernel_rfl) (by kernel_rfl) (by kernel_rfl) (fun _ _ _ h => h) (Or.inl ⟨by rfl, ?hy2⟩) hHeld ?rest2
    case hy2 => (intro w' hSw; obtain ⟨s1, s2⟩ := hSw; go_simp; try with_reducible rfl)
    try simp [Act.put]
    refine wpAnyH_take (i := 2) (v := ?v3) rfl (by kernel_rfl) (by kernel_rfl) (by kernel_rfl) (fun _ _ _ h => h) (Or.inl ⟨by rfl, ?hy3⟩) hHeld ?rest3
    case hy3 => (intro w' hSw; obtain ⟨s1, s2⟩ := hSw; go_simp; try with_reducible rfl)
    try simp [Act.put]
    refine wpAnyH_take (i := 3) (v := ?v4) rfl (by kernel_rfl) (by kernel_rfl) (by kernel_rfl) (fun _ _ _ h => h) (Or.inl ⟨by rfl, ?hy4⟩) hHeld ?rest4
    case hy4 => (intro w' hSw; obtain ⟨s1, s2⟩ := hSw; go_simp; try with_reducible rfl)
    try simp [Act.put]
    refine wpAnyH_take (i := 5) (v := ?v5) rfl (by kernel_rfl) (by kernel_rfl) (by kernel_rfl) (fun _ _ _ h => h) (Or.inl ⟨by rfl, ?hy5⟩) hHeld ?rest5
    case hy5 => (intro w' hSw; obtain ⟨s1, s2⟩ := hSw; go_simp; try with_reducible rfl)
    try simp [Act.put]
    refine wpAnyH_ready (rs := [4, 6]) (by kernel_rfl) (by simp) ?_
    refine AllReadyH.cons rfl (fun K hK => ?first) (AllReadyH.cons rfl (fun K hK => ?second) AllReadyH.nil)
    case first =>
      go_simp
      refine hK.out _ _ hS (fun hHeld => ?_)
      clear hK K
      try simp [Act.put]
      refine wpAnyH_ready (rs := [6]) (by kernel_rfl) (by simp) ?_
      refine AllReadyH.cons rfl (fun K hK => ?_) AllReadyH.nil
      go_simp
      refine hK.out _ _ HSW.out (fun hHeld => ?_)
      clear hK K
      try simp [Act.put]
      refine wpAnyH_ready (rs := [7]) (by kernel_rfl) (by simp) ?_
      refine AllReadyH.cons rfl (fun K hK => ?_) AllReadyH.nil
      rw [if_pos (by simp [Region.wanted])]
      refine wp_append_keep (rb + 1) (.tmp 15) (.tmp 17) 27 rfl 31 i0 (.agg #[.int .i64 0, .int .i64 0]) 2 16 Try.underlying27 HI.out HZ0.out HZ1.out HZ2.out rfl (by decide) (.slice av L.length cv) L.length (lcV L) (by simp [Act.eval]) (own_below HRS.out.row HW1.out) ⟨w2.heap.size, 0, none⟩ 1 1 [.int .i64 x, .int .i64 y] (by simp [Act.eval]) rfl (cell_two_new w2.drew _ _ _) (by simp [Value.oneCell']) (by unfold maxLen; omega) (by omega) (by show _ ≤ (w2.alloc _).heap.size; rw [World.size_alloc]; omega) (by omega) ?_
      intro v' w3 hown hgr hat hkp hcp
      obtain ⟨g', cap', rfl⟩ := ownsRow_succ hown
      obtain ⟨p1, p2, p3⟩ := HRS.out.push (x := (x, y)) HW1.out hown hgr hat
      have cst : w3.cell? ⟨rb, 0, none⟩ = some (.slice av L.length cv) := cell_of_block p1
      have fst : w3.frozen? ⟨rb, 0, none⟩ = false := free_of_block p1
      have HP2 := hide p2
      have HP3 := hide p3
      have HP4 := hide (Was.push (x := (x, y)) HRS.out HW1.out hown hat hkp hcp)
      have hlk : w3.heap[w.heap.size]? = w2.heap[w.heap.size]? := (hgr.block w.heap.size (Nat.lt_of_lt_of_le hlb HW1.out.size) (fun e => HLB.out e.symm)).trans (HW1.out.block w.heap.size hlb)
      have hS3 : S2 w.heap.size x y w3 := ⟨(World.cell?_of_block (a := ⟨w.heap.size, 0, none⟩) hlk).trans m0, (World.cell?_of_block (a := ⟨w.heap.size, 1, none⟩) hlk).trans m1⟩
      have HS4 : Hid (∀ v, S2 w.heap.size x y (w3.setCell ⟨rb, 0, none⟩ v)) := fun v => ⟨(World.cell?_of_block (a := ⟨w.heap.size, 0, none⟩) (Below.heap_setCell _ _ _ _ (by show w.heap.size ≠ rb; omega))).trans hS3.1, (World.cell?_of_block (a := ⟨w.heap.size, 1, none⟩) (Below.heap_setCell _ _ _ _ (by show w.heap.size ≠ rb; omega))).trans hS3.2⟩
      clear hown hgr hat p1 p2 p3 hlk hkp hcp
      refine hK.out _ _ hS3 (fun hHeld => ?_)
      clear hK K
      try simp [Act.put]
      refine wpAnyH_take (i := 8) (v := ?v101) rfl (by kernel_rfl) (by kernel_rfl) (by kernel_rfl) (fun _ _ _ h => h) (Or.inl ⟨by rfl, ?hy101⟩) hHeld ?rest101
      case hy101 => (intro w' hSw; obtain ⟨s1, s2⟩ := hSw; go_simp; try with_reducible rfl)
      try simp [Act.put]
      refine wpAnyH_take (i := 9) (v := ?v102) rfl (by kernel_rfl) (by kernel_rfl) (by kernel_rfl) (fun _ _ _ h => h) (Or.inl ⟨by rfl, ?hy102⟩) hHeld ?rest102
      case hy102 => (intro w' hSw; obtain ⟨s1, s2⟩ := hSw; go_simp; try with_reducible rfl)
      try simp [Act.put]
      refine wpAnyH_ready (rs := [10]) (by kernel_rfl) (by simp) ?_
      refine AllReadyH.cons rfl (fun K hK => ?_) AllReadyH.nil
      go_simp
      refine hK.out _ _ (HS4.out _) (fun hHeld => ?_)
      clear hK K
      try simp [Act.put]
      refine wpAnyH_done (by kernel_rfl) (NoPanic.normal ?_) _
      go_wp2_with fail
      try go_ret
      exact ⟨rfl, _, HP2.out, (Ru.of_below HB2.out).trans HP3.out⟩
    case second =>
      go_simp
      refine hK.out _ _ HSW.out (fun hHeld => ?_)
      clear hK K
      try simp [Act.put]
      refine wpAnyH_ready (rs := [4]) (by kernel_rfl) (by simp) ?_
      refine AllReadyH.cons rfl (fun K hK => ?_) AllReadyH.nil
      go_simp
      refine hK.out _ _ HSW.out (fun hHeld => ?_)
      clear hK K
      try simp [Act.put]
      refine wpAnyH_ready (rs := [7]) (by kernel_rfl) (by simp) ?_
      refine AllReadyH.cons rfl (fun K hK => ?_) AllReadyH.nil
      rw [if_pos (by simp [Region.wanted])]
      refine wp_append_keep (rb + 1) (.tmp 15) (.tmp 17) 27 rfl 31 i0 (.agg #[.int .i64 0, .int .i64 0]) 2 16 Try.underlying27 HI.out HZ0.out HZ1.out HZ2.out rfl (by decide) (.slice av L.length cv) L.length (lcV L) (by simp [Act.eval]) (own_below HRS.out.row HW1.out) ⟨w2.heap.size, 0, none⟩ 1 1 [.int .i64 x, .int .i64 y] (by simp [Act.eval]) rfl (cell_two_new w2.drew _ _ _) (by simp [Value.oneCell']) (by unfold maxLen; omega) (by omega) (by show _ ≤ (w2.alloc _).heap.size; rw [World.size_alloc]; omega) (by omega) ?_
      intro v' w3 hown hgr hat hkp hcp
      obtain ⟨g', cap', rfl⟩ := ownsRow_succ hown
      obtain ⟨p1, p2, p3⟩ := HRS.out.push (x := (x, y)) HW1.out hown hgr hat
      have cst : w3.cell? ⟨rb, 0, none⟩ = some (.slice av L.length cv) := cell_of_block p1
      have fst : w3.frozen? ⟨rb, 0, none⟩ = false := free_of_block p1
      have HP2 := hide p2
      have HP3 := hide p3
      have HP4 := hide (Was.push (x := (x, y)) HRS.out HW1.out hown hat hkp hcp)
      have hlk : w3.heap[w.heap.size]? = w2.heap[w.heap.size]? := (hgr.block w.heap.size (Nat.lt_of_lt_of_le hlb HW1.out.size) (fun e => HLB.out e.symm)).trans (HW1.out.block w.heap.size hlb)
      have hS3 : S2 w.heap.size x y w3 := ⟨(World.cell?_of_block (a := ⟨w.heap.size, 0, none⟩) hlk).trans m0, (World.cell?_of_block (a := ⟨w.heap.size, 1, none⟩) hlk).trans m1⟩
      have HS4 : Hid (∀ v, S2 w.heap.size x y (w3.setCell ⟨rb, 0, none⟩ v)) := fun v => ⟨(World.cell?_of_block (a := ⟨w.heap.size, 0, none⟩) (Below.heap_setCell _ _ _ _ (by show w.heap.size ≠ rb; omega))).trans hS3.1, (World.cell?_of_block (a := ⟨w.heap.size, 1, none⟩) (Below.heap_setCell _ _ _ _ (by show w.heap.size ≠ rb; omega))).trans hS3.2⟩
      clear hown hgr hat p1 p2 p3 hlk hkp hcp
      refine hK.out _ _ hS3 (fun hHeld => ?_)
      clear hK K
      try simp [Act.put]
      refine wpAnyH_take (i := 8) (v := ?v201) rfl (by kernel_rfl) (by kernel_rfl) (by kernel_rfl) (fun _ _ _ h => h) (Or.inl ⟨by rfl, ?hy201⟩) hHeld ?rest201
      case hy201 => (intro w' hSw; obtain ⟨s1, s2⟩ := hSw; go_simp; try with_reducible rfl)
      try simp [Act.put]
      refine wpAnyH_take (i := 9) (v := ?v202) rfl (by kernel_rfl) (by kernel_rfl) (by kernel_rfl) (fun _ _ _ h => h) (Or.inl ⟨by rfl, ?hy202⟩) hHeld ?rest202
      case hy202 => (intro w' hSw; obtain ⟨s1, s2⟩ := hSw; go_simp; try with_reducible rfl)
      try simp [Act.put]
      refine wpAnyH_ready (rs := [10]) (by kernel_rfl) (by simp) ?_
      refine AllReadyH.cons rfl (fun K hK => ?_) AllReadyH.nil
      go_simp
      refine hK.out _ _ (HS4.out _) (fun hHeld => ?_)
      clear hK K
      try simp [Act.put]
      refine wpAnyH_done (by kernel_rfl) (NoPanic.normal ?_) _
      go_wp2_with fail
      try go_ret
      exact ⟨rfl, _, HP2.out, (Ru.of_below HB2.out).trans HP3.out⟩
end Go.Proofs.Ythcpcdinjellcaa
