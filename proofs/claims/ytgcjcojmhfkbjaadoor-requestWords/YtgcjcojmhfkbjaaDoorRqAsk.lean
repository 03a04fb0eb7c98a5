/- What a line's words ask: request.askedPut, askedKey, askedList, asked. (Written by genask.py.) -/
import Derived.Test.YtgcjcojmhfkbjaaDoorRqPrint
import Derived.Test.YtgcjcojmhfkbjaaDoorRqUnd
import Derived.Test.YtgcjcojmhfkbjaaDoorRqSplit
import Derived.Laws.ResultCell
namespace Go.Proofs.YtgcjcojmhfkbjaaDoor
open Go.RowKit
set_option linter.unusedVariables false
theorem rq_info : (Tryd.prog.info? 23).map (·.size) = some 3 := by kernel_rfl
theorem rq_one (d : Int) (k v : ByteArray) : (#[Value.int .i64 d, .string k, .string v] : Array Value).all (·.oneCell') = true := by simp [Value.oneCell']
/-- a request and an error, as results -/
def rqV (r : Rq) (e : Int) : Value := .tuple #[.agg (rqs r), .int .i64 e]
def optV (q : Option Rq) : Value := match q with | some r => rqV r 0 | none => rqV Rq.zero 14
def keyW (d : Int) : List ByteArray → Option Rq
  | [k] => some ⟨d, k, ByteArray.empty⟩
  | _ => none
noncomputable def putW : List ByteArray → Option Rq
  | [k, b] => (undg b).map fun v => ⟨0, k, v⟩
  | _ => none
def listW : List ByteArray → Option Rq
  | [] => some ⟨4, ByteArray.empty, ByteArray.empty⟩
  | [k] => if k.size = 0 then none else some ⟨4, k, ByteArray.empty⟩
  | _ => none
theorem keyW_no (d : Int) {L : List ByteArray} (h : L.length ≠ 1) : keyW d L = none := by
  match L, h with
  | [], _ => rfl
  | [x], h => exact absurd rfl h
  | _ :: _ :: _, _ => rfl
theorem putW_no {L : List ByteArray} (h : L.length ≠ 2) : putW L = none := by
  match L, h with
  | [], _ => rfl
  | [x], _ => rfl
  | [x, y], h => exact absurd rfl h
  | _ :: _ :: _ :: _, _ => rfl
theorem listW_no {L : List ByteArray} (h : 1 < L.length) : listW L = none := by
  match L, h with
  | [], h => simp at h
  | [x], h => simp at h
  | _ :: _ :: _, _ => rfl
open Classical in
theorem askW_cons (h : ByteArray) (L : List ByteArray) : askW (h :: L) = if h = putS then putW L else if h = getS then keyW 1 L else if h = delS then keyW 2 L else if h = statS then keyW 3 L else if h = listS then listW L else none := by
  have n1 : putS ≠ getS := by decide
  have n2 : putS ≠ delS := by decide
  have n3 : putS ≠ statS := by decide
  have n4 : putS ≠ listS := by decide
  have n5 : getS ≠ listS := by decide
  have n6 : delS ≠ listS := by decide
  have n7 : statS ≠ listS := by decide
  match L with
  | [] =>
    rw [askW_1]
    by_cases e : h = listS
    · subst e; simp [n4.symm, n5.symm, n6.symm, n7.symm, listW]
    · rw [if_neg e, if_neg e]
      simp [putW, keyW]
  | [a] =>
    rw [askW_2]
    by_cases e : h = putS
    · subst e; simp [n1, n2, n3, n4, putW]
    · rw [if_neg e]
      simp [keyW, listW]
  | [a, b] =>
    rw [askW_3]
    by_cases e : h = putS
    · rw [if_pos e, if_pos e]; rfl
    · rw [if_neg e, if_neg e]
      simp [keyW, listW]
  | a :: b :: c :: r =>
    rw [askW_long (by simp)]
    simp [putW, keyW, listW]
theorem res_rq {fn : Func} {p u : Tmp} (h : fn.results = #[.cell p 23, .tmp u]) (tmps : Array Value) (w : World) (g : Nat) (r : Rq)
    (hp : tmps.getD p undef = .pointer (some ⟨g, 0, none⟩)) (hr : RqB g r w) : (results fn tmps).run Tryd.prog w = .ok (.tuple #[.agg (rqs r), tmps.getD u undef]) w := by
  rw [results_cell_tmp h, hp]
  simp [asAddr, run_loadVar_row w g 23 23 (rqs r) (0, 0) _ hr Tryd.underlying23 rfl rq_info]
theorem rqB_row {b : Nat} {r0 : Rq} {w : World} (h : RqB b r0 w) (r : Rq) : RqB b r (w.setRow b (rqs r)) := setRow_heap _ _ _ _ _ _ h
theorem rq_new (w : World) : RqB w.heap.size Rq.zero (w.alloc (.cells #[.int .i64 0, .string ⟨#[]⟩, .string ⟨#[]⟩] 23)) := heap_alloc_new _ _
theorem rq_newB (w : World) : Below w.heap.size w (w.alloc (.cells #[.int .i64 0, .string ⟨#[]⟩, .string ⟨#[]⟩] 23)) := (Below.refl _ _).alloc (Nat.le_refl _) _
theorem strs_one {w : World} {a : Option Addr} {k : ByteArray} (h : StrsAt w a [k]) : ∃ b o, a = some ⟨b, o, none⟩ ∧ b < w.heap.size ∧ w.cell? ⟨b, o, none⟩ = some (.string k) := by
  obtain ⟨b, o, e, hb, hc⟩ := h.cell (i := 0) (s := k) rfl
  exact ⟨b, o, e, hb, hc⟩
theorem strs_two {w : World} {a : Option Addr} {k x : ByteArray} (h : StrsAt w a [k, x]) : ∃ b o, a = some ⟨b, o, none⟩ ∧ b < w.heap.size ∧ w.cell? ⟨b, o, none⟩ = some (.string k) ∧ w.cell? ⟨b, o + 1, none⟩ = some (.string x) := by
  rcases h with h | ⟨b, o, e, hb, hc⟩
  · cases h
  · exact ⟨b, o, e, hb, hc 0 k rfl, hc 1 x rfl⟩
set_option maxRecDepth 100000 in
set_option maxHeartbeats 8000000 in
theorem askedKey_any (d : Int) (a : Option Addr) (c n : Nat) (L : List ByteArray) (w : World) (hn : L.length = n) (h : StrsAt w a L) (hL : n ≤ 4) (hc : n ≤ c) : Calls Tryd.prog 40 #[.int .i64 d, .slice a n c] w fun e w' => e = .returned (optV (keyW d L)) ∧ Below w.heap.size w w' := by
  have HZ := hide (rq_new w)
  have HB := hide (rq_newB w)
  by_cases h1 : n = 1
  · subst h1
    obtain ⟨k, rfl⟩ : ∃ k, L = [k] := List.length_eq_one_iff.1 hn
    obtain ⟨b, o, rfl, hb, ck⟩ := strs_one h
    have ck2 := (HB.out.cell (p := ⟨b, o, none⟩) hb).trans ck
    clear h hn ck
    go_enter Tryd.func40, Tryd.ntmps40
    go_wp2_with (first | (refine wpList_store_row rfl 23 (.tmp 4) (.tmp 14) rfl w.heap.size #[.int .i64 d, .string k, .string ⟨#[]⟩] rfl rfl 23 _ HZ.out rq_info rfl (rq_one _ _ _) ?_))
    refine bodyPost_ret (res_rq rfl _ _ w.heap.size ⟨d, k, ByteArray.empty⟩ rfl (rqB_row HZ.out _)) rfl ⟨rfl, below_setRow HB.out (Nat.le_refl _) _⟩
  · have g1 : ((n : Int) != 1) = true := by simp; omega
    rw [keyW_no d (by omega)]
    clear h hn
    go_enter Tryd.func40, Tryd.ntmps40
    go_wp2_with (first | (refine wpList_store_row rfl 23 (.tmp 4) (.tmp 9) rfl w.heap.size #[.int .i64 0, .string ⟨#[]⟩, .string ⟨#[]⟩] rfl rfl 23 _ HZ.out rq_info rfl (rq_one _ _ _) ?_))
    refine bodyPost_ret (res_rq rfl _ _ w.heap.size Rq.zero rfl (rqB_row HZ.out _)) rfl ⟨rfl, below_setRow HB.out (Nat.le_refl _) _⟩
set_option maxRecDepth 100000 in
set_option maxHeartbeats 8000000 in
theorem askedPut_any (a : Option Addr) (c n : Nat) (L : List ByteArray) (w : World) (hn : L.length = n) (h : StrsAt w a L) (hL : n ≤ 4) (hc : n ≤ c) (hs : ∀ x ∈ L, x.size ≤ 100000) : Calls Tryd.prog 39 #[.slice a n c] w fun e w' => e = .returned (optV (putW L)) ∧ Below w.heap.size w w' := by
  have HZ := hide (rq_new w)
  have HB := hide (rq_newB w)
  by_cases h1 : n = 2
  · subst h1
    obtain ⟨k, x, rfl⟩ : ∃ k x, L = [k, x] := by match L, hn with | [k, x], _ => exact ⟨k, x, rfl⟩
    obtain ⟨b, o, rfl, hb, ck, cx⟩ := strs_two h
    have ck2 := (HB.out.cell (p := ⟨b, o, none⟩) hb).trans ck
    have cx2 := (HB.out.cell (p := ⟨b, o + 1, none⟩) hb).trans cx
    have HU := hide (fun W => ofDigits_any x W (hs x (by simp)))
    have HBL := hide hb
    have HCK := hide ck
    clear h hn ck cx hs
    cases hu : undg x with
    | some v =>
      have HE : Hid (optV (putW [k, x]) = rqV ⟨0, k, v⟩ 0) := by show optV ((undg x).map _) = _; rw [hu]; rfl
      rw [unV_some hu] at HU
      clear hu
      go_enter Tryd.func39, Tryd.ntmps39
      go_wp2_with fail
      refine (HU.out _).mono ?_
      rintro e w1 ⟨rfl, hb1⟩
      have HZ1 : Hid (RqB w.heap.size Rq.zero w1) := HZ.out.below hb1
      have HB1 := hide (HB.out.trans (hb1.mono HB.out.size))
      have ck3 := (HB1.out.cell (p := ⟨b, o, none⟩) HBL.out).trans HCK.out
      clear hb1 ck2 cx2 HZ HB
      have HZ := HZ1
      have HB := HB1
      clear HZ1 HB1
      go_wp2_with (first | (refine wpList_store_row rfl 23 (.tmp 2) (.tmp 24) rfl w.heap.size #[.int .i64 0, .string k, .string v] rfl rfl 23 _ HZ.out rq_info rfl (rq_one _ _ _) ?_))
      refine bodyPost_ret (res_rq rfl _ _ w.heap.size ⟨0, k, v⟩ rfl (rqB_row HZ.out _)) rfl ⟨by rw [HE.out]; rfl, below_setRow HB.out (Nat.le_refl _) _⟩
    | none =>
      have HE : Hid (optV (putW [k, x]) = rqV Rq.zero 14) := by show optV ((undg x).map _) = _; rw [hu]; rfl
      rw [unV_none hu] at HU
      clear hu
      go_enter Tryd.func39, Tryd.ntmps39
      go_wp2_with fail
      refine (HU.out _).mono ?_
      rintro e w1 ⟨rfl, hb1⟩
      have HZ1 : Hid (RqB w.heap.size Rq.zero w1) := HZ.out.below hb1
      have HB1 := hide (HB.out.trans (hb1.mono HB.out.size))
      clear hb1 ck2 cx2 HZ HB
      have HZ := HZ1
      have HB := HB1
      clear HZ1 HB1
      go_wp2_with (first | (refine wpList_store_row rfl 23 (.tmp 2) (.tmp 19) rfl w.heap.size #[.int .i64 0, .string ⟨#[]⟩, .string ⟨#[]⟩] rfl rfl 23 _ HZ.out rq_info rfl (rq_one _ _ _) ?_))
      refine bodyPost_ret (res_rq rfl _ _ w.heap.size Rq.zero rfl (rqB_row HZ.out _)) rfl ⟨by rw [HE.out]; rfl, below_setRow HB.out (Nat.le_refl _) _⟩
  · have g1 : ((n : Int) != 2) = true := by simp; omega
    rw [putW_no (by omega)]
    clear h hn
    go_enter Tryd.func39, Tryd.ntmps39
    go_wp2_with (first | (refine wpList_store_row rfl 23 (.tmp 2) (.tmp 9) rfl w.heap.size #[.int .i64 0, .string ⟨#[]⟩, .string ⟨#[]⟩] rfl rfl 23 _ HZ.out rq_info rfl (rq_one _ _ _) ?_))
    refine bodyPost_ret (res_rq rfl _ _ w.heap.size Rq.zero rfl (rqB_row HZ.out _)) rfl ⟨rfl, below_setRow HB.out (Nat.le_refl _) _⟩
set_option maxRecDepth 100000 in
set_option maxHeartbeats 8000000 in
theorem askedList_any (a : Option Addr) (c n : Nat) (L : List ByteArray) (w : World) (hn : L.length = n) (h : StrsAt w a L) (hL : n ≤ 4) (hc : n ≤ c) : Calls Tryd.prog 41 #[.slice a n c] w fun e w' => e = .returned (optV (listW L)) ∧ Below w.heap.size w w' := by
  have HZ := hide (rq_new w)
  have HB := hide (rq_newB w)
  by_cases h0 : n = 0
  · subst h0
    obtain rfl : L = [] := List.length_eq_zero_iff.1 hn
    clear h hn
    go_enter Tryd.func41, Tryd.ntmps41
    go_wp2_with (first | (refine wpList_store_row rfl 23 (.tmp 2) (.tmp 7) rfl w.heap.size #[.int .i64 4, .string ⟨#[]⟩, .string ⟨#[]⟩] rfl rfl 23 _ HZ.out rq_info rfl (rq_one _ _ _) ?_))
    refine bodyPost_ret (res_rq rfl _ _ w.heap.size ⟨4, ByteArray.empty, ByteArray.empty⟩ rfl (rqB_row HZ.out _)) rfl ⟨rfl, below_setRow HB.out (Nat.le_refl _) _⟩
  have g0 : ((n : Int) == 0) = false := by simp; omega
  have gn : (0 : Int) < (n : Int) := by omega
  obtain ⟨k, M, rfl⟩ : ∃ k M, L = k :: M := by
    cases L with
    | nil => exact absurd hn.symm h0
    | cons k M => exact ⟨k, M, rfl⟩
  obtain ⟨b, o, rfl, hb, ck0⟩ := h.cell (i := 0) (s := k) rfl
  have ck : w.cell? ⟨b, o, none⟩ = some (.string k) := ck0
  have ck2 := (HB.out.cell (p := ⟨b, o, none⟩) hb).trans ck
  have HK := hide (fun W hW => askedKey_any 4 (some ⟨b, o, none⟩) c n (k :: M) W hn hW hL hc)
  have HS := hide h
  have HNL := hide hn
  clear h hn ck ck0
  by_cases hk : k.size = 0
  · have ek := is_empty hk
    have HE : Hid (listW (k :: M) = none) := by
      cases M with
      | nil => show (if k.size = 0 then none else _) = none; rw [if_pos hk]
      | cons => rfl
    rw [HE.out]
    clear hk
    go_enter Tryd.func41, Tryd.ntmps41
    go_wp2_with (first | (refine wpList_store_row rfl 23 (.tmp 2) (.tmp 12) rfl w.heap.size #[.int .i64 0, .string ⟨#[]⟩, .string ⟨#[]⟩] rfl rfl 23 _ HZ.out rq_info rfl (rq_one _ _ _) ?_))
    refine bodyPost_ret (res_rq rfl _ _ w.heap.size Rq.zero rfl (rqB_row HZ.out _)) rfl ⟨rfl, below_setRow HB.out (Nat.le_refl _) _⟩
  · have ek := not_empty hk
    have HE : Hid (listW (k :: M) = keyW 4 (k :: M)) := by
      cases M with
      | nil => show (if k.size = 0 then none else _) = _; rw [if_neg hk]; rfl
      | cons => rfl
    rw [HE.out]
    clear hk
    obtain ⟨d1, k1, v1, e1, hq⟩ : ∃ d1 k1 v1 e1, optV (keyW 4 (k :: M)) = rqV ⟨d1, k1, v1⟩ e1 := by
      cases hq : keyW 4 (k :: M) with
      | none => exact ⟨_, _, _, _, rfl⟩
      | some r => exact ⟨_, _, _, _, rfl⟩
    have HQ := hide hq
    rw [hq] at HK ⊢
    clear hq
    simp only [rqV, rqs] at HK
    go_enter Tryd.func41, Tryd.ntmps41
    go_wp2_with fail
    refine (HK.out _ (HS.out.below HB.out)).mono ?_
    rintro e w1 ⟨rfl, hb1⟩
    have HZ1 : Hid (RqB w.heap.size Rq.zero w1) := HZ.out.below hb1
    have HB1 := hide (HB.out.trans (hb1.mono HB.out.size))
    clear hb1 ck2 HZ HB
    have HZ := HZ1
    have HB := HB1
    clear HZ1 HB1
    go_wp2_with (first | (refine wpList_store_row rfl 23 (.tmp 2) (.tmp 15) rfl w.heap.size #[.int .i64 d1, .string k1, .string v1] rfl rfl 23 _ HZ.out rq_info rfl (rq_one _ _ _) ?_))
    refine bodyPost_ret (res_rq rfl _ _ w.heap.size ⟨d1, k1, v1⟩ rfl (rqB_row HZ.out _)) rfl ⟨rfl, below_setRow HB.out (Nat.le_refl _) _⟩
theorem opt_form (q : Option Rq) : ∃ d1 k1 v1 e1, optV q = rqV ⟨d1, k1, v1⟩ e1 := by
  cases q with
  | none => exact ⟨_, _, _, _, rfl⟩
  | some r => exact ⟨_, _, _, _, rfl⟩
theorem put_list : putS.toList = [112, 117, 116] := by rw [ByteArray.toList_eq]; rfl
theorem get_list : getS.toList = [103, 101, 116] := by rw [ByteArray.toList_eq]; rfl
theorem del_list : delS.toList = [100, 101, 108] := by rw [ByteArray.toList_eq]; rfl
theorem stat_list : statS.toList = [115, 116, 97, 116] := by rw [ByteArray.toList_eq]; rfl
theorem list_list : listS.toList = [108, 105, 115, 116] := by rw [ByteArray.toList_eq]; rfl
set_option maxRecDepth 100000 in
set_option maxHeartbeats 8000000 in
theorem asked_any (x : ByteArray) (a : Option Addr) (c n : Nat) (L : List ByteArray) (w : World) (hn : L.length = n) (h : StrsAt w a L) (hL : n ≤ 4) (hc : n ≤ c) (hs : ∀ y ∈ L, y.size ≤ 100000) : Calls Tryd.prog 27 #[.string x, .slice a n c] w fun e w' => e = .returned (optV (askW (x :: L))) ∧ Below w.heap.size w w' := by
  have HZ := hide (rq_new w)
  have HB := hide (rq_newB w)
  rw [askW_cons]
  by_cases h0 : x = putS
  · have e0 := lit_t [112, 117, 116] put_list h0
    rw [if_pos h0]
    have HK := hide (fun W hW => askedPut_any a c n L W hn hW hL hc hs)
    obtain ⟨d1, k1, v1, z1, hq⟩ := opt_form (putW L)
    rw [hq] at HK ⊢
    have HS := hide h
    clear hq h h0
    simp only [rqV, rqs] at HK
    go_enter Tryd.func27, Tryd.ntmps27
    go_wp2_with fail
    refine (HK.out _ (HS.out.below HB.out)).mono ?_
    rintro e w1 ⟨rfl, hb1⟩
    have HZ1 : Hid (RqB w.heap.size Rq.zero w1) := HZ.out.below hb1
    have HB1 := hide (HB.out.trans (hb1.mono HB.out.size))
    clear hb1 HZ HB
    have HZ := HZ1
    have HB := HB1
    clear HZ1 HB1
    go_wp2_with (first | (refine wpList_store_row rfl 23 (.tmp 4) (.tmp 11) rfl w.heap.size #[.int .i64 d1, .string k1, .string v1] rfl rfl 23 _ HZ.out rq_info rfl (rq_one _ _ _) ?_))
    refine bodyPost_ret (res_rq rfl _ _ w.heap.size ⟨d1, k1, v1⟩ rfl (rqB_row HZ.out _)) rfl ⟨rfl, below_setRow HB.out (Nat.le_refl _) _⟩
  have e0 := lit_f [112, 117, 116] put_list h0
  rw [if_neg h0]
  clear h0
  by_cases h1 : x = getS
  · have e1 := lit_t [103, 101, 116] get_list h1
    rw [if_pos h1]
    have HK := hide (fun W hW => askedKey_any 1 a c n L W hn hW hL hc)
    obtain ⟨d1, k1, v1, z1, hq⟩ := opt_form (keyW 1 L)
    rw [hq] at HK ⊢
    have HS := hide h
    clear hq h h1
    simp only [rqV, rqs] at HK
    go_enter Tryd.func27, Tryd.ntmps27
    go_wp2_with fail
    refine (HK.out _ (HS.out.below HB.out)).mono ?_
    rintro e w1 ⟨rfl, hb1⟩
    have HZ1 : Hid (RqB w.heap.size Rq.zero w1) := HZ.out.below hb1
    have HB1 := hide (HB.out.trans (hb1.mono HB.out.size))
    clear hb1 HZ HB
    have HZ := HZ1
    have HB := HB1
    clear HZ1 HB1
    go_wp2_with (first | (refine wpList_store_row rfl 23 (.tmp 4) (.tmp 17) rfl w.heap.size #[.int .i64 d1, .string k1, .string v1] rfl rfl 23 _ HZ.out rq_info rfl (rq_one _ _ _) ?_))
    refine bodyPost_ret (res_rq rfl _ _ w.heap.size ⟨d1, k1, v1⟩ rfl (rqB_row HZ.out _)) rfl ⟨rfl, below_setRow HB.out (Nat.le_refl _) _⟩
  have e1 := lit_f [103, 101, 116] get_list h1
  rw [if_neg h1]
  clear h1
  by_cases h2 : x = delS
  · have e2 := lit_t [100, 101, 108] del_list h2
    rw [if_pos h2]
    have HK := hide (fun W hW => askedKey_any 2 a c n L W hn hW hL hc)
    obtain ⟨d1, k1, v1, z1, hq⟩ := opt_form (keyW 2 L)
    rw [hq] at HK ⊢
    have HS := hide h
    clear hq h h2
    simp only [rqV, rqs] at HK
    go_enter Tryd.func27, Tryd.ntmps27
    go_wp2_with fail
    refine (HK.out _ (HS.out.below HB.out)).mono ?_
    rintro e w1 ⟨rfl, hb1⟩
    have HZ1 : Hid (RqB w.heap.size Rq.zero w1) := HZ.out.below hb1
    have HB1 := hide (HB.out.trans (hb1.mono HB.out.size))
    clear hb1 HZ HB
    have HZ := HZ1
    have HB := HB1
    clear HZ1 HB1
    go_wp2_with (first | (refine wpList_store_row rfl 23 (.tmp 4) (.tmp 23) rfl w.heap.size #[.int .i64 d1, .string k1, .string v1] rfl rfl 23 _ HZ.out rq_info rfl (rq_one _ _ _) ?_))
    refine bodyPost_ret (res_rq rfl _ _ w.heap.size ⟨d1, k1, v1⟩ rfl (rqB_row HZ.out _)) rfl ⟨rfl, below_setRow HB.out (Nat.le_refl _) _⟩
  have e2 := lit_f [100, 101, 108] del_list h2
  rw [if_neg h2]
  clear h2
  by_cases h3 : x = statS
  · have e3 := lit_t [115, 116, 97, 116] stat_list h3
    rw [if_pos h3]
    have HK := hide (fun W hW => askedKey_any 3 a c n L W hn hW hL hc)
    obtain ⟨d1, k1, v1, z1, hq⟩ := opt_form (keyW 3 L)
    rw [hq] at HK ⊢
    have HS := hide h
    clear hq h h3
    simp only [rqV, rqs] at HK
    go_enter Tryd.func27, Tryd.ntmps27
    go_wp2_with fail
    refine (HK.out _ (HS.out.below HB.out)).mono ?_
    rintro e w1 ⟨rfl, hb1⟩
    have HZ1 : Hid (RqB w.heap.size Rq.zero w1) := HZ.out.below hb1
    have HB1 := hide (HB.out.trans (hb1.mono HB.out.size))
    clear hb1 HZ HB
    have HZ := HZ1
    have HB := HB1
    clear HZ1 HB1
    go_wp2_with (first | (refine wpList_store_row rfl 23 (.tmp 4) (.tmp 29) rfl w.heap.size #[.int .i64 d1, .string k1, .string v1] rfl rfl 23 _ HZ.out rq_info rfl (rq_one _ _ _) ?_))
    refine bodyPost_ret (res_rq rfl _ _ w.heap.size ⟨d1, k1, v1⟩ rfl (rqB_row HZ.out _)) rfl ⟨rfl, below_setRow HB.out (Nat.le_refl _) _⟩
  have e3 := lit_f [115, 116, 97, 116] stat_list h3
  rw [if_neg h3]
  clear h3
  by_cases h4 : x = listS
  · have e4 := lit_t [108, 105, 115, 116] list_list h4
    rw [if_pos h4]
    have HK := hide (fun W hW => askedList_any a c n L W hn hW hL hc)
    obtain ⟨d1, k1, v1, z1, hq⟩ := opt_form (listW L)
    rw [hq] at HK ⊢
    have HS := hide h
    clear hq h h4
    simp only [rqV, rqs] at HK
    go_enter Tryd.func27, Tryd.ntmps27
    go_wp2_with fail
    refine (HK.out _ (HS.out.below HB.out)).mono ?_
    rintro e w1 ⟨rfl, hb1⟩
    have HZ1 : Hid (RqB w.heap.size Rq.zero w1) := HZ.out.below hb1
    have HB1 := hide (HB.out.trans (hb1.mono HB.out.size))
    clear hb1 HZ HB
    have HZ := HZ1
    have HB := HB1
    clear HZ1 HB1
    go_wp2_with (first | (refine wpList_store_row rfl 23 (.tmp 4) (.tmp 35) rfl w.heap.size #[.int .i64 d1, .string k1, .string v1] rfl rfl 23 _ HZ.out rq_info rfl (rq_one _ _ _) ?_))
    refine bodyPost_ret (res_rq rfl _ _ w.heap.size ⟨d1, k1, v1⟩ rfl (rqB_row HZ.out _)) rfl ⟨rfl, below_setRow HB.out (Nat.le_refl _) _⟩
  have e4 := lit_f [108, 105, 115, 116] list_list h4
  rw [if_neg h4]
  clear h4
  clear h
  go_enter Tryd.func27, Tryd.ntmps27
  go_wp2_with (first | (refine wpList_store_row rfl 23 (.tmp 4) (.tmp 37) rfl w.heap.size #[.int .i64 0, .string ⟨#[]⟩, .string ⟨#[]⟩] rfl rfl 23 _ HZ.out rq_info rfl (rq_one _ _ _) ?_))
  refine bodyPost_ret (res_rq rfl _ _ w.heap.size Rq.zero rfl (rqB_row HZ.out _)) rfl ⟨rfl, below_setRow HB.out (Nat.le_refl _) _⟩
end Go.Proofs.YtgcjcojmhfkbjaaDoor
