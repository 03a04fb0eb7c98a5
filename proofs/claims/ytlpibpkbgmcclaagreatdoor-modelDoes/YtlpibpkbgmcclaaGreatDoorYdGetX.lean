/- What Do of the document's model answers and leaves. (Written by genyd.py.) What Do of the document's model answers and leaves: no such key; get. (Written by genyd.py.) -/
import Derived.Test.YtlpibpkbgmcclaaGreatDoorYdStateX
import Derived.Test.YtlpibpkbgmcclaaGreatDoorRqCheckX
namespace Go.Proofs.YtlpibpkbgmcclaaGreatDoor
open Go.RowKit
set_option linter.unusedVariables false
/-- what the document's Do leaves -/
structure YdP (T : MT) (R : List KyE) (r : Rq) (y : Nat) (w : World) (e : Ending) (w' : World) : Prop where
  ex : ∃ a c L, e = .returned (.agg (rsC (T.code r) (T.ans r) a L.length c)) ∧ L.length ≤ c ∧ L.length ≤ 16 ∧ StrsAt w' a L ∧ KsIs T r L ∧ (a = none → c = 0) ∧ ∀ p, a = some p → w.heap.size ≤ p.block
  m : ∃ R', KyAt w' y R' ∧ Rl R' (T.next r) ∧ R'.length ≤ R.length + 1
  b : Bm y w w'
theorem ins_len (k : ByteArray) (y : Hd) : ∀ R : List KyE, (ins k y R).length = R.length + 1
  | [] => rfl
  | e :: R => by unfold ins; split <;> simp [ins_len k y R]
/-- a model stays where an answer is stored -/
theorem ky_row {W : World} {y g n p : Nat} {c : Int} {v : ByteArray} {a : Option Addr} {R : List KyE} (h : KyAt W y R) (hz : RsB g c v a n p W) (cs : Array Value) : KyAt (W.setRow g cs) y R := by
  obtain ⟨u, h1, h2⟩ := h.ex
  have hne : y ≠ g := fun e => by
    rw [e] at h1
    have := h1.symm.trans hz
    injection this with this
    injection this with _ q
    revert q; decide
  refine ⟨u, (setRow_other _ _ _ _ hne).trans h1, ?_⟩
  obtain ⟨hl, hh⟩ := h2
  refine ⟨hl, ?_⟩
  rcases hh with q | ⟨g9, cap, cur, q1, q2, q3, q4⟩
  · exact .inl q
  · refine .inr ⟨g9, cap, cur, q1, q2, (setRow_other _ _ _ _ (fun e => ?_)).trans q3, q4⟩
    rw [e] at q3
    have := q3.symm.trans hz
    injection this with this
    injection this with _ q
    revert q; decide
/-- an answer without keys, nothing changed -/
theorem ydp_still {T : MT} {R : List KyE} {r : Rq} {y : Nat} {w w' : World} {e : Ending} {c : Int} {u : ByteArray} (h : KyAt w y R) (hr : Rl R T) (hb : Below w.heap.size w w') (he : e = .returned (.agg (rsC c u none 0 0))) (hc : T.code r = c) (ha : T.ans r = u) (hx : T.next r = T) (hk : KsIs T r []) : YdP T R r y w e w' :=
  ⟨⟨none, 0, [], by rw [he, hc, ha]; rfl, Nat.le_refl _, Nat.zero_le _, .inl rfl, hk, fun _ => rfl, fun p hp => by cases hp⟩, ⟨R, h.below hb, by rw [hx]; exact hr, by omega⟩, Bm.of_below hb⟩
set_option maxRecDepth 100000 in
set_option maxHeartbeats 16000000 in
theorem yd_err {w : World} {y : Nat} {R : List KyE} {T : MT} (h : KyAt w y R) (hr : Rl R T) (hT : T.Ok) (hn : R.length ≤ 1000) (d : Int) (k v : ByteArray) (hk : k.size ≤ 100000) (hv : v.size ≤ 100000) (hz : rqE ⟨d, k, v⟩ ≠ 0) : Calls Tryz.prog 9 #[.pointer (some ⟨y, 0, none⟩), .agg #[.int .i64 d, .string k, .string v]] w (YdP T R ⟨d, k, v⟩ y w) := by
  have HB := hide (mdW_B w d k v)
  have HZ := hide (mdW_Z w d k v)
  have HR := hide (mdW_R w d k v)
  have HCK := hide (fun W => qrcheck_any ⟨d, k, v⟩ W hk hv)
  simp only [rqs] at HCK
  have HY := hide h
  have HYL := hide h.lt
  have HRL := hide hr
  have HOK := hide hT
  clear h hr hT
  have hcode : T.code ⟨d, k, v⟩ = rqE ⟨d, k, v⟩ := by unfold MT.code; rw [if_pos hz]
  have HQ : Hid (T.ans ⟨d, k, v⟩ = ByteArray.empty ∧ T.next ⟨d, k, v⟩ = T ∧ KsIs T ⟨d, k, v⟩ []) := ⟨by unfold MT.ans; rw [if_neg hz], by unfold MT.next; rw [if_neg hz], by unfold KsIs; rw [if_neg (fun q => hz q.1)]⟩
  have g1 : (rqE ⟨d, k, v⟩ != 0) = true := by simpa using hz
  generalize rqE ⟨d, k, v⟩ = E at *
  have HC := hide hcode
  clear hcode hz
  go_enter Tryz.func9, Tryz.ntmps9
  go_wp2_with (first | (refine wpList_load_row rfl 32 (.tmp 3) rfl (w.heap.size) rfl 32 #[.int .i64 d, .string k, .string v] (0, 0) _ HR.out Tryz.underlying32 rfl rq_info ?_))
  refine (HCK.out _).mono ?_
  rintro e w1 ⟨rfl, hb⟩
  have HZ1 : Hid (RsB (w.heap.size + 1) 0 ⟨#[]⟩ none 0 0 w1) := (hb.block _ (lt_of_block HZ.out)).trans HZ.out
  have HR1 : Hid (w1.heap[w.heap.size]? = some (.cells #[.int .i64 d, .string k, .string v] 32 (0, 0))) := (hb.block _ (lt_of_block HR.out)).trans HR.out
  have HB1 := hide (HB.out.trans (hb.mono HB.out.size))
  have HY1 := hide (HY.out.below HB1.out)
  clear hb
  have q0 : w1.cell? ⟨w.heap.size, 0, none⟩ = some (.int .i64 d) := cell_of_block HR1.out
  have q1 : w1.cell? ⟨w.heap.size, 1, none⟩ = some (.string k) := cell_of_block HR1.out
  have q2 : w1.cell? ⟨w.heap.size, 2, none⟩ = some (.string v) := cell_of_block HR1.out
  go_wp2_with (first | (refine wpList_store_row rfl 37 (.tmp 4) (.tmp 13) rfl (w.heap.size + 1) #[.int .i64 E, .string ⟨#[]⟩, .slice none 0 0] rfl rfl 37 _ HZ1.out rs_info rfl (rs_one _ _ _ _ _) ?_))
  refine bodyPost_ret (res_rs rfl _ _ (w.heap.size + 1) E ByteArray.empty none 0 0 rfl (rsB_row HZ1.out)) rfl ?_
  exact ydp_still HY.out HRL.out (below_setRow HB1.out (by omega) _) rfl HC.out HQ.out.1 HQ.out.2.1 HQ.out.2.2
set_option maxRecDepth 100000 in
set_option maxHeartbeats 16000000 in
theorem yd_lst {w : World} {y : Nat} {R : List KyE} {T : MT} (h : KyAt w y R) (hr : Rl R T) (hT : T.Ok) (hn : R.length ≤ 1000) (d : Int) (k v : ByteArray) (hk : k.size ≤ 100000) (hv : v.size ≤ 100000) (hz : rqE ⟨d, k, v⟩ = 0) (hd : d = 4) : Calls Tryz.prog 9 #[.pointer (some ⟨y, 0, none⟩), .agg #[.int .i64 d, .string k, .string v]] w (YdP T R ⟨d, k, v⟩ y w) := by
  have HB := hide (mdW_B w d k v)
  have HZ := hide (mdW_Z w d k v)
  have HR := hide (mdW_R w d k v)
  have HCK := hide (fun W => qrcheck_any ⟨d, k, v⟩ W hk hv)
  simp only [rqs] at HCK
  have HY := hide h
  have HYL := hide h.lt
  have HRL := hide hr
  have HOK := hide hT
  clear h hr hT
  subst hd
  rw [hz] at HCK
  have HQ : Hid (T.code ⟨4, k, v⟩ = 0 ∧ T.ans ⟨4, k, v⟩ = ByteArray.empty ∧ T.next ⟨4, k, v⟩ = T) := ⟨by rw [code_ok hz, if_neg (by show ¬ (4 : Int) = 0; decide), if_pos rfl], ans_mt hz (by show (4 : Int) ≠ 1; decide) (by show (4 : Int) ≠ 3; decide), by rw [next_ok hz, if_neg (fun q => by cases q.1), if_neg (fun q => by cases q.1)]⟩
  have HKS : Hid (∀ L, L = (lsK k R).take 16 → KsIs T ⟨4, k, v⟩ L) := fun L hL => by unfold KsIs; rw [if_pos ⟨hz, rfl⟩]; exact ⟨_, HRL.out.lsK k, hL⟩
  clear hz
  go_enter Tryz.func9, Tryz.ntmps9
  go_wp2_with (first | (refine wpList_load_row rfl 32 (.tmp 3) rfl (w.heap.size) rfl 32 #[.int .i64 4, .string k, .string v] (0, 0) _ HR.out Tryz.underlying32 rfl rq_info ?_))
  refine (HCK.out _).mono ?_
  rintro e w1 ⟨rfl, hb⟩
  have HZ1 : Hid (RsB (w.heap.size + 1) 0 ⟨#[]⟩ none 0 0 w1) := (hb.block _ (lt_of_block HZ.out)).trans HZ.out
  have HR1 : Hid (w1.heap[w.heap.size]? = some (.cells #[.int .i64 4, .string k, .string v] 32 (0, 0))) := (hb.block _ (lt_of_block HR.out)).trans HR.out
  have HB1 := hide (HB.out.trans (hb.mono HB.out.size))
  have HY1 := hide (HY.out.below HB1.out)
  clear hb
  have q0 : w1.cell? ⟨w.heap.size, 0, none⟩ = some (.int .i64 4) := cell_of_block HR1.out
  have q1 : w1.cell? ⟨w.heap.size, 1, none⟩ = some (.string k) := cell_of_block HR1.out
  have q2 : w1.cell? ⟨w.heap.size, 2, none⟩ = some (.string v) := cell_of_block HR1.out
  go_wp2_with fail
  refine (yd_list HY1.out hn k).mono ?_
  rintro e w2 hP
  obtain ⟨a2, c2, L2, rfl, h2, h3, h4, h5, h6, h7⟩ := hP.ex
  have HZ2 : Hid (RsB (w.heap.size + 1) 0 ⟨#[]⟩ none 0 0 w2) := (hP.b.block _ (lt_of_block HZ1.out)).trans HZ1.out
  have HB2 := hide (HB1.out.trans (hP.b.mono HB1.out.size))
  have HE := hide (And.intro h2 (And.intro h3 (And.intro h4 (And.intro h5 (And.intro h6 h7)))))
  have hw1 := lt_of_block HZ1.out
  have HW1 := hide hw1
  clear hP h2 h3 h4 h5 h6 h7 hw1
  go_wp2_with (first | (refine wpList_store_row rfl 37 (.tmp 4) (.tmp 21) rfl (w.heap.size + 1) #[.int .i64 0, .string ⟨#[]⟩, .slice a2 L2.length c2] rfl rfl 37 _ HZ2.out rs_info rfl (rs_one _ _ _ _ _) ?_))
  refine bodyPost_ret (res_rs rfl _ _ (w.heap.size + 1) 0 ByteArray.empty a2 L2.length c2 rfl (rsB_row HZ2.out)) rfl ?_
  obtain ⟨h2, h3, h4, h5, h6, h7⟩ := HE.out
  have hsr : Bm (w.heap.size + 1) w2 (w2.setRow (w.heap.size + 1) (rsC 0 ByteArray.empty a2 L2.length c2)) := ⟨rfl, rfl, rfl, by rw [setRow_size]; exact Nat.le_refl _, fun i _ hn => setRow_other _ _ _ _ hn⟩
  have hbb : Below w.heap.size w (w2.setRow (w.heap.size + 1) (rsC 0 ByteArray.empty a2 L2.length c2)) := below_setRow HB2.out (by omega) _
  refine ⟨⟨a2, c2, L2, by rw [HQ.out.1, HQ.out.2.1], h2, h3, strs_bm h4 hsr (fun p hp => by have := h7 p hp; have := HW1.out; omega), HKS.out _ h5, h6, fun p hp => by have := h7 p hp; have := HB1.out.size; omega⟩, ⟨R, HY.out.below hbb, by rw [HQ.out.2.2]; exact HRL.out, by omega⟩, Bm.of_below hbb⟩
set_option maxRecDepth 100000 in
set_option maxHeartbeats 16000000 in
theorem yd_pt {w : World} {y : Nat} {R : List KyE} {T : MT} (h : KyAt w y R) (hr : Rl R T) (hT : T.Ok) (hn : R.length ≤ 1000) (d : Int) (k v : ByteArray) (hk : k.size ≤ 100000) (hv : v.size ≤ 100000) (hz : rqE ⟨d, k, v⟩ = 0) (hd : d = 0) : Calls Tryz.prog 9 #[.pointer (some ⟨y, 0, none⟩), .agg #[.int .i64 d, .string k, .string v]] w (YdP T R ⟨d, k, v⟩ y w) := by
  have HB := hide (mdW_B w d k v)
  have HZ := hide (mdW_Z w d k v)
  have HR := hide (mdW_R w d k v)
  have HCK := hide (fun W => qrcheck_any ⟨d, k, v⟩ W hk hv)
  simp only [rqs] at HCK
  have HY := hide h
  have HYL := hide h.lt
  have HRL := hide hr
  have HOK := hide hT
  clear h hr hT
  subst hd
  rw [hz] at HCK
  have hc := code_ok (T := T) hz
  have HX := hide (next_ok (T := T) hz)
  rw [if_pos rfl] at hc
  have HC := hide hc
  have HA : Hid (T.ans ⟨0, k, v⟩ = ByteArray.empty) := ans_mt hz (by show (0 : Int) ≠ 1; decide) (by show (0 : Int) ≠ 3; decide)
  have HKS : Hid (KsIs T ⟨0, k, v⟩ []) := ks_nil (by show (0 : Int) ≠ 4; decide)
  clear hz hc
  go_enter Tryz.func9, Tryz.ntmps9
  go_wp2_with (first | (refine wpList_load_row rfl 32 (.tmp 3) rfl (w.heap.size) rfl 32 #[.int .i64 0, .string k, .string v] (0, 0) _ HR.out Tryz.underlying32 rfl rq_info ?_))
  refine (HCK.out _).mono ?_
  rintro e w1 ⟨rfl, hb⟩
  have HZ1 : Hid (RsB (w.heap.size + 1) 0 ⟨#[]⟩ none 0 0 w1) := (hb.block _ (lt_of_block HZ.out)).trans HZ.out
  have HR1 : Hid (w1.heap[w.heap.size]? = some (.cells #[.int .i64 0, .string k, .string v] 32 (0, 0))) := (hb.block _ (lt_of_block HR.out)).trans HR.out
  have HB1 := hide (HB.out.trans (hb.mono HB.out.size))
  have HY1 := hide (HY.out.below HB1.out)
  clear hb
  have q0 : w1.cell? ⟨w.heap.size, 0, none⟩ = some (.int .i64 0) := cell_of_block HR1.out
  have q1 : w1.cell? ⟨w.heap.size, 1, none⟩ = some (.string k) := cell_of_block HR1.out
  have q2 : w1.cell? ⟨w.heap.size, 2, none⟩ = some (.string v) := cell_of_block HR1.out
  go_wp2_with fail
  refine (yd_at HY1.out (by omega) k).mono ?_
  rintro e w2 ⟨r, rfl, hat, hw⟩
  obtain rfl := hw
  rcases hat with ⟨rfl, hno⟩ | ⟨i, z, rfl, hi⟩
  · have hTk := HRL.out.miss hno
    have HNO := hide hno
    have HTK := hide hTk
    clear hno hTk
    go_wp2_with fail
    refine (yd_put HY1.out hn k ⟨v, false⟩ HNO.out).mono ?_
    rintro e w3 ⟨rfl, hy, hb⟩
    have HY3 := hide hy
    have HB3 := hide hb
    have HZ3 : Hid (RsB (w.heap.size + 1) 0 ⟨#[]⟩ none 0 0 w3) := hb.keep HZ1.out (by have := HYL.out; omega)
    clear hy hb
    go_wp2_with (first | (refine wpList_store_row rfl 37 (.tmp 4) (.tmp 39) rfl (w.heap.size + 1) #[.int .i64 0, .string ⟨#[]⟩, .slice none 0 0] rfl rfl 37 _ HZ3.out rs_info rfl (rs_one _ _ _ _ _) ?_))
    refine bodyPost_ret (res_rs rfl _ _ (w.heap.size + 1) 0 ByteArray.empty none 0 0 rfl (rsB_row HZ3.out)) rfl ?_
    have hsr : Bm (w.heap.size + 1) w3 (w3.setRow (w.heap.size + 1) (rsC 0 ByteArray.empty none 0 0)) := ⟨rfl, rfl, rfl, by rw [setRow_size]; exact Nat.le_refl _, fun i _ hn => setRow_other _ _ _ _ hn⟩
    refine ⟨⟨none, 0, [], by rw [HC.out, HA.out, HTK.out]; rfl, Nat.le_refl _, Nat.zero_le _, .inl rfl, HKS.out, fun _ => rfl, fun p hp => by cases hp⟩, ⟨_, ky_row HY3.out HZ3.out _, ?_, by rw [ins_len]; omega⟩, bm_row HB1.out HB3.out (by omega) _⟩
    have e9 : T.next ⟨0, k, v⟩ = T.set k ⟨v, false⟩ := by rw [HX.out]; simp [HTK.out]
    rw [e9]
    exact HRL.out.ins HTK.out _
  · have hTk := HRL.out.at hi
    have HTK := hide hTk
    have hi0 : decide ((0 : Int) ≤ (i : Int)) = true := by simp
    have hi1 : (0 : Int) ≤ (i : Int) := by omega
    clear hTk hi
    go_wp2_with (first | (refine wpList_store_row rfl 37 (.tmp 4) (.tmp 31) rfl (w.heap.size + 1) #[.int .i64 13, .string ⟨#[]⟩, .slice none 0 0] rfl rfl 37 _ HZ1.out rs_info rfl (rs_one _ _ _ _ _) ?_))
    refine bodyPost_ret (res_rs rfl _ _ (w.heap.size + 1) 13 ByteArray.empty none 0 0 rfl (rsB_row HZ1.out)) rfl ?_
    exact ydp_still HY.out HRL.out (below_setRow HB1.out (by omega) _) rfl (by rw [HC.out, HTK.out]; rfl) HA.out (by rw [HX.out, if_neg (fun q => by rw [HTK.out] at q; cases q.2), if_neg (fun q => by cases q.1)]) HKS.out
end Go.Proofs.YtlpibpkbgmcclaaGreatDoor
namespace Go.Proofs.YtlpibpkbgmcclaaGreatDoor
open Go.RowKit
set_option linter.unusedVariables false
set_option maxRecDepth 100000 in
set_option maxHeartbeats 16000000 in
theorem yd_no {w : World} {y : Nat} {R : List KyE} {T : MT} (h : KyAt w y R) (hr : Rl R T) (hT : T.Ok) (hn : R.length ≤ 1000) (d : Int) (k v : ByteArray) (hk : k.size ≤ 100000) (hv : v.size ≤ 100000) (hz : rqE ⟨d, k, v⟩ = 0) (hd0 : d ≠ 0) (hd4 : d ≠ 4) (hno : T.val k = none) : Calls Tryz.prog 9 #[.pointer (some ⟨y, 0, none⟩), .agg #[.int .i64 d, .string k, .string v]] w (YdP T R ⟨d, k, v⟩ y w) := by
  have HB := hide (mdW_B w d k v)
  have HZ := hide (mdW_Z w d k v)
  have HR := hide (mdW_R w d k v)
  have HCK := hide (fun W => qrcheck_any ⟨d, k, v⟩ W hk hv)
  simp only [rqs] at HCK
  have HY := hide h
  have HYL := hide h.lt
  have HRL := hide hr
  have HOK := hide hT
  clear h hr hT
  rw [hz] at HCK
  have hc := code_ok (T := T) hz
  have hx := next_ok (T := T) hz
  have ha := ans_ok (T := T) hz
  rw [if_neg (show ¬ (⟨d, k, v⟩ : Rq).d = 0 from hd0), if_neg (show ¬ (⟨d, k, v⟩ : Rq).d = 4 from hd4), show T.val (⟨d, k, v⟩ : Rq).k = none from hno] at hc
  rw [show T.val (⟨d, k, v⟩ : Rq).k = none from hno] at ha
  rw [if_neg (fun q => hd0 q.1), if_neg (fun q => by have := q.2; rw [show T.val (⟨d, k, v⟩ : Rq).k = none from hno] at this; cases this)] at hx
  have HC : Hid (T.code ⟨d, k, v⟩ = 9) := hc
  have HA : Hid (T.ans ⟨d, k, v⟩ = ByteArray.empty) := ha
  have HX : Hid (T.next ⟨d, k, v⟩ = T) := hx
  have HKS : Hid (KsIs T ⟨d, k, v⟩ []) := ks_nil hd4
  have HNO := hide hno
  have z0 : (d == 0) = false := by simpa using hd0
  have z4 : (d == 4) = false := by simpa using hd4
  clear hz hc hx ha hd0 hd4 hno
  go_enter Tryz.func9, Tryz.ntmps9
  go_wp2_with (first | (refine wpList_load_row rfl 32 (.tmp 3) rfl (w.heap.size) rfl 32 #[.int .i64 d, .string k, .string v] (0, 0) _ HR.out Tryz.underlying32 rfl rq_info ?_))
  refine (HCK.out _).mono ?_
  rintro e w1 ⟨rfl, hb⟩
  have HZ1 : Hid (RsB (w.heap.size + 1) 0 ⟨#[]⟩ none 0 0 w1) := (hb.block _ (lt_of_block HZ.out)).trans HZ.out
  have HR1 : Hid (w1.heap[w.heap.size]? = some (.cells #[.int .i64 d, .string k, .string v] 32 (0, 0))) := (hb.block _ (lt_of_block HR.out)).trans HR.out
  have HB1 := hide (HB.out.trans (hb.mono HB.out.size))
  have HY1 := hide (HY.out.below HB1.out)
  clear hb
  have q0 : w1.cell? ⟨w.heap.size, 0, none⟩ = some (.int .i64 d) := cell_of_block HR1.out
  have q1 : w1.cell? ⟨w.heap.size, 1, none⟩ = some (.string k) := cell_of_block HR1.out
  have q2 : w1.cell? ⟨w.heap.size, 2, none⟩ = some (.string v) := cell_of_block HR1.out
  go_wp2_with fail
  refine (yd_at HY1.out (by omega) k).mono ?_
  rintro e w2 ⟨r, rfl, hat, hw⟩
  obtain rfl := hw
  rcases hat with ⟨rfl, hno⟩ | ⟨i, z, rfl, hi⟩
  · clear hno
    go_wp2_with (first | (refine wpList_store_row rfl 37 (.tmp 4) (.tmp 52) rfl (w.heap.size + 1) #[.int .i64 9, .string ⟨#[]⟩, .slice none 0 0] rfl rfl 37 _ HZ1.out rs_info rfl (rs_one _ _ _ _ _) ?_))
    refine bodyPost_ret (res_rs rfl _ _ (w.heap.size + 1) 9 ByteArray.empty none 0 0 rfl (rsB_row HZ1.out)) rfl ?_
    exact ydp_still HY.out HRL.out (below_setRow HB1.out (by omega) _) rfl HC.out HA.out HX.out HKS.out
  · obtain ⟨zv, zg⟩ := z
    obtain ⟨ya, yc, hyc, hbx, hrw⟩ := HY1.out.open
    obtain ⟨g, rfl, hcl⟩ := hrw _ _ hi
    obtain ⟨t0, t1, t2⟩ := hcl w1 (Below.refl _ _)
    have c0 : w1.cell? ⟨y, 0, none⟩ = some (.slice (some ⟨g, 0, none⟩) R.length yc) := cell_of_block (hbx w1 (Below.refl _ _))
    have hil := (List.getElem?_eq_some_iff.1 hi).1
    simp only at t0 t1 t2
    obtain ⟨m, hm⟩ : ∃ m, R.length = m := ⟨_, rfl⟩
    rw [hm] at c0 hil hyc
    have hi0 : decide ((i : Int) < 0) = false := by simp
    have hi1 : (0 : Int) ≤ (i : Int) := by omega
    have hi2 : (i : Int) < (m : Int) := by omega
    have hTk := HRL.out.at hi
    cases zg with
    | false => have := val_of hTk; rw [HNO.out] at this; cases this
    | true =>
    clear hTk hi hm hcl hbx hrw
    go_wp2_with (first | (refine wpList_store_row rfl 37 (.tmp 4) (.tmp 52) rfl (w.heap.size + 1) #[.int .i64 9, .string ⟨#[]⟩, .slice none 0 0] rfl rfl 37 _ HZ1.out rs_info rfl (rs_one _ _ _ _ _) ?_))
    refine bodyPost_ret (res_rs rfl _ _ (w.heap.size + 1) 9 ByteArray.empty none 0 0 rfl (rsB_row HZ1.out)) rfl ?_
    exact ydp_still HY.out HRL.out (below_setRow HB1.out (by omega) _) rfl HC.out HA.out HX.out HKS.out
set_option maxRecDepth 100000 in
set_option maxHeartbeats 16000000 in
theorem yd_gt {w : World} {y : Nat} {R : List KyE} {T : MT} (h : KyAt w y R) (hr : Rl R T) (hT : T.Ok) (hn : R.length ≤ 1000) (d : Int) (k v : ByteArray) (hk : k.size ≤ 100000) (hv : v.size ≤ 100000) (hz : rqE ⟨d, k, v⟩ = 0) (hd : d = 1) (u : ByteArray) (hyes : T.val k = some u) : Calls Tryz.prog 9 #[.pointer (some ⟨y, 0, none⟩), .agg #[.int .i64 d, .string k, .string v]] w (YdP T R ⟨d, k, v⟩ y w) := by
  have HB := hide (mdW_B w d k v)
  have HZ := hide (mdW_Z w d k v)
  have HR := hide (mdW_R w d k v)
  have HCK := hide (fun W => qrcheck_any ⟨d, k, v⟩ W hk hv)
  simp only [rqs] at HCK
  have HY := hide h
  have HYL := hide h.lt
  have HRL := hide hr
  have HOK := hide hT
  clear h hr hT
  subst hd
  rw [hz] at HCK
  have hc := code_ok (T := T) hz
  have hx := next_ok (T := T) hz
  have ha := ans_ok (T := T) hz
  have hyy : T.val (⟨1, k, v⟩ : Rq).k = some u := hyes
  rw [if_neg (by show ¬ (1 : Int) = 0; decide), if_neg (by show ¬ (1 : Int) = 4; decide), hyy] at hc
  rw [hyy] at ha
  have HC : Hid (T.code ⟨1, k, v⟩ = 0) := hc
  have HA : Hid (T.ans ⟨1, k, v⟩ = u) := ha
  have HX := hide hx
  have HKS : Hid (KsIs T ⟨1, k, v⟩ []) := ks_nil (by show (1 : Int) ≠ 4; decide)
  have HYS := hide (val_some hyes)
  clear hz hc hx ha hyes hyy
  go_enter Tryz.func9, Tryz.ntmps9
  go_wp2_with (first | (refine wpList_load_row rfl 32 (.tmp 3) rfl (w.heap.size) rfl 32 #[.int .i64 1, .string k, .string v] (0, 0) _ HR.out Tryz.underlying32 rfl rq_info ?_))
  refine (HCK.out _).mono ?_
  rintro e w1 ⟨rfl, hb⟩
  have HZ1 : Hid (RsB (w.heap.size + 1) 0 ⟨#[]⟩ none 0 0 w1) := (hb.block _ (lt_of_block HZ.out)).trans HZ.out
  have HR1 : Hid (w1.heap[w.heap.size]? = some (.cells #[.int .i64 1, .string k, .string v] 32 (0, 0))) := (hb.block _ (lt_of_block HR.out)).trans HR.out
  have HB1 := hide (HB.out.trans (hb.mono HB.out.size))
  have HY1 := hide (HY.out.below HB1.out)
  clear hb
  have q0 : w1.cell? ⟨w.heap.size, 0, none⟩ = some (.int .i64 1) := cell_of_block HR1.out
  have q1 : w1.cell? ⟨w.heap.size, 1, none⟩ = some (.string k) := cell_of_block HR1.out
  have q2 : w1.cell? ⟨w.heap.size, 2, none⟩ = some (.string v) := cell_of_block HR1.out
  go_wp2_with fail
  refine (yd_at HY1.out (by omega) k).mono ?_
  rintro e w2 ⟨r, rfl, hat, hw⟩
  obtain rfl := hw
  rcases hat with ⟨rfl, hno⟩ | ⟨i, z, rfl, hi⟩
  · have := HRL.out.miss hno; rw [HYS.out] at this; cases this
  · obtain ⟨zv, zg⟩ := z
    obtain ⟨ya, yc, hyc, hbx, hrw⟩ := HY1.out.open
    obtain ⟨g, rfl, hcl⟩ := hrw _ _ hi
    obtain ⟨t0, t1, t2⟩ := hcl w1 (Below.refl _ _)
    have c0 : w1.cell? ⟨y, 0, none⟩ = some (.slice (some ⟨g, 0, none⟩) R.length yc) := cell_of_block (hbx w1 (Below.refl _ _))
    have hil := (List.getElem?_eq_some_iff.1 hi).1
    simp only at t0 t1 t2
    obtain ⟨m, hm⟩ : ∃ m, R.length = m := ⟨_, rfl⟩
    rw [hm] at c0 hil hyc
    have hi0 : decide ((i : Int) < 0) = false := by simp
    have hi1 : (0 : Int) ≤ (i : Int) := by omega
    have hi2 : (i : Int) < (m : Int) := by omega
    have hTk := HRL.out.at hi
    simp only at hTk
    rw [HYS.out] at hTk
    injection hTk with hTk
    injection hTk with e1 e2
    subst e1 e2
    clear hi hm hcl hbx hrw
    go_wp2_with (first | (refine wpList_store_row rfl 37 (.tmp 4) (.tmp 66) rfl (w.heap.size + 1) #[.int .i64 0, .string u, .slice none 0 0] rfl rfl 37 _ HZ1.out rs_info rfl (rs_one _ _ _ _ _) ?_))
    refine bodyPost_ret (res_rs rfl _ _ (w.heap.size + 1) 0 u none 0 0 rfl (rsB_row HZ1.out)) rfl ?_
    exact ydp_still HY.out HRL.out (below_setRow HB1.out (by omega) _) rfl HC.out HA.out (by rw [HX.out, if_neg (fun q => by cases q.1), if_neg (fun q => by cases q.1)]) HKS.out
end Go.Proofs.YtlpibpkbgmcclaaGreatDoor
