/- What Do of the document's model answers and leaves: stat. (Written by genyd.py.) -/
import Derived.Test.YtlpibpkbgmcclaaGreatDoorYdGetX
import Derived.Test.YtlpibpkbgmcclaaGreatDoorRqAnswer
import Derived.Test.YtlpibpkbgmcclaaGreatDoorShRefSum
import Derived.Test.YtlpibpkbgmcclaaGreatDoorShHexX
namespace Go.Proofs.YtlpibpkbgmcclaaGreatDoor
open Go.RowKit
set_option linter.unusedVariables false
set_option maxRecDepth 100000 in
set_option maxHeartbeats 16000000 in
theorem yd_stat {w : World} {y : Nat} {R : List KyE} {T : MT} (h : KyAt w y R) (hr : Rl R T) (hT : T.Ok) (hn : R.length ≤ 1000) (d : Int) (k v : ByteArray) (hk : k.size ≤ 100000) (hv : v.size ≤ 100000) (hz : rqE ⟨d, k, v⟩ = 0) (hd : d = 3) (u : ByteArray) (hyes : T.val k = some u) : Calls Tryz.prog 9 #[.pointer (some ⟨y, 0, none⟩), .agg #[.int .i64 d, .string k, .string v]] w (YdP T R ⟨d, k, v⟩ y w) := by
  have HB := hide (mdW_B w d k v)
  have HZ := hide (mdW_Z w d k v)
  have HR := hide (mdW_R w d k v)
  have HCK := hide (fun W => qrcheck_any ⟨d, k, v⟩ W hk hv)
  simp only [rqs] at HCK
  have HY := hide h
  have HYL := hide h.lt
  have HRL := hide hr
  have HOK := hide hT
  clear h hr hT
  subst hd
  rw [hz] at HCK
  have hc := code_ok (T := T) hz
  have hx := next_ok (T := T) hz
  have ha := ans_ok (T := T) hz
  have hyy : T.val (⟨3, k, v⟩ : Rq).k = some u := hyes
  rw [if_neg (by show ¬ (3 : Int) = 0; decide), if_neg (by show ¬ (3 : Int) = 4; decide), hyy] at hc
  rw [hyy] at ha
  have HC : Hid (T.code ⟨3, k, v⟩ = 0) := hc
  have HA : Hid (T.ans ⟨3, k, v⟩ = stV2 u) := ha
  have HX := hide hx
  have HKS : Hid (KsIs T ⟨3, k, v⟩ []) := ks_nil (by show (3 : Int) ≠ 4; decide)
  have HYS := hide (val_some hyes)
  clear hz hc hx ha hyes hyy
  have hu : u.size ≤ 400 := (HOK.out k _ HYS.out).2
  have z1 : (dcN u.size).size ≤ 19 := dcN_le (by omega)
  have z2 := hexS_size (dgV2 u)
  have z3 : (dgV2 u).size = 32 := mkS_size _ _
  have zs : (⟨#[32]⟩ : ByteArray).size = 1 := rfl
  have HI := hide (fun W => refNumber_any u.size (by omega) W)
  have HS : Hid (∀ W : World, Calls Tryz.prog 22 #[.string u] W fun e w' => e = .returned (.string (dgV2 u)) ∧ Below W.heap.size W w') := fun W => refSum_any u W (by omega)
  have HH : Hid (∀ W : World, Calls Tryz.prog 21 #[.string (dgV2 u)] W fun e w' => e = .returned (.string (hexS (dgV2 u))) ∧ ∃ n, w' = W.drewN n) := fun W => refHex_any (dgV2 u) W (by omega)
  obtain ⟨S1, hS1⟩ : ∃ S1, dcN u.size ++ ⟨#[32]⟩ = S1 := ⟨_, rfl⟩
  have zS1 : S1.size ≤ 20 := by rw [← hS1, ByteArray.size_append]; omega
  obtain ⟨S2, hS2⟩ : ∃ S2, S1 ++ hexS (dgV2 u) = S2 := ⟨_, rfl⟩
  have hs1 : ∀ wx, (Op.stringOp .add (dcN u.size) ⟨#[32]⟩).run Tryz.prog wx = .ok (.string S1) wx := fun wx => by rw [← hS1]; exact run_string_add_sum wx _ _ (by omega)
  have hs2 : ∀ wx, (Op.stringOp .add S1 (hexS (dgV2 u))).run Tryz.prog wx = .ok (.string S2) wx := fun wx => by rw [← hS2]; exact run_string_add_sum wx _ _ (by omega)
  have HA : Hid (T.ans ⟨3, k, v⟩ = S2) := by have := HA.out; unfold stV2 at this; rw [hS1, hS2] at this; exact this
  clear hS1 hS2 z1 z2 z3 zs zS1
  generalize dcN u.size = N at *
  generalize dgV2 u = G at *
  generalize hexS G = X at *
  go_enter Tryz.func9, Tryz.ntmps9
  go_wp2_with (first | (refine wpList_load_row rfl 32 (.tmp 3) rfl (w.heap.size) rfl 32 #[.int .i64 3, .string k, .string v] (0, 0) _ HR.out Tryz.underlying32 rfl rq_info ?_))
  refine (HCK.out _).mono ?_
  rintro e w1 ⟨rfl, hb⟩
  have HZ1 : Hid (RsB (w.heap.size + 1) 0 ⟨#[]⟩ none 0 0 w1) := (hb.block _ (lt_of_block HZ.out)).trans HZ.out
  have HR1 : Hid (w1.heap[w.heap.size]? = some (.cells #[.int .i64 3, .string k, .string v] 32 (0, 0))) := (hb.block _ (lt_of_block HR.out)).trans HR.out
  have HB1 := hide (HB.out.trans (hb.mono HB.out.size))
  have HY1 := hide (HY.out.below HB1.out)
  clear hb
  have q0 : w1.cell? ⟨w.heap.size, 0, none⟩ = some (.int .i64 3) := cell_of_block HR1.out
  have q1 : w1.cell? ⟨w.heap.size, 1, none⟩ = some (.string k) := cell_of_block HR1.out
  have q2 : w1.cell? ⟨w.heap.size, 2, none⟩ = some (.string v) := cell_of_block HR1.out
  go_wp2_with fail
  refine (yd_at HY1.out (by omega) k).mono ?_
  rintro e w2 ⟨r, rfl, hat, hw⟩
  obtain rfl := hw
  rcases hat with ⟨rfl, hno⟩ | ⟨i, z, rfl, hi⟩
  · have := HRL.out.miss hno; rw [HYS.out] at this; cases this
  · obtain ⟨zv, zg⟩ := z
    obtain ⟨ya, yc, hyc, hbx, hrw⟩ := HY1.out.open
    obtain ⟨g, rfl, hcl⟩ := hrw _ _ hi
    obtain ⟨t0, t1, t2⟩ := hcl w1 (Below.refl _ _)
    have c0 : w1.cell? ⟨y, 0, none⟩ = some (.slice (some ⟨g, 0, none⟩) R.length yc) := cell_of_block (hbx w1 (Below.refl _ _))
    have hil := (List.getElem?_eq_some_iff.1 hi).1
    simp only at t0 t1 t2
    obtain ⟨m, hm⟩ : ∃ m, R.length = m := ⟨_, rfl⟩
    rw [hm] at c0 hil hyc
    have hi0 : decide ((i : Int) < 0) = false := by simp
    have hi1 : (0 : Int) ≤ (i : Int) := by omega
    have hi2 : (i : Int) < (m : Int) := by omega
    have hTk := HRL.out.at hi
    simp only at hTk
    rw [HYS.out] at hTk
    injection hTk with hTk
    injection hTk with e1 e2
    subst e1 e2
    clear hi hm hcl hbx hrw
    go_wp2_with fail
    refine (HI.out _).mono ?_
    rintro e x1 ⟨rfl, hb⟩
    have HZx1 : Hid (RsB (w.heap.size + 1) 0 ⟨#[]⟩ none 0 0 x1) := (hb.block _ (lt_of_block HZ1.out)).trans HZ1.out
    have HBx1 := hide (HB1.out.trans (hb.mono HB1.out.size))
    clear hb
    go_wp2_with fail
    refine (HS.out _).mono ?_
    rintro e x2 ⟨rfl, hb⟩
    have HZx2 : Hid (RsB (w.heap.size + 1) 0 ⟨#[]⟩ none 0 0 x2) := (hb.block _ (lt_of_block HZx1.out)).trans HZx1.out
    have HBx2 := hide (HBx1.out.trans (hb.mono HBx1.out.size))
    clear hb
    go_wp2_with fail
    refine (HH.out _).mono ?_
    rintro e x3 ⟨rfl, hb⟩
    obtain ⟨nh, rfl⟩ := hb
    have hb := drawn_below (Below.refl x2.heap.size x2) nh
    generalize x2.drewN nh = x3 at *
    have HZx3 : Hid (RsB (w.heap.size + 1) 0 ⟨#[]⟩ none 0 0 x3) := (hb.block _ (lt_of_block HZx2.out)).trans HZx2.out
    have HBx3 := hide (HBx2.out.trans (hb.mono HBx2.out.size))
    clear hb
    go_wp2_with (first | (refine wpList_store_row rfl 37 (.tmp 4) (.tmp 101) rfl (w.heap.size + 1) #[.int .i64 0, .string S2, .slice none 0 0] rfl rfl 37 _ HZx3.out rs_info rfl (rs_one _ _ _ _ _) ?_))
    refine bodyPost_ret (res_rs rfl _ _ (w.heap.size + 1) 0 S2 none 0 0 rfl (rsB_row HZx3.out)) rfl ?_
    exact ydp_still HY.out HRL.out (below_setRow HBx3.out (by omega) _) rfl HC.out HA.out (by rw [HX.out, if_neg (fun q => by cases q.1), if_neg (fun q => by cases q.1)]) HKS.out
end Go.Proofs.YtlpibpkbgmcclaaGreatDoor
