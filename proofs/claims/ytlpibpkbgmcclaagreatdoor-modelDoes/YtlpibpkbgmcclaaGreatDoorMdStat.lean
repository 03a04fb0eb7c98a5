/- What stat of a model answers. -/
import Derived.Test.YtlpibpkbgmcclaaGreatDoorMdMemX
import Derived.Test.YtlpibpkbgmcclaaGreatDoorShelf
import Derived.Lib.QuietBelow
namespace Go.Proofs.YtlpibpkbgmcclaaGreatDoor
open Go.RowKit
set_option linter.unusedVariables false
theorem grow_below {w : World} {k : Nat} {os : Array Obj} {w' : World} (h : w' = Go.Sort.grow (w.drewN k) os) : Below w.heap.size w w' := by
  rw [h]; exact below_regrown w (w.drewN k).drawn os
theorem dgV2_size (v : ByteArray) : (dgV2 v).size = 32 := mkS_size _ _
set_option maxRecDepth 100000 in
set_option maxHeartbeats 8000000 in
theorem md_stat {w : World} {x b n : Nat} {T : MT} (h : MdAt w x b n T) (hK : KM w) (d : Int) (k v : ByteArray) (hk : okS k) : Calls Tryz.prog 32 #[.pointer (some ⟨x, 0, none⟩), .agg #[.int .i64 d, .string k, .string v]] w (Did0 (if (T.val k).isSome then 0 else 9) (match T.val k with | some y => stV2 y | none => ByteArray.empty) w) := by
  have HB := hide (mdW_B w d k v)
  have HZ := hide (mdW_Z w d k v)
  have HV := hide (md_value (h.below HB.out) k hk)
  have HKM := hide hK
  have HOK := hide h.ok
  clear h hk hK
  cases hv : T.val k with
  | none =>
    rw [hv] at HV
    simp only [vlV] at HV
    clear hv
    go_enter Tryz.func32, Tryz.ntmps32
    go_wp2_with fail
    refine HV.out.mono ?_
    rintro e w1 ⟨rfl, hb⟩
    have HZ1 : Hid (RsB (w.heap.size + 1) 0 ⟨#[]⟩ none 0 0 w1) := (hb.block _ (lt_of_block HZ.out)).trans HZ.out
    have HB1 := hide (HB.out.trans (hb.mono HB.out.size))
    clear hb
    go_wp2_with (first | (refine wpList_store_row rfl 37 (.tmp 4) (.tmp 17) rfl (w.heap.size + 1) #[.int .i64 9, .string ⟨#[]⟩, .slice none 0 0] rfl rfl 37 _ HZ1.out rs_info rfl (rs_one _ _ _ _ _) ?_))
    refine bodyPost_ret (res_rs rfl _ _ (w.heap.size + 1) 9 ByteArray.empty none 0 0 rfl (rsB_row HZ1.out)) rfl ⟨rfl, below_setRow HB1.out (by omega) _⟩
  | some y =>
    rw [hv] at HV
    have hy : y.size ≤ 400 := (HOK.out k _ (val_some hv)).2
    simp only [vlV] at HV
    have z1 : (dcN y.size).size ≤ 19 := dcN_le (by omega)
    have z2 := hexS_size (dgV2 y)
    have z3 := dgV2_size y
    have HE : Hid (stV2 y = dcN y.size ++ ⟨#[32]⟩ ++ hexS (dgV2 y)) := rfl
    have HI : Hid (∀ W, KM W → Calls Tryz.prog 44 #[.int .i64 (y.size : Int)] W fun e w' => e = .returned (.string (dcN y.size)) ∧ Below W.heap.size W w') := fun W hW => by
      have := Tryz.strconv_Itoa (y.size : Int) (by omega) (by omega) W hW.tab
      rw [itoa_nat] at this
      exact this.mono fun e w' ⟨e1, k1, os, e2⟩ => ⟨e1, grow_below e2⟩
    have HS : Hid (∀ W, KM W → Calls Tryz.prog 45 #[.string y] W fun e w' => e = .returned (.string (dgV2 y)) ∧ Below W.heap.size W w') := fun W hW => dsum_any y W hW.k (by omega)
    have HH := hide (fun W => hex_any (dgV2 y) W (by omega))
    have hs1 : ∀ wx, (Op.stringOp .add (dcN y.size) ⟨#[32]⟩).run Tryz.prog wx = .ok (.string (dcN y.size ++ ⟨#[32]⟩)) wx := fun wx => run_string_add_sum wx _ _ (by have : (⟨#[32]⟩ : ByteArray).size = 1 := rfl; omega)
    have hs2 : ∀ wx, (Op.stringOp .add (dcN y.size ++ ⟨#[32]⟩) (hexS (dgV2 y))).run Tryz.prog wx = .ok (.string (dcN y.size ++ ⟨#[32]⟩ ++ hexS (dgV2 y))) wx := fun wx => run_string_add_sum wx _ _ (by rw [ByteArray.size_append]; have : (⟨#[32]⟩ : ByteArray).size = 1 := rfl; omega)
    have eh : mkS (2 * (dgV2 y).size) (hx (bt (dgV2 y))) = hexS (dgV2 y) := rfl
    rw [eh] at HH
    clear hv z1 z2 z3 eh
    simp only
    generalize dcN y.size = N at *
    generalize dgV2 y = G at *
    generalize hexS G = X at *
    go_enter Tryz.func32, Tryz.ntmps32
    go_wp2_with fail
    refine HV.out.mono ?_
    rintro e w1 ⟨rfl, hb⟩
    have HZ1 : Hid (RsB (w.heap.size + 1) 0 ⟨#[]⟩ none 0 0 w1) := (hb.block _ (lt_of_block HZ.out)).trans HZ.out
    have HB1 := hide (HB.out.trans (hb.mono HB.out.size))
    clear hb
    go_wp2_with fail
    refine (HI.out _ (HKM.out.below HB1.out)).mono ?_
    rintro e w2 ⟨rfl, hb⟩
    have HZ2 : Hid (RsB (w.heap.size + 1) 0 ⟨#[]⟩ none 0 0 w2) := (hb.block _ (lt_of_block HZ1.out)).trans HZ1.out
    have HB2 := hide (HB1.out.trans (hb.mono HB1.out.size))
    clear hb
    go_wp2_with fail
    refine (HS.out _ (HKM.out.below HB2.out)).mono ?_
    rintro e w3 ⟨rfl, hb⟩
    have HZ3 : Hid (RsB (w.heap.size + 1) 0 ⟨#[]⟩ none 0 0 w3) := (hb.block _ (lt_of_block HZ2.out)).trans HZ2.out
    have HB3 := hide (HB2.out.trans (hb.mono HB2.out.size))
    clear hb
    go_wp2_with fail
    refine (HH.out _).mono ?_
    rintro e w4 ⟨rfl, hb⟩
    have HZ4 : Hid (RsB (w.heap.size + 1) 0 ⟨#[]⟩ none 0 0 w4) := (hb.block _ (lt_of_block HZ3.out)).trans HZ3.out
    have HB4 := hide (HB3.out.trans (hb.mono HB3.out.size))
    clear hb
    go_wp2_with (first | (refine wpList_store_row rfl 37 (.tmp 4) (.tmp 26) rfl (w.heap.size + 1) #[.int .i64 0, .string (N ++ ⟨#[32]⟩ ++ X), .slice none 0 0] rfl rfl 37 _ HZ4.out rs_info rfl (rs_one _ _ _ _ _) ?_))
    refine bodyPost_ret (res_rs rfl _ _ (w.heap.size + 1) 0 (N ++ ⟨#[32]⟩ ++ X) none 0 0 rfl (rsB_row HZ4.out)) rfl ⟨by rw [HE.out], below_setRow HB4.out (by omega) _⟩
end Go.Proofs.YtlpibpkbgmcclaaGreatDoor
