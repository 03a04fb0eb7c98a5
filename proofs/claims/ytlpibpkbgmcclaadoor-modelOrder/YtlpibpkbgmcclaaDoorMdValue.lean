/- What value, get, remove, put, deeds of a model answer, and what they leave. -/
import Derived.Test.YtlpibpkbgmcclaaDoorMdMem
import Derived.Handy
namespace Go.Proofs.YtlpibpkbgmcclaaDoor
open Go.RowKit
set_option linter.unusedVariables false
/-- a value and an error -/
def vlV (o : Option ByteArray) : Value := match o with | some v => .tuple #[.string v, .int .i64 0] | none => .tuple #[.string ByteArray.empty, .int .i64 9]
theorem ret_val {a b : Value} (h : a = b) : Ending.returned a = .returned b := by rw [h]
theorem key_okS {k : ByteArray} (h : k.size ≤ 100000) : okS k := by unfold okS Go.maxLen; omega
set_option maxRecDepth 100000 in
set_option maxHeartbeats 8000000 in
theorem md_value {w : World} {x b n : Nat} {T : MT} (h : MdAt w x b n T) (k : ByteArray) (hk : okS k) : Calls Tryd.prog 38 #[.pointer (some ⟨x, 0, none⟩), .string k] w fun e w' => e = .returned (vlV (T.val k)) ∧ Below w.heap.size w w' := by
  have c0 := h.c0
  have hze := hd_zero
  have hmt := hide h.m
  have HK := hide hk
  cases hT : T k with
  | none =>
    have HE : Hid (vlV (T.val k) = .tuple #[.string ByteArray.empty, .int .i64 9]) := by show _ = _; unfold MT.val; rw [hT]; rfl
    have HG : Hid (((T k).map hdV).getD (.agg #[.string ByteArray.empty, .bool false]) = .agg #[.string ByteArray.empty, .bool false]) := by show _ = _; rw [hT]; rfl
    have HS : Hid (((T k).map hdV).isSome = false) := by show _ = _; rw [hT]; rfl
    clear h hk hT
    go_enter Tryd.func38, Tryd.ntmps38
    go_wp2_with (first | (at_lookup; refine wp_mlook rfl _ _ 41 rfl 56 ke_str Tryd.underlying41 (hze _) k HK.out rfl hmt.out rfl ?_; rw [HS.out, HG.out]))
    first | go_ret | go_returns
    exact ⟨ret_val HE.out.symm, (Below.refl _ _).alloc (Nat.le_refl _) _⟩
  | some y =>
    obtain ⟨v, g⟩ := y
    have HG : Hid (((T k).map hdV).getD (.agg #[.string ByteArray.empty, .bool false]) = .agg #[.string v, .bool g]) := by show _ = _; rw [hT]; rfl
    have HS : Hid (((T k).map hdV).isSome = true) := by show _ = _; rw [hT]; rfl
    cases g with
    | true =>
      have HE : Hid (vlV (T.val k) = .tuple #[.string ByteArray.empty, .int .i64 9]) := by show _ = _; unfold MT.val; rw [hT]; rfl
      clear h hk hT
      go_enter Tryd.func38, Tryd.ntmps38
      go_wp2_with (first | (at_lookup; refine wp_mlook rfl _ _ 41 rfl 56 ke_str Tryd.underlying41 (hze _) k HK.out rfl hmt.out rfl ?_; rw [HS.out, HG.out]))
      first | go_ret | go_returns
      exact ⟨ret_val HE.out.symm, (Below.refl _ _).alloc (Nat.le_refl _) _⟩
    | false =>
      have HE : Hid (vlV (T.val k) = .tuple #[.string v, .int .i64 0]) := by show _ = _; unfold MT.val; rw [hT]; rfl
      clear h hk hT
      go_enter Tryd.func38, Tryd.ntmps38
      go_wp2_with (first | (at_lookup; refine wp_mlook rfl _ _ 41 rfl 56 ke_str Tryd.underlying41 (hze _) k HK.out rfl hmt.out rfl ?_; rw [HS.out, HG.out]))
      first | go_ret | go_returns
      exact ⟨ret_val HE.out.symm, (Below.refl _ _).alloc (Nat.le_refl _) _⟩
/-- the two blocks that a method lays: its request, its answer -/
def mdW (w : World) (d : Int) (k v : ByteArray) : World := (w.alloc (.cells #[.int .i64 d, .string k, .string v] 24)).alloc (.cells #[.int .i64 0, .string ⟨#[]⟩, .slice none 0 0] 32)
theorem mdW_B (w : World) (d : Int) (k v : ByteArray) : Below w.heap.size w (mdW w d k v) := ((Below.refl _ _).alloc (Nat.le_refl _) _).alloc (by rw [World.size_alloc]; omega) _
theorem mdW_Z (w : World) (d : Int) (k v : ByteArray) : RsB (w.heap.size + 1) 0 ⟨#[]⟩ none 0 0 (mdW w d k v) := by
  have := heap_alloc_new (w.alloc (.cells #[.int .i64 d, .string k, .string v] 24)) (.cells #[.int .i64 0, .string ⟨#[]⟩, .slice none 0 0] 32)
  rw [World.size_alloc] at this
  exact this
theorem mdW_R (w : World) (d : Int) (k v : ByteArray) : (mdW w d k v).heap[w.heap.size]? = some (.cells #[.int .i64 d, .string k, .string v] 24 (0, 0)) := ((Below.refl _ _).alloc (Nat.le_refl _) _ : Below (w.alloc (.cells #[.int .i64 d, .string k, .string v] 24)).heap.size _ (mdW w d k v)).block _ (by rw [World.size_alloc]; omega) |>.trans (heap_alloc_new _ _)
/-- what a method leaves that changes nothing -/
structure Did0 (c : Int) (v : ByteArray) (w : World) (e : Ending) (w' : World) : Prop where
  e : e = .returned (.agg (rsC c v none 0 0))
  b : Below w.heap.size w w'
set_option maxRecDepth 100000 in
set_option maxHeartbeats 8000000 in
theorem md_get {w : World} {x b n : Nat} {T : MT} (h : MdAt w x b n T) (d : Int) (k v : ByteArray) (hk : okS k) : Calls Tryd.prog 27 #[.pointer (some ⟨x, 0, none⟩), .agg #[.int .i64 d, .string k, .string v]] w (Did0 (if (T.val k).isSome then 0 else 9) ((T.val k).getD ByteArray.empty) w) := by
  have HB := hide (mdW_B w d k v)
  have HZ := hide (mdW_Z w d k v)
  have HV := hide (md_value (h.below HB.out) k hk)
  clear h hk
  cases hv : T.val k with
  | none =>
    rw [hv] at HV
    simp only [vlV] at HV
    clear hv
    go_enter Tryd.func27, Tryd.ntmps27
    go_wp2_with fail
    refine HV.out.mono ?_
    rintro e w1 ⟨rfl, hb⟩
    have HZ1 : Hid (RsB (w.heap.size + 1) 0 ⟨#[]⟩ none 0 0 w1) := (hb.block _ (lt_of_block HZ.out)).trans HZ.out
    have HB1 := hide (HB.out.trans (hb.mono HB.out.size))
    clear hb
    go_wp2_with (first | (refine wpList_store_row rfl 32 (.tmp 4) (.tmp 16) rfl (w.heap.size + 1) #[.int .i64 9, .string ByteArray.empty, .slice none 0 0] rfl rfl 32 _ HZ1.out rs_info rfl (rs_one _ _ _ _ _) ?_))
    refine bodyPost_ret (res_rs rfl _ _ (w.heap.size + 1) 9 ByteArray.empty none 0 0 rfl (rsB_row HZ1.out)) rfl ⟨rfl, below_setRow HB1.out (by omega) _⟩
  | some y =>
    rw [hv] at HV
    simp only [vlV] at HV
    clear hv
    go_enter Tryd.func27, Tryd.ntmps27
    go_wp2_with fail
    refine HV.out.mono ?_
    rintro e w1 ⟨rfl, hb⟩
    have HZ1 : Hid (RsB (w.heap.size + 1) 0 ⟨#[]⟩ none 0 0 w1) := (hb.block _ (lt_of_block HZ.out)).trans HZ.out
    have HB1 := hide (HB.out.trans (hb.mono HB.out.size))
    clear hb
    go_wp2_with (first | (refine wpList_store_row rfl 32 (.tmp 4) (.tmp 16) rfl (w.heap.size + 1) #[.int .i64 0, .string y, .slice none 0 0] rfl rfl 32 _ HZ1.out rs_info rfl (rs_one _ _ _ _ _) ?_))
    refine bodyPost_ret (res_rs rfl _ _ (w.heap.size + 1) 0 y none 0 0 rfl (rsB_row HZ1.out)) rfl ⟨rfl, below_setRow HB1.out (by omega) _⟩
end Go.Proofs.YtlpibpkbgmcclaaDoor
