/- What Do of a model answers and leaves. -/
import Derived.Test.YtlpibpkbgmcclaaDoorMdPut
import Derived.Test.YtlpibpkbgmcclaaDoorMdStat
import Derived.Test.YtlpibpkbgmcclaaDoorMdList
import Derived.Test.YtlpibpkbgmcclaaDoorMdDeeds
import Derived.Test.YtlpibpkbgmcclaaDoorRqCheck
namespace Go.Proofs.YtlpibpkbgmcclaaDoor
open Go.RowKit
set_option linter.unusedVariables false
/-- what Do leaves: code c, value v, keys of a kind, what is known -/
structure DoP (T : MT) (r : Rq) (x b n : Nat) (w : World) (e : Ending) (w' : World) : Prop where
  ex : ∃ a c L, e = .returned (.agg (rsC (T.code r) (T.ans r) a L.length c)) ∧ L.length ≤ c ∧ L.length ≤ 16 ∧ StrsAt w' a L ∧ KsIs T r L ∧ (a = none → c = 0) ∧ ∀ p, a = some p → w.heap.size ≤ p.block
  m : MdAt w' x b (n + 1) (T.next r)
  b : Bm b w w'
theorem rqE_d {r : Rq} (h : rqE r = 0) : 0 ≤ r.d ∧ r.d ≤ 4 := by
  unfold rqE at h
  by_cases q : r.d < 0 ∨ 4 < r.d ∨ (r.v.size ≠ 0 ∧ r.d ≠ 0)
  · rw [if_pos q] at h; cases h
  · omega
theorem ks_nil {T : MT} {r : Rq} (h : r.d ≠ 4) : KsIs T r [] := by unfold KsIs; rw [if_neg (fun q => h q.2)]
theorem code_ok {T : MT} {r : Rq} (h : rqE r = 0) : T.code r = if r.d = 0 then (if (T r.k).isSome then 13 else 0) else if r.d = 4 then 0 else if (T.val r.k).isSome then 0 else 9 := by unfold MT.code; rw [if_neg (by simpa using h)]
theorem ans_ok {T : MT} {r : Rq} (h : rqE r = 0) : T.ans r = (match T.val r.k with | some v => if r.d = 1 then v else if r.d = 3 then stV2 v else ByteArray.empty | none => ByteArray.empty) := by unfold MT.ans; rw [if_pos h]; cases T.val r.k <;> rfl
theorem next_ok {T : MT} {r : Rq} (h : rqE r = 0) : T.next r = (if r.d = 0 ∧ T r.k = none then T.set r.k ⟨r.v, false⟩ else if r.d = 2 ∧ (T.val r.k).isSome = true then T.set r.k ⟨ByteArray.empty, true⟩ else T) := by unfold MT.next; rw [if_pos h]
theorem ans_mt {T : MT} {r : Rq} (h : rqE r = 0) (h1 : r.d ≠ 1) (h3 : r.d ≠ 3) : T.ans r = ByteArray.empty := by
  rw [ans_ok h]
  cases T.val r.k with
  | none => rfl
  | some v => simp only [if_neg h1, if_neg h3]
/-- each deed, once the request is a good one -/
theorem md_one (T : MT) (r : Rq) (x b n : Nat) (hn : n ≤ 1000000) (h0 : rqE r = 0) (hks : okS r.k) : ∃ F, dsF x r.d = some (fnV F x) ∧ (∀ xs W, (callFunc F xs).run Tryd.prog W = .ok (.enter F xs) W) ∧ ∀ W, MdAt W x b n T → KM W → Calls Tryd.prog F #[.pointer (some ⟨x, 0, none⟩), .agg (rqs r)] W (DoP T r x b n W) := by
  obtain ⟨d, k, v⟩ := r
  have hd := rqE_d h0
  have hc := code_ok (T := T) h0
  have hx := next_ok (T := T) h0
  have ha := ans_ok (T := T) h0
  have hm := fun a b => ans_mt (T := T) h0 a b
  simp only at hd hc hx ha hm hks
  have hl : ∀ m, ([] : List ByteArray).length ≤ m := fun m => Nat.zero_le _
  rcases (show d = 0 ∨ d = 1 ∨ d = 2 ∨ d = 3 ∨ d = 4 by omega) with rfl | rfl | rfl | rfl | rfl
  · have hk := rqE_key h0 (by show (0 : Int) ≠ 4; decide)
    refine ⟨26, rfl, fun _ _ => by kernel_rfl, fun W hM hK => (md_put hM hn 0 k v hk.1 hk.2).mono fun e w' h => ⟨⟨none, 0, [], ?_, Nat.le_refl _, hl _, .inl rfl, ks_nil (by show (0 : Int) ≠ 4; decide), fun _ => rfl, fun p e => by cases e⟩, ?_, h.b⟩⟩
    · rw [h.e, hc, hm (by decide) (by decide)]; rfl
    · rw [hx]
      have := h.m
      by_cases q : T k = none
      · rw [if_pos q] at this; rw [if_pos ⟨rfl, q⟩]; exact this
      · rw [if_neg q] at this; rw [if_neg (fun z => q z.2), if_neg (fun z => by cases z.1)]; exact this
  · refine ⟨27, rfl, fun _ _ => by kernel_rfl, fun W hM hK => (md_get hM 1 k v hks).mono fun e w' h => ⟨⟨none, 0, [], ?_, Nat.le_refl _, hl _, .inl rfl, ks_nil (by show (1 : Int) ≠ 4; decide), fun _ => rfl, fun p e => by cases e⟩, ?_, Bm.of_below h.b⟩⟩
    · rw [h.e, hc, ha]
      cases T.val k <;> rfl
    · rw [hx, if_neg (fun z => by cases z.1), if_neg (fun z => by cases z.1)]
      exact (hM.below h.b).mono (by omega)
  · have hk := rqE_key h0 (by show (2 : Int) ≠ 4; decide)
    refine ⟨28, rfl, fun _ _ => by kernel_rfl, fun W hM hK => (md_remove hM hn 2 k v hk.1).mono fun e w' h => ⟨⟨none, 0, [], ?_, Nat.le_refl _, hl _, .inl rfl, ks_nil (by show (2 : Int) ≠ 4; decide), fun _ => rfl, fun p e => by cases e⟩, ?_, h.b⟩⟩
    · rw [h.e, hc, hm (by decide) (by decide)]; rfl
    · rw [hx, if_neg (fun z => by cases z.1)]
      have := h.m
      by_cases q : (T.val k).isSome = true
      · rw [if_pos q] at this; rw [if_pos ⟨rfl, q⟩]; exact this
      · rw [if_neg q] at this; rw [if_neg (fun z => q z.2)]; exact this
  · refine ⟨29, rfl, fun _ _ => by kernel_rfl, fun W hM hK => (md_stat hM hK 3 k v hks).mono fun e w' h => ⟨⟨none, 0, [], ?_, Nat.le_refl _, hl _, .inl rfl, ks_nil (by show (3 : Int) ≠ 4; decide), fun _ => rfl, fun p e => by cases e⟩, ?_, Bm.of_below h.b⟩⟩
    · rw [h.e, hc, ha]
      cases T.val k <;> rfl
    · rw [hx, if_neg (fun z => by cases z.1), if_neg (fun z => by cases z.1)]
      exact (hM.below h.b).mono (by omega)
  · refine ⟨30, rfl, fun _ _ => by kernel_rfl, fun W hM hK => (md_list hM hn 4 k v).mono fun e w' h => ?_⟩
    obtain ⟨a, c, L, h1, h2, h3, h4, h5, h6⟩ := h.ex
    refine ⟨⟨a, c, L, ?_, h2, h3, h4, ?_, h6⟩, ?_, Bm.of_below h.b⟩
    · rw [h1, hc, hm (by decide) (by decide)]; rfl
    · unfold KsIs; rw [if_pos ⟨h0, rfl⟩]; exact h5
    · rw [hx, if_neg (fun z => by cases z.1), if_neg (fun z => by cases z.1)]
      exact (hM.below h.b).mono (by omega)
end Go.Proofs.YtlpibpkbgmcclaaDoor
