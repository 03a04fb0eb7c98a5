/- What the model's laws say of what is known: functions and texts alone. -/
import Derived.Test.YtlpibpkbgmcclaaGreatDoorMdDoX
import Derived.Test.YtlpibpkbgmcclaaGreatDoorMdState
import Derived.Test.YtlpibpkbgmcclaaGreatDoorMdCalm
namespace Go.Proofs.YtlpibpkbgmcclaaGreatDoor
open Go.RowKit
set_option linter.unusedVariables false
/-- what is known behind these requests -/
noncomputable def runM (T : MT) (L : List Rq) : MT := L.foldl MT.next T
theorem runM_nil (T : MT) : runM T [] = T := rfl
theorem runM_snoc (T : MT) (L : List Rq) (r : Rq) : runM T (L ++ [r]) = (runM T L).next r := by unfold runM; rw [List.foldl_append]; rfl
theorem runM_take (T : MT) (L : List Rq) {k : Nat} {r : Rq} (h : L[k]? = some r) : runM T (L.take (k + 1)) = (runM T (L.take k)).next r := by
  rw [List.take_add_one, h]; exact runM_snoc _ _ _
theorem runM_ok {T : MT} (hT : T.Ok) (L : List Rq) : (runM T L).Ok := by
  induction L generalizing T with
  | nil => exact hT
  | cons r L ih => exact ih (ok_next hT r)
/-- the request has changed something -/
def Chg (T : MT) (r : Rq) : Prop := T.code r = 0 ∧ (r.d = 0 ∨ r.d = 2)
theorem code_zero {T : MT} {r : Rq} (h : T.code r = 0) : rqE r = 0 := by
  unfold MT.code at h
  by_cases q : rqE r = 0
  · exact q
  · rw [if_pos q] at h; exact absurd h q
theorem next_same {T : MT} {r : Rq} (h : ¬ Chg T r) : T.next r = T := by
  by_cases he : rqE r = 0
  · rw [next_ok he]
    have hc := code_ok (T := T) he
    by_cases h0 : r.d = 0
    · rw [if_pos h0] at hc
      cases hk : T r.k with
      | none =>
        rw [hk] at hc
        exact absurd ⟨hc, .inl h0⟩ h
      | some y => rw [if_neg (fun q => by cases q.2), if_neg (fun q => by have := q.1; omega)]
    · rw [if_neg h0] at hc
      rw [if_neg (fun q => h0 q.1)]
      by_cases h2 : r.d = 2
      · rw [if_neg (by omega)] at hc
        cases hk : (T.val r.k).isSome with
        | true =>
          rw [hk] at hc
          exact absurd ⟨hc, .inr h2⟩ h
        | false => rw [if_neg (fun q => by cases q.2)]
      · rw [if_neg (fun q => h2 q.1)]
  · unfold MT.next; rw [if_neg he]
theorem chg_next {T : MT} {r : Rq} (h : Chg T r) : (r.d = 0 ∧ T r.k = none ∧ T.next r = T.set r.k ⟨r.v, false⟩) ∨ (r.d = 2 ∧ (∃ v, T r.k = some ⟨v, false⟩) ∧ T.next r = T.set r.k ⟨ByteArray.empty, true⟩) := by
  obtain ⟨h0, hd⟩ := h
  have he := code_zero h0
  rw [code_ok he] at h0
  rw [next_ok he]
  rcases hd with hd | hd
  · rw [if_pos hd] at h0
    cases hk : T r.k with
    | none => exact .inl ⟨hd, rfl, by rw [if_pos ⟨hd, rfl⟩]⟩
    | some y => rw [hk] at h0; cases h0
  · rw [if_neg (by omega), if_neg (by omega)] at h0
    cases hk : T.val r.k with
    | none => rw [hk] at h0; cases h0
    | some v => exact .inr ⟨hd, ⟨v, val_some hk⟩, by rw [if_neg (fun q => by have := q.1; omega), if_pos ⟨hd, rfl⟩]⟩
theorem app_cancel_l {a b c : ByteArray} (h : a ++ b = a ++ c) : b = c := by
  have h2 := congrArg (fun x : ByteArray => x.data.toList) h
  simp only [ByteArray.data_append, Array.toList_append, List.append_cancel_left_eq] at h2
  exact ByteArray.ext (Array.toList_inj.1 h2)
theorem app_cancel_r {a b c : ByteArray} (h : a ++ c = b ++ c) : a = b := by
  have h2 := congrArg (fun x : ByteArray => x.data.toList) h
  simp only [ByteArray.data_append, Array.toList_append, List.append_cancel_right_eq] at h2
  exact ByteArray.ext (Array.toList_inj.1 h2)
theorem sts_append (T : MT) (B : List ByteArray) : ∀ A : List ByteArray, sts T (A ++ B) = sts T A ++ sts T B
  | [] => by simp [sts]
  | a :: A => by show enS T a ++ sts T (A ++ B) = (enS T a ++ sts T A) ++ _; rw [sts_append T B A, ByteArray.append_assoc]
theorem mst_congr {T S : MT} : ∀ {A : List ByteArray}, (∀ k ∈ A, T k = S k) → sts T A = sts S A
  | [], _ => rfl
  | a :: A, h => by
    have h1 : enS T a = enS S a := by unfold enS; rw [h a (by simp)]
    show enS T a ++ sts T A = enS S a ++ sts S A
    rw [h1, mst_congr fun k hk => h k (List.mem_cons_of_mem _ hk)]
theorem rising_nodup {P : ByteArray → Prop} {A : List ByteArray} (h : Rising P A) : A.Nodup := h.1.imp fun {a b} hab e => by subst e; exact lt_irr _ hab
theorem en_ne {k u : ByteArray} : k ++ (⟨#[61]⟩ ++ hexS u ++ ⟨#[32]⟩) ≠ k ++ ⟨#[33, 32]⟩ := fun e => by
  have h := app_cancel_l e
  have h2 := congrArg (fun x : ByteArray => x.data.toList) h
  simp only [ByteArray.data_append, Array.toList_append] at h2
  have h3 := congrArg (fun l : List UInt8 => l.head?) h2
  simp at h3
theorem mem_r {T : MT} {A : List ByteArray} (h : Rising (fun k => (T k).isSome = true) A) (k : ByteArray) : k ∈ A ↔ (T k).isSome = true := h.2 k
def szs (T : MT) (A : List ByteArray) : Nat := (A.map fun k => (enS T k).size).sum
theorem sts_szs (T : MT) : ∀ A : List ByteArray, (sts T A).size = szs T A
  | [] => by simp [sts, szs]
  | a :: A => by show (enS T a ++ sts T A).size = _; rw [ByteArray.size_append, sts_szs T A]; simp [szs]
theorem next_diff {T : MT} {r : Rq} (hT : T.Ok) (h : Chg T r) {s t : ByteArray} (h1 : StIs T s) (h2 : StIs (T.next r) t) : s ≠ t := by
  obtain ⟨A, hA, rfl⟩ := h1
  obtain ⟨B, hB, rfl⟩ := h2
  have hok := ok_next hT r
  rcases chg_next h with ⟨hd, hn, he⟩ | ⟨hd, ⟨v, hv⟩, he⟩
  · rw [he] at hB ⊢
    intro e
    have e2 := congrArg ByteArray.size e
    rw [sts_szs, sts_szs] at e2
    have hnot : r.k ∉ A := fun q => by have := (mem_r hA _).1 q; rw [hn] at this; cases this
    have hp : B.Perm (r.k :: A) := (List.perm_ext_iff_of_nodup (rising_nodup hB) (List.nodup_cons.2 ⟨hnot, rising_nodup hA⟩)).2 fun k => by
      rw [mem_r hB, List.mem_cons, mem_r hA]
      by_cases q : k = r.k
      · subst q; rw [set_hit]; simp
      · rw [set_miss _ _ q]; simp [q]
    have hs : szs (T.set r.k ⟨r.v, false⟩) B = (enS (T.set r.k ⟨r.v, false⟩) r.k).size + szs (T.set r.k ⟨r.v, false⟩) A := by
      unfold szs
      rw [(hp.map _).sum_nat]
      simp
    have hc : szs (T.set r.k ⟨r.v, false⟩) A = szs T A := by
      rw [← sts_szs, ← sts_szs, mst_congr fun k hk => set_miss T _ (fun q => hnot (by rw [← q]; exact hk))]
    have hpos : 1 ≤ (enS (T.set r.k ⟨r.v, false⟩) r.k).size := by
      unfold enS
      rw [set_hit]
      simp only [Bool.false_eq_true, if_false, ByteArray.size_append]
      have e1 : (⟨#[61]⟩ : ByteArray).size = 1 := rfl
      omega
    omega
  · rw [he] at hB ⊢
    have hAB : A = B := rising_eq hA ⟨hB.1, fun k => by
      rw [mem_r hB]
      show _ ↔ (T k).isSome = true
      by_cases q : k = r.k
      · subst q; rw [set_hit, hv]; simp
      · rw [set_miss _ _ q]⟩
    subst hAB
    have hm : r.k ∈ A := (mem_r hA _).2 (by rw [hv]; rfl)
    obtain ⟨X, Y, rfl⟩ := List.append_of_mem hm
    have hnd := rising_nodup hA
    have hX : r.k ∉ X := fun q => by
      rw [List.nodup_append] at hnd
      exact hnd.2.2 _ q _ (by simp) rfl
    have hY : r.k ∉ Y := fun q => by
      have := (List.nodup_append.1 hnd).2.1
      exact (List.nodup_cons.1 this).1 q
    intro e
    rw [sts_append, sts_append] at e
    rw [mst_congr (T := T.set r.k ⟨ByteArray.empty, true⟩) (S := T) (A := X) fun k hk => set_miss T _ (fun q => hX (by rw [← q]; exact hk))] at e
    have e2 := app_cancel_l e
    have e3 : enS T r.k ++ sts T Y = enS (T.set r.k ⟨ByteArray.empty, true⟩) r.k ++ sts (T.set r.k ⟨ByteArray.empty, true⟩) Y := e2
    rw [mst_congr (T := T.set r.k ⟨ByteArray.empty, true⟩) (S := T) (A := Y) fun k hk => set_miss T _ (fun q => hY (by rw [← q]; exact hk))] at e3
    have e4 := app_cancel_r e3
    unfold enS at e4
    rw [hv, set_hit] at e4
    exact en_ne e4
/-! two requests of two keys -/
theorem next_other {T : MT} {r : Rq} {k : ByteArray} (h : k ≠ r.k) : T.next r k = T k := by
  by_cases c : Chg T r
  · rcases chg_next c with ⟨_, _, e⟩ | ⟨_, _, e⟩ <;> rw [e, set_miss _ _ h]
  · rw [next_same c]
theorem val_other {T S : MT} {k : ByteArray} (h : T k = S k) : T.val k = S.val k := by unfold MT.val; rw [h]
theorem code_other {T S : MT} {r : Rq} (h : T r.k = S r.k) : T.code r = S.code r := by unfold MT.code; rw [h, val_other h]
theorem ans_other {T S : MT} {r : Rq} (h : T r.k = S r.k) : T.ans r = S.ans r := by unfold MT.ans; rw [val_other h]
theorem next_at {T S : MT} {r : Rq} (h : T r.k = S r.k) : T.next r r.k = S.next r r.k := by
  have hv := val_other h
  unfold MT.next
  rw [h, hv]
  by_cases he : rqE r = 0
  · rw [if_pos he, if_pos he]
    by_cases h0 : r.d = 0 ∧ S r.k = none
    · rw [if_pos h0, if_pos h0, set_hit, set_hit]
    · rw [if_neg h0, if_neg h0]
      by_cases h2 : r.d = 2 ∧ (S.val r.k).isSome = true
      · rw [if_pos h2, if_pos h2, set_hit, set_hit]
      · rw [if_neg h2, if_neg h2]; exact h
  · rw [if_neg he, if_neg he]; exact h
theorem next_comm (T : MT) {r q : Rq} (h : r.k ≠ q.k) : (T.next r).next q = (T.next q).next r := by
  funext k
  by_cases h1 : k = q.k
  · subst h1
    rw [next_other (r := r) (T := T.next q) (fun e => h e.symm)]
    exact next_at (next_other (fun e => h e.symm))
  · rw [next_other h1]
    by_cases h2 : k = r.k
    · subst h2
      exact (next_at (next_other h)).symm
    · rw [next_other h2, next_other h2, next_other h1]
/-! one key of a script -/
def Once (T : MT) (k : ByteArray) (p q : Nat) (v : ByteArray) : Prop := (T k = none ∧ p = 0 ∧ q = 0) ∨ (T k = some ⟨v, false⟩ ∧ p = 1 ∧ q = 0) ∨ (∃ u, T k = some ⟨u, true⟩ ∧ p = 1 ∧ q = 1)
theorem once_skip {T : MT} {k v : ByteArray} {p q : Nat} (h : Once T k p q v) {r : Rq} (hr : r.k ≠ k ∨ T.code r ≠ 0 ∨ (r.d ≠ 0 ∧ r.d ≠ 2)) : Once (T.next r) k p q v := by
  have e : T.next r k = T k := by
    rcases hr with hr | hr | hr
    · exact next_other (fun e => hr e.symm)
    · rw [next_same (fun c => hr c.1)]
    · rw [next_same (fun c => by have := c.2; omega)]
  unfold Once
  rw [e]
  exact h
theorem once_put {T : MT} {k v : ByteArray} {p q : Nat} (h : Once T k p q v) {r : Rq} (hk : r.k = k) (hc : T.code r = 0) (hd : r.d = 0) : Once (T.next r) k (p + 1) q r.v ∧ p = 0 := by
  subst hk
  rcases chg_next ⟨hc, .inl hd⟩ with ⟨_, hn, e⟩ | ⟨h2, _⟩
  · unfold Once at h ⊢
    rw [hn] at h
    rcases h with ⟨_, rfl, rfl⟩ | ⟨h1, _⟩ | ⟨u, h1, _⟩
    · rw [e, set_hit]
      exact ⟨.inr (.inl ⟨rfl, rfl, rfl⟩), rfl⟩
    · cases h1
    · cases h1
  · omega
theorem once_del {T : MT} {k v : ByteArray} {p q : Nat} (h : Once T k p q v) {r : Rq} (hk : r.k = k) (hc : T.code r = 0) (hd : r.d = 2) : Once (T.next r) k p (q + 1) v ∧ q = 0 ∧ p = 1 := by
  subst hk
  rcases chg_next ⟨hc, .inr hd⟩ with ⟨h2, _⟩ | ⟨_, ⟨u, hn⟩, e⟩
  · omega
  · unfold Once at h ⊢
    rw [hn] at h
    rcases h with ⟨h1, _⟩ | ⟨_, rfl, rfl⟩ | ⟨u2, h1, _⟩
    · cases h1
    · rw [e, set_hit]
      exact ⟨.inr (.inr ⟨_, rfl, rfl, rfl⟩), rfl, rfl⟩
    · cases h1
theorem once_get {T : MT} {k v : ByteArray} {p q : Nat} (h : Once T k p q v) {r : Rq} (hk : r.k = k) (hc : T.code r = 0) (hd : r.d = 1) : p = 1 ∧ q = 0 ∧ T.ans r = v := by
  subst hk
  have he := code_zero hc
  rw [code_ok he, if_neg (by omega), if_neg (by omega)] at hc
  cases hv : T.val r.k with
  | none => rw [hv] at hc; cases hc
  | some u =>
    have hn := val_some hv
    unfold Once at h
    rw [hn] at h
    rcases h with ⟨h1, _⟩ | ⟨h1, rfl, rfl⟩ | ⟨u2, h1, _⟩
    · cases h1
    · refine ⟨rfl, rfl, ?_⟩
      rw [ans_ok he, hv]
      simp only [if_pos hd]
      injection h1 with h1
      injection h1
    · cases h1
theorem once_end {T : MT} {k v : ByteArray} {p q : Nat} (h : Once T k p q v) : p ≤ 1 ∧ q ≤ p := by
  rcases h with ⟨_, rfl, rfl⟩ | ⟨_, rfl, rfl⟩ | ⟨_, _, rfl, rfl⟩ <;> omega
theorem rqE_vals (r : Rq) : rqE r = 0 ∨ rqE r = 1 ∨ rqE r = 11 ∨ rqE r = 12 := by
  unfold rqE
  split
  · omega
  · split
    · omega
    · unfold ckE; split
      · split <;> omega
      · omega
theorem code_loud (T : MT) (r : Rq) : silB (T.code r) = false := by
  unfold MT.code
  rcases rqE_vals r with h | h | h | h <;> rw [h]
  · rw [if_neg (by decide)]
    repeat' split
    all_goals decide
  all_goals (rw [if_pos (by decide)]; decide)
theorem strs_bm {w w' : World} {a : Option Addr} {L : List ByteArray} {b : Nat} (h : StrsAt w a L) (hb : Bm b w w') (hn : ∀ p, a = some p → p.block ≠ b) : StrsAt w' a L := by
  rcases h with h | ⟨g, o, h1, h2, h3⟩
  · exact .inl h
  · refine .inr ⟨g, o, h1, Nat.lt_of_lt_of_le h2 hb.size, fun i s hs => ?_⟩
    rw [← h3 i s hs]
    unfold World.cell?
    rw [hb.blk g h2 (hn _ h1)]
theorem rs_fd (c : Int) (v : ByteArray) (a : Option Addr) (n p : Nat) (W : World) : (Instr.field 37 (.agg #[.int .i64 c, .string v, .slice a n p]) 0).run Tryz.prog W = .ok (.int .i64 c) W := by kernel_rfl
theorem sm_size {r : Rq} (h : smB r = true) : r.k.size ≤ 100000 ∧ r.v.size ≤ 100000 := by
  unfold smB at h
  simp at h
  omega
end Go.Proofs.YtlpibpkbgmcclaaGreatDoor
