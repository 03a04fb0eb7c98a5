/- What the laws of layer 12 need of prefixes, as lists. No walk stands here. -/
import Derived.Test.YtaiafbihcfbglaaRpBegins
import Derived.Test.YtaiafbihcfbglaaRpMissing
import Derived.Test.YtaiafbihcfbglaaRpMath
import Derived.Test.YtaiafbihcfbglaaRcRead
namespace Go.Proofs.Ytaiafbihcfbglaa
open Go.RowKit
set_option linter.unusedVariables false
theorem rdC_fit {s : ByteArray} (h : rdE s = 0) (hs : s.size ≤ 150000000000000) : (rdC s).fit := by
  obtain ⟨_, _, h0⟩ := rdE_read h
  have h2 : rdC s = tkR (rest2 (opT s)) := by
    by_cases h1 : wR (tkR (rest2 (opT s))) = s
    · exact (rdE_yes h0 h1).2
    · have := (rdE_no h0 h1).1; omega
  rw [h2]
  refine tkR_fit _ ?_
  unfold rest2
  rw [ByteArray.size_extract, (opE_zero h0).2.2, headS_size]
  omega
theorem pref_mem {ss : List ByteArray} {r : Rc} (h : r ∈ prefR ss) : ∃ (j : Nat) (s : ByteArray), ss[j]? = some s ∧ wR r = s ∧ ckR r = 0 ∧ rdE s = 0 ∧ rdC s = r ∧ r.seq = (j : Int) := by
  obtain ⟨j, hj⟩ := List.getElem?_of_mem h
  obtain ⟨s, q⟩ := pref_text hj
  exact ⟨j, s, q⟩
theorem pref_fit {ss : List ByteArray} (h : ∀ s ∈ ss, s.size ≤ 150000000000000) : ∀ r ∈ prefR ss, r.fit := by
  intro r hr
  obtain ⟨j, s, h1, _, _, h4, h5, _⟩ := pref_mem hr
  rw [← h5]
  exact rdC_fit h4 (h s (List.mem_of_getElem? h1))
theorem pref_le (ss : List ByteArray) : (prefR ss).length ≤ ss.length := pref_len ss 0
theorem pref_64 (ss : List ByteArray) : (prefR ss).length ≤ 64 := by
  cases hk : (prefR ss).length with
  | zero => omega
  | succ k =>
    obtain ⟨r, hr⟩ : ∃ r, (prefR ss)[k]? = some r := ⟨_, List.getElem?_eq_getElem (by omega)⟩
    obtain ⟨s, _, _, h3, _, _, h6⟩ := pref_text hr
    have := (ckR_zero.1 h3).1.1
    omega
/-- of lists of a row, what each record of it is -/
theorem fit_of {l : List RT} {P : List Rc} (h : l.map Prod.fst = P) (hP : ∀ r ∈ P, r.fit) : ∀ x ∈ l, x.1.fit := fun x hx => hP _ (by rw [← h]; exact List.mem_map.2 ⟨x, hx, rfl⟩)
theorem ls_of {l k : List RT} (h1 : ∀ x ∈ l, x.1.fit) (h2 : ∀ x ∈ k, x.1.fit) : ∀ x : RT, x ∈ l ∨ x ∈ k → x.1.ls.length ≤ 1000000 := fun x hx => by
  have : x.1.fit := hx.elim (h1 x) (h2 x)
  have := this.1
  omega
open Classical in
/-- the second list begins with the first -/
noncomputable def begR (p q : List Rc) : Bool := decide (p <+: q)
theorem begB_eq (l k : List RT) : begB l k = begR (l.map Prod.fst) (k.map Prod.fst) := by
  classical
  unfold begB begR samL
  rw [List.map_take]
  by_cases h : l.map Prod.fst <+: k.map Prod.fst
  · have h1 := h.length_le
    simp only [List.length_map] at h1
    have h2 := List.prefix_iff_eq_take.1 h
    rw [List.length_map] at h2
    rw [← h2]
    simp [h1, h]
  · simp only [h, decide_false]
    by_cases h1 : l.length ≤ k.length
    · have h2 : ¬ l.map Prod.fst = (k.map Prod.fst).take l.length := fun e => h (List.prefix_iff_eq_take.2 (by rw [List.length_map]; exact e))
      simp [h1, h2]
    · simp [h1]
theorem begR_refl (p : List Rc) : begR p p = true := by classical simp [begR]
theorem begR_nil (p : List Rc) : begR [] p = true := by classical simp [begR]
theorem begR_iff {p q : List Rc} : begR p q = true ↔ p <+: q := by classical simp [begR]
theorem begR_anti {p q : List Rc} (h1 : begR p q = true) (h2 : begR q p = true) : p.length = q.length := by
  have := (begR_iff.1 h1).length_le
  have := (begR_iff.1 h2).length_le
  omega
theorem begR_trans {p q r : List Rc} (h1 : begR p q = true) (h2 : begR q r = true) : begR p r = true := begR_iff.2 ((begR_iff.1 h1).trans (begR_iff.1 h2))
theorem begR_take (p : List Rc) (n : Nat) : begR (p.take n) p = true := begR_iff.2 (List.take_prefix n p)
theorem samL_of {l k : List RT} (h : l.map Prod.fst = k.map Prod.fst) : samL l k = true := by classical simp [samL, h]
/-- a log that is cut -/
theorem pref_cut : ∀ (ss : List ByteArray) (i n : Nat), prefF i (ss.take n) = (prefF i ss).take n
  | [], i, n => by simp [prefF]
  | s :: t, i, 0 => by simp [prefF]
  | s :: t, i, n + 1 => by
    simp only [List.take_succ_cons, prefF]
    split
    · rw [pref_cut t (i + 1) n, List.take_succ_cons]
    · rfl
/-- a log that is damaged at a place -/
theorem pref_set : ∀ (ss : List ByteArray) (i n : Nat) (j : ByteArray), n < ss.length → ¬ okF (i + n) j → prefF i (ss.set n j) = (prefF i ss).take n
  | [], i, n, j, h, _ => by simp at h
  | s :: t, i, 0, j, _, hn => by
    rw [Nat.add_zero] at hn
    simp [prefF, hn]
  | s :: t, i, n + 1, j, h, hn => by
    simp only [List.set_cons_succ, prefF]
    have ih := pref_set t (i + 1) n j (by simpa using h) (by rwa [show i + 1 + n = i + (n + 1) by omega])
    split
    · rw [ih, List.take_succ_cons]
    · rfl
theorem numI_pos {n : Int} (h0 : 0 ≤ n) (h1 : n ≤ 1099511627776) : 1 ≤ (numI n).size := by
  obtain ⟨k, e, l, hn⟩ := num_in h0 h1
  rw [hn, numS_size]
  exact nlen_pos k
theorem volB_pos {i g n : Int} {l : List (Int × Int)} (h : volR i g n l) : 1 ≤ (volB i g n l).size := by
  obtain ⟨⟨a0, a1⟩, _⟩ := h
  have := numI_pos a0 a1
  unfold volB
  rw [ByteArray.size_append]
  omega
/-- whatever may be written is longer than eight bytes -/
theorem wR_nine {r : Rc} (h : ckR r = 0) : 9 ≤ (wR r).size := by
  obtain ⟨⟨⟨a0, a1⟩, ⟨b0, b1⟩⟩, hk, _⟩ := ckR_zero.1 h
  have p1 := numI_pos a0 (by omega)
  have p2 := numI_pos b0 (by omega)
  have p3 : 1 ≤ (partB r).size := by
    unfold partB
    by_cases k0 : r.kind = 0
    · rw [if_pos k0, ByteArray.size_append]
      have := volB_pos ((ckK_0 k0).1 hk).1
      omega
    by_cases k1 : r.kind = 1
    · rw [if_neg k0, if_pos k1]
      unfold textS
      rw [ByteArray.size_append, numS_size]
      have := nlen_pos r.k.size
      omega
    by_cases k2 : r.kind = 2
    · rw [if_neg k0, if_neg k1, if_pos k2]
      exact volB_pos ((ckK_2 k2).1 hk)
    · rw [if_neg k0, if_neg k1, if_neg k2, ByteArray.size_append]
      have := volB_pos ((ckK_3 (r := r) (by omega)).1 hk).1
      omega
  rw [wR_ok h, sealS_size]
  show 9 ≤ (sSJ ++ (numI r.seq ++ (numI r.kind ++ partB r))).size + 4
  rw [ByteArray.size_append, ByteArray.size_append, ByteArray.size_append, sSJ_size]
  omega
theorem ok_short {n : Nat} {j : ByteArray} (h : j.size ≤ 8) : ¬ okF n j := fun q => by
  obtain ⟨e, c, _⟩ := rdE_read q.1
  have := wR_nine c
  rw [e] at this
  omega
/-- what is missing is told in order -/
theorem misL_mem {ss : List ByteArray} {l : List RT} {k : Nat} {x : Int} : x ∈ misL ss l k ↔ ∃ j, j < k ∧ misB ss l j = true ∧ x = (j : Int) := by
  unfold misL
  simp only [List.mem_map, List.mem_filter, List.mem_range]
  constructor
  · rintro ⟨j, ⟨h1, h2⟩, rfl⟩; exact ⟨j, h1, h2, rfl⟩
  · rintro ⟨j, h1, h2, rfl⟩; exact ⟨j, ⟨h1, h2⟩, rfl⟩
theorem misL_lt (ss : List ByteArray) (l : List RT) (k : Nat) : (misL ss l k).Pairwise (· < ·) := by
  unfold misL
  refine List.Pairwise.map _ (fun a b h => ?_) (List.Pairwise.filter _ List.pairwise_lt_range)
  simpa using h
theorem misL_at {ss : List ByteArray} {l : List RT} {k i : Nat} {x : Int} (h : (misL ss l k)[i]? = some x) : ∃ j, j < k ∧ x = (j : Int) ∧ ∀ y, 0 < i → (misL ss l k)[i - 1]? = some y → y < x := by
  obtain ⟨j, h1, _, h3⟩ := misL_mem.1 (List.mem_of_getElem? h)
  refine ⟨j, h1, h3, fun y hi hy => ?_⟩
  obtain ⟨q1, q2⟩ := List.getElem?_eq_some_iff.1 h
  obtain ⟨q3, q4⟩ := List.getElem?_eq_some_iff.1 hy
  have := List.pairwise_iff_getElem.1 (misL_lt ss l k) (i - 1) i q3 q1 (by omega)
  rw [q2, q4] at this
  exact this
theorem misL_none {ss : List ByteArray} {l : List RT} {k : Nat} (h : ∀ j, j < k → misB ss l j = false) : misL ss l k = [] := by
  unfold misL
  rw [List.map_eq_nil_iff, List.filter_eq_nil_iff]
  intro j hj
  rw [h j (List.mem_range.1 hj)]
  decide
/-- what was written for the records at these places -/
noncomputable def fixL (P : List Rc) (cs : List ByteArray) (ms : List Int) : List ByteArray := ms.foldl (fun cs x => cs.set x.toNat (wR (P.getD x.toNat Rc.zero))) cs
theorem fixL_snoc (P : List Rc) (cs : List ByteArray) (ms : List Int) (x : Int) : fixL P cs (ms ++ [x]) = (fixL P cs ms).set x.toNat (wR (P.getD x.toNat Rc.zero)) := by
  unfold fixL; rw [List.foldl_append]; rfl
theorem fixL_len (P : List Rc) : ∀ (ms : List Int) (cs : List ByteArray), (fixL P cs ms).length = cs.length
  | [], cs => rfl
  | x :: ms, cs => by
    have := fixL_len P ms (cs.set x.toNat (wR (P.getD x.toNat Rc.zero)))
    rw [List.length_set] at this
    exact this
theorem fixL_out (P : List Rc) (j : Nat) : ∀ (ms : List Int) (cs : List ByteArray), (∀ x ∈ ms, x.toNat ≠ j) → (fixL P cs ms)[j]? = cs[j]?
  | [], cs, _ => rfl
  | x :: ms, cs, h => by
    have := fixL_out P j ms (cs.set x.toNat (wR (P.getD x.toNat Rc.zero))) fun y hy => h y (List.mem_cons_of_mem _ hy)
    rw [List.getElem?_set_ne (h x (List.mem_cons_self ..))] at this
    exact this
theorem fixL_in (P : List Rc) (j : Nat) : ∀ (ms : List Int) (cs : List ByteArray), j < cs.length → (cs[j]? = some (wR (P.getD j Rc.zero)) ∨ ∃ x ∈ ms, x.toNat = j) → (fixL P cs ms)[j]? = some (wR (P.getD j Rc.zero))
  | [], cs, _, h => by
    rcases h with h | ⟨x, hx, _⟩
    · exact h
    · simp at hx
  | x :: ms, cs, hj, h => by
    refine fixL_in P j ms (cs.set x.toNat (wR (P.getD x.toNat Rc.zero))) (by rw [List.length_set]; exact hj) ?_
    by_cases e : x.toNat = j
    · left; rw [e, List.getElem?_set_self hj]
    · rw [List.getElem?_set_ne e]
      rcases h with h | ⟨y, hy, h⟩
      · exact .inl h
      · rcases List.mem_cons.1 hy with rfl | q
        · exact absurd h e
        · exact .inr ⟨y, q, h⟩
theorem fixL_mem (P : List Rc) : ∀ (ms : List Int) (cs : List ByteArray) (s : ByteArray), s ∈ fixL P cs ms → s ∈ cs ∨ ∃ x ∈ ms, s = wR (P.getD x.toNat Rc.zero)
  | [], cs, s, h => .inl h
  | x :: ms, cs, s, h => by
    rcases fixL_mem P ms (cs.set x.toNat (wR (P.getD x.toNat Rc.zero))) s h with q | ⟨y, hy, e⟩
    · rcases List.mem_or_eq_of_mem_set q with q | q
      · exact .inl q
      · exact .inr ⟨x, List.mem_cons_self .., q⟩
    · exact .inr ⟨y, List.mem_cons_of_mem _ hy, e⟩
/-- a copy that is as long as the records at least, with what was missing written -/
theorem fix_all {other cs : List ByteArray} {l : List RT} {P : List Rc} (hl : l.map Prod.fst = P) (hc : ∀ (j : Nat) (s : ByteArray), other[j]? = some s → cs[j]? = some s) (hlen : P.length ≤ cs.length) : ∀ (j : Nat) r, P[j]? = some r → (fixL P cs (misL other l l.length))[j]? = some (wR r) := by
  intro j r hr
  have hj : j < P.length := (List.getElem?_eq_some_iff.1 hr).1
  have hL : l.length = P.length := by rw [← hl, List.length_map]
  have hd : P.getD j Rc.zero = r := by rw [List.getD_eq_getElem?_getD, hr]; rfl
  obtain ⟨x, hx⟩ : ∃ x, l[j]? = some x := ⟨_, List.getElem?_eq_getElem (by omega)⟩
  have hxr : x.1 = r := by
    have : (l.map Prod.fst)[j]? = some x.1 := by rw [List.getElem?_map, hx]; rfl
    rw [hl, hr] at this
    cases this; rfl
  rw [← hd]
  refine fixL_in P j _ cs (by omega) ?_
  by_cases hm : misB other l j = true
  · exact .inr ⟨(j : Int), misL_mem.2 ⟨j, by omega, hm, rfl⟩, by omega⟩
  · left
    cases ho : other[j]? with
    | none => exact absurd (mis_out hx (List.getElem?_eq_none_iff.1 ho)) hm
    | some s =>
      have h1 : ¬ wR x.1 ≠ s := fun q => hm ((mis_at hx ho).2 q)
      have h2 : wR x.1 = s := Classical.not_not.1 h1
      rw [hc j s ho, hd, ← hxr, h2]
theorem fix_none {cs : List ByteArray} {l : List RT} {P : List Rc} (hl : l.map Prod.fst = P) (h : ∀ (j : Nat) r, P[j]? = some r → cs[j]? = some (wR r)) : misL cs l l.length = [] := by
  refine misL_none fun j hj => ?_
  obtain ⟨x, hx⟩ : ∃ x, l[j]? = some x := ⟨_, List.getElem?_eq_getElem hj⟩
  have hxr : P[j]? = some x.1 := by rw [← hl, List.getElem?_map, hx]; rfl
  have := h j x.1 hxr
  cases hm : misB cs l j with
  | false => rfl
  | true => exact absurd rfl ((mis_at hx this).1 hm)
theorem fix_beg {ss cs : List ByteArray} {P : List Rc} (hP : P = prefR ss) (h : ∀ (j : Nat) r, P[j]? = some r → cs[j]? = some (wR r)) : begR P (prefR cs) = true := by
  refine begR_iff.2 (pref_ge fun j r hr => ⟨h j r hr, ?_⟩)
  rw [hP] at hr
  obtain ⟨s, _, _, h3, _, _, h6⟩ := pref_text hr
  exact ⟨h3, h6⟩
theorem choR_s (logs : List (List ByteArray)) (k : Nat) : choR logs (k + 1) = if (choR logs k).2 < 0 ∨ (choR logs k).1.length < (prefR (logs.getD k [])).length then (prefR (logs.getD k []), (k : Int)) else choR logs k := rfl
/-- the longest of the first k logs -/
theorem cho_spec (logs : List (List ByteArray)) : ∀ k, (k = 0 ∧ choR logs k = ([], -1)) ∨ (0 < k ∧ ∃ a : Nat, a < k ∧ (choR logs k).2 = (a : Int) ∧ (choR logs k).1 = prefR (logs.getD a []) ∧ (∀ i, i < k → (prefR (logs.getD i [])).length ≤ (choR logs k).1.length) ∧ ∀ i, i < a → (prefR (logs.getD i [])).length < (choR logs k).1.length)
  | 0 => .inl ⟨rfl, rfl⟩
  | k + 1 => by
    right
    refine ⟨by omega, ?_⟩
    rcases cho_spec logs k with ⟨rfl, e⟩ | ⟨hk, a, h1, h2, h3, h4, h5⟩
    · have e1 : choR logs (0 + 1) = (prefR (logs.getD 0 []), ((0 : Nat) : Int)) := by
        rw [choR_s, e, if_pos (Or.inl (by decide))]
      rw [e1]
      refine ⟨0, by omega, rfl, rfl, fun i hi => ?_, fun i hi => by omega⟩
      obtain rfl : i = 0 := by omega
      exact Nat.le_refl _
    · by_cases hc : (choR logs k).1.length < (prefR (logs.getD k [])).length
      · have e1 : choR logs (k + 1) = (prefR (logs.getD k []), (k : Int)) := by
          rw [choR_s, if_pos (Or.inr hc)]
        rw [e1]
        refine ⟨k, by omega, rfl, rfl, fun i hi => ?_, fun i hi => ?_⟩
        · by_cases e : i = k
          · subst e; exact Nat.le_refl _
          · have := h4 i (by omega)
            show (prefR (logs.getD i [])).length ≤ (prefR (logs.getD k [])).length
            omega
        · have := h4 i (by omega)
          show (prefR (logs.getD i [])).length < (prefR (logs.getD k [])).length
          omega
      · have e1 : choR logs (k + 1) = choR logs k := by
          rw [choR_s, if_neg (by rw [h2]; omega)]
        rw [e1]
        refine ⟨a, by omega, h2, h3, fun i hi => ?_, h5⟩
        by_cases e : i = k
        · subst e; omega
        · exact h4 i (by omega)
end Go.Proofs.Ytaiafbihcfbglaa
