/- Requests as numbers and texts: what may be asked, its line, the words of a line, what a line asks. Lists and texts alone: nothing here walks. Numbers in digits. -/
import Derived.Test.YtlpibpkbgmcclaaGreatDoorRcKey
import Derived.Test.YtlpibpkbgmcclaaGreatDoorShHexX
import Derived.Test.YtlpibpkbgmcclaaGreatDoorBaseX
import Derived.Lib.ItoaNum
namespace Go.Proofs.YtlpibpkbgmcclaaGreatDoor
open Go.RowKit
set_option linter.unusedVariables false
/-- a request: its kind, key, value -/
structure Rq where
  d : Int
  k : ByteArray
  v : ByteArray
theorem Rq.ext' {a b : Rq} (h0 : a.d = b.d) (h1 : a.k = b.k) (h2 : a.v = b.v) : a = b := by
  cases a; cases b; simp at h0 h1 h2; simp [h0, h1, h2]
def Rq.zero : Rq := ⟨0, ByteArray.empty, ByteArray.empty⟩
def rqs (r : Rq) : Array Value := #[.int .i64 r.d, .string r.k, .string r.v]
/-- the error of a request -/
noncomputable def rqE (r : Rq) : Int := if r.d < 0 ∨ 4 < r.d ∨ (r.v.size ≠ 0 ∧ r.d ≠ 0) then 1 else if r.d = 4 ∧ r.k.size = 0 then 0 else ckE ⟨r.k, r.v⟩
def dash : ByteArray := ⟨#[45]⟩
def blank : ByteArray := ⟨#[32]⟩
def hexS (s : ByteArray) : ByteArray := mkS (2 * s.size) (hx (bt s))
def dgS (s : ByteArray) : ByteArray := if s.size = 0 then dash else hexS s
def putS : ByteArray := ⟨#[112, 117, 116]⟩
def getS : ByteArray := ⟨#[103, 101, 116]⟩
def delS : ByteArray := ⟨#[100, 101, 108]⟩
def statS : ByteArray := ⟨#[115, 116, 97, 116]⟩
def listS : ByteArray := ⟨#[108, 105, 115, 116]⟩
def wordS (d : Int) : ByteArray := if d = 0 then putS else if d = 1 then getS else if d = 2 then delS else if d = 3 then statS else listS
/-- a request as a line -/
def lineS (r : Rq) : ByteArray := if r.d = 0 then putS ++ blank ++ r.k ++ blank ++ dgS r.v else if r.k.size = 0 then wordS r.d else wordS r.d ++ blank ++ r.k
noncomputable def prS (r : Rq) : ByteArray := if rqE r = 0 then lineS r else ByteArray.empty
/-- the words of a line: n bytes are left from i on, the word under way began at a -/
def wdF (s : ByteArray) : Nat → Nat → Nat → List ByteArray
  | 0, a, i => [s.extract a i]
  | n + 1, a, i => if bt s i = 32 then s.extract a i :: wdF s n (i + 1) (i + 1) else wdF s n a (i + 1)
def wds (s : ByteArray) : List ByteArray := wdF s s.size 0 0
def jn : List ByteArray → ByteArray
  | [] => ByteArray.empty
  | [w] => w
  | w :: x :: r => w ++ blank ++ jn (x :: r)
theorem jn_cons (w : ByteArray) {l : List ByteArray} (h : l ≠ []) : jn (w :: l) = w ++ blank ++ jn l := by
  cases l with
  | nil => exact absurd rfl h
  | cons x r => rfl
theorem wdF_ne (s : ByteArray) : ∀ n a i, wdF s n a i ≠ []
  | 0, a, i => by simp [wdF]
  | n + 1, a, i => by
    unfold wdF
    split
    · simp
    · exact wdF_ne s n a (i + 1)
theorem wds_ne (s : ByteArray) : wds s ≠ [] := wdF_ne _ _ _ _
theorem blank_size : blank.size = 1 := rfl
theorem blank_bt : bt blank 0 = 32 := rfl
theorem ext_blank (s : ByteArray) {a i : Nat} (ha : a ≤ i) (hi : i < s.size) (h : bt s i = 32) : s.extract a i ++ blank ++ s.extract (i + 1) s.size = s.extract a s.size := by
  apply ext_bt
  · simp only [ByteArray.size_append, ByteArray.size_extract, blank_size]; omega
  · intro p hp
    simp only [ByteArray.size_append, ByteArray.size_extract, blank_size] at hp
    rw [app_bt, app_bt]
    simp only [ByteArray.size_append, ByteArray.size_extract, blank_size]
    rw [bt_extract s a s.size p (by omega) (Nat.le_refl _)]
    by_cases h1 : p < i - a
    · rw [if_pos (by omega), if_pos (by omega), bt_extract s a i p (by omega) (by omega)]
    · by_cases h2 : p = i - a
      · subst h2
        rw [if_pos (by omega), if_neg (by omega), show i - a - (min i s.size - a) = 0 by omega, blank_bt, show a + (i - a) = i by omega, h]
      · rw [if_neg (by omega), bt_extract s (i + 1) s.size _ (by omega) (Nat.le_refl _)]
        congr 1
        omega
theorem wdF_join (s : ByteArray) : ∀ n a i, a ≤ i → i + n = s.size → jn (wdF s n a i) = s.extract a s.size
  | 0, a, i, ha, hi => by
    rw [show i = s.size by omega]
    rfl
  | n + 1, a, i, ha, hi => by
    unfold wdF
    by_cases h : bt s i = 32
    · rw [if_pos h, jn_cons _ (wdF_ne _ _ _ _), wdF_join s n (i + 1) (i + 1) (Nat.le_refl _) (by omega)]
      exact ext_blank s ha (by omega) h
    · rw [if_neg h]
      exact wdF_join s n a (i + 1) (by omega) (by omega)
theorem wds_join (s : ByteArray) : jn (wds s) = s := by
  unfold wds
  rw [wdF_join s _ _ _ (Nat.le_refl _) (by omega)]
  exact ext_all s
/-- a text without a blank -/
def noB (s : ByteArray) : Prop := ∀ p, p < s.size → bt s p ≠ 32
theorem wdF_skip (s : ByteArray) {a : Nat} : ∀ m n i, (∀ p, i ≤ p → p < i + m → bt s p ≠ 32) → wdF s (n + m) a i = wdF s n a (i + m)
  | 0, n, i, h => rfl
  | m + 1, n, i, h => by
    rw [show n + (m + 1) = (n + m) + 1 by omega]
    conv => lhs; unfold wdF
    rw [if_neg (h i (Nat.le_refl _) (by omega)), wdF_skip s m n (i + 1) (fun p h1 h2 => h p (by omega) (by omega)), show i + 1 + m = i + (m + 1) by omega]
theorem ext_app (u t : ByteArray) {a i : Nat} (ha : a ≤ i) (hi : i ≤ t.size) : (u ++ t).extract (u.size + a) (u.size + i) = t.extract a i := by
  apply ext_bt
  · simp only [ByteArray.size_append, ByteArray.size_extract]; omega
  · intro p hp
    simp only [ByteArray.size_append, ByteArray.size_extract] at hp
    rw [bt_extract _ _ _ p (by omega) (by rw [ByteArray.size_append]; omega), bt_extract _ _ _ p (by omega) (by omega), app_bt, if_neg (by omega)]
    congr 1
    omega
theorem wdF_shift (u t : ByteArray) : ∀ n a i, a ≤ i → i + n = t.size → wdF (u ++ t) n (u.size + a) (u.size + i) = wdF t n a i
  | 0, a, i, ha, hi => by
    unfold wdF
    rw [ext_app u t ha (by omega)]
  | n + 1, a, i, ha, hi => by
    unfold wdF
    have e : bt (u ++ t) (u.size + i) = bt t i := by
      rw [app_bt, if_neg (by omega)]
      congr 1
      omega
    rw [e, ext_app u t ha (by omega), show u.size + i + 1 = u.size + (i + 1) by omega, wdF_shift u t n (i + 1) (i + 1) (Nat.le_refl _) (by omega), wdF_shift u t n a (i + 1) (by omega) (by omega)]
theorem wds_one {s : ByteArray} (h : noB s) : wds s = [s] := by
  unfold wds
  have := wdF_skip s (a := 0) s.size 0 0 (fun p _ h2 => h p (by omega))
  rw [Nat.zero_add] at this
  rw [this]
  show [s.extract 0 s.size] = [s]
  rw [ext_all]
theorem wds_cons {a : ByteArray} (t : ByteArray) (h : noB a) : wds (a ++ blank ++ t) = a :: wds t := by
  unfold wds
  have hz : (a ++ blank ++ t).size = (t.size + 1) + a.size := by simp only [ByteArray.size_append, blank_size]; omega
  have h0 : ∀ p, p < a.size → bt (a ++ blank ++ t) p = bt a p := fun p hp => by rw [app_bt, if_pos (by simp only [ByteArray.size_append]; omega), app_bt, if_pos hp]
  have h1 : bt (a ++ blank ++ t) a.size = 32 := by rw [app_bt, if_pos (by simp only [ByteArray.size_append, blank_size]; omega), app_bt, if_neg (by omega), Nat.sub_self]; rfl
  have hs := wdF_skip (a ++ blank ++ t) (a := 0) a.size (t.size + 1) 0 (fun p _ h2 => by rw [h0 p (by omega)]; exact h p (by omega))
  rw [hz, hs, Nat.zero_add]
  conv => lhs; unfold wdF
  rw [if_pos h1]
  have e1 : (a ++ blank ++ t).extract 0 a.size = a := by rw [app_assoc]; exact ext_head a _
  have e2 := wdF_shift (a ++ blank) t t.size 0 0 (Nat.le_refl _) (by omega)
  have e3 : (a ++ blank).size = a.size + 1 := by rw [ByteArray.size_append]; rfl
  rw [e3, Nat.add_zero] at e2
  rw [e1, e2]
/-- digits of sixteen -/
def isD (c : Nat) : Prop := (48 ≤ c ∧ c ≤ 57) ∨ (97 ≤ c ∧ c ≤ 102)
def dv (c : Nat) : Nat := if c ≤ 57 then c - 48 else c - 87
theorem dgt_isD {n : Nat} (h : n < 16) : isD (dgt n) := by unfold isD dgt; split <;> omega
theorem dv_dgt {n : Nat} (h : n < 16) : dv (dgt n) = n := by unfold dv dgt; split <;> split <;> omega
theorem dv_lt {c : Nat} (h : isD c) : dv c < 16 := by unfold isD at h; unfold dv; split <;> omega
theorem dgt_dv {c : Nat} (h : isD c) : dgt (dv c) = c := by unfold isD at h; unfold dgt dv; split <;> split <;> omega
theorem isD_ne {c : Nat} (h : isD c) : c ≠ 32 := by unfold isD at h; omega
/-- byte p of the text that digits tell -/
def ub (f : Nat → Nat) (p : Nat) : Nat := 16 * dv (f (2 * p)) + dv (f (2 * p + 1))
def allD (s : ByteArray) : Prop := ∀ p, p < s.size → isD (bt s p)
open Classical in
/-- the text that a word of digits tells -/
noncomputable def undg (s : ByteArray) : Option ByteArray := if s = dash then some ByteArray.empty else if s.size = 0 ∨ s.size % 2 = 1 then none else if allD s then some (mkS (s.size / 2) (ub (bt s))) else none
theorem dash_size : dash.size = 1 := rfl
theorem hexS_size (s : ByteArray) : (hexS s).size = 2 * s.size := mkS_size _ _
theorem hexS_bt (s : ByteArray) {p : Nat} (h : p < 2 * s.size) : bt (hexS s) p = hx (bt s) p := mkS_bt h (hx_lt (bt_lt s) p)
theorem hexS_all (s : ByteArray) : allD (hexS s) := fun p hp => by
  rw [hexS_size] at hp
  rw [hexS_bt s hp]
  have hb := bt_lt s (p / 2)
  unfold hx
  split
  · exact dgt_isD (by omega)
  · exact dgt_isD (by omega)
theorem hex_ub (s : ByteArray) : mkS ((hexS s).size / 2) (ub (bt (hexS s))) = s := by
  have hz : (hexS s).size / 2 = s.size := by rw [hexS_size]; omega
  rw [hz]
  conv => rhs; rw [← mkS_self s]
  refine mkS_congr fun p hp => ?_
  have hb := bt_lt s p
  unfold ub
  rw [hexS_bt s (by omega), hexS_bt s (by omega)]
  unfold hx
  rw [if_pos (by omega), if_neg (by omega), show 2 * p / 2 = p by omega, show (2 * p + 1) / 2 = p by omega, dv_dgt (by omega), dv_dgt (by omega)]
  omega
theorem undg_dgS (s : ByteArray) : undg (dgS s) = some s := by
  unfold dgS
  by_cases h : s.size = 0
  · rw [if_pos h]
    unfold undg
    rw [if_pos rfl, size_zero h]
  · rw [if_neg h]
    unfold undg
    have h1 : hexS s ≠ dash := fun e => by have := congrArg ByteArray.size e; rw [hexS_size, dash_size] at this; omega
    have h2 := hexS_size s
    rw [if_neg h1, if_neg (by omega), if_pos (hexS_all s), hex_ub]
theorem ub_lt {s : ByteArray} (h : allD s) (he : s.size % 2 = 0) {p : Nat} (hp : p < s.size / 2) : ub (bt s) p < 256 := by
  unfold ub
  have h1 := dv_lt (h (2 * p) (by omega))
  have h2 := dv_lt (h (2 * p + 1) (by omega))
  omega
theorem dgS_undg {s v : ByteArray} (h : undg s = some v) : dgS v = s := by
  unfold undg at h
  by_cases h1 : s = dash
  · rw [if_pos h1] at h
    obtain rfl := Option.some.inj h
    rw [h1]
    rfl
  · rw [if_neg h1] at h
    by_cases h2 : s.size = 0 ∨ s.size % 2 = 1
    · rw [if_pos h2] at h; cases h
    · rw [if_neg h2] at h
      by_cases h3 : allD s
      · rw [if_pos h3] at h
        obtain rfl := Option.some.inj h
        unfold dgS
        rw [if_neg (by rw [mkS_size]; omega)]
        apply ext_bt
        · rw [hexS_size, mkS_size]; omega
        · intro p hp
          rw [hexS_size, mkS_size] at hp
          rw [hexS_bt _ (by rw [mkS_size]; omega)]
          have hu := ub_lt h3 (by omega) (p := p / 2) (by omega)
          have d1 := h3 (2 * (p / 2)) (by omega)
          have d2 := h3 (2 * (p / 2) + 1) (by omega)
          have l1 := dv_lt d1
          have l2 := dv_lt d2
          unfold hx
          rw [mkS_bt (by omega) hu]
          unfold ub
          split
          · rw [show (16 * dv (bt s (2 * (p / 2))) + dv (bt s (2 * (p / 2) + 1))) / 16 = dv (bt s (2 * (p / 2))) by omega, dgt_dv d1]
            congr 1
            omega
          · rw [show (16 * dv (bt s (2 * (p / 2))) + dv (bt s (2 * (p / 2) + 1))) % 16 = dv (bt s (2 * (p / 2) + 1)) by omega, dgt_dv d2]
            congr 1
            omega
      · rw [if_neg h3] at h; cases h
open Classical in
/-- what a line's words ask -/
noncomputable def askW : List ByteArray → Option Rq
  | [h] => if h = listS then some ⟨4, ByteArray.empty, ByteArray.empty⟩ else none
  | [h, a] => if h = getS then some ⟨1, a, ByteArray.empty⟩ else if h = delS then some ⟨2, a, ByteArray.empty⟩ else if h = statS then some ⟨3, a, ByteArray.empty⟩ else if h = listS then (if a.size = 0 then none else some ⟨4, a, ByteArray.empty⟩) else none
  | [h, a, b] => if h = putS then (undg b).map fun v => ⟨0, a, v⟩ else none
  | _ => none
theorem askW_1 (h : ByteArray) : askW [h] = if h = listS then some ⟨4, ByteArray.empty, ByteArray.empty⟩ else none := rfl
theorem askW_2 (h a : ByteArray) : askW [h, a] = if h = getS then some ⟨1, a, ByteArray.empty⟩ else if h = delS then some ⟨2, a, ByteArray.empty⟩ else if h = statS then some ⟨3, a, ByteArray.empty⟩ else if h = listS then (if a.size = 0 then none else some ⟨4, a, ByteArray.empty⟩) else none := rfl
theorem askW_3 (h a b : ByteArray) : askW [h, a, b] = if h = putS then (undg b).map fun v => ⟨0, a, v⟩ else none := rfl
noncomputable def paE (s : ByteArray) : Int := match askW (wds s) with | some r => rqE r | none => 14
noncomputable def paR (s : ByteArray) : Rq := match askW (wds s) with | some r => if rqE r = 0 then r else Rq.zero | none => Rq.zero
theorem rqE_cases (r : Rq) : rqE r = 0 ∨ rqE r = 1 ∨ rqE r = 11 ∨ rqE r = 12 := by
  unfold rqE
  split
  · simp
  split
  · simp
  unfold ckE
  split
  · split <;> simp
  · simp
/-- what may be asked -/
theorem rqE_ok {r : Rq} (h : rqE r = 0) : 0 ≤ r.d ∧ r.d ≤ 4 ∧ (r.d = 0 ∨ r.v.size = 0) ∧ ((r.d = 4 ∧ r.k.size = 0) ∨ (keyOk r.k ∧ nsz ⟨r.k, r.v⟩ ≤ 384)) := by
  unfold rqE at h
  by_cases h1 : r.d < 0 ∨ 4 < r.d ∨ (r.v.size ≠ 0 ∧ r.d ≠ 0)
  · rw [if_pos h1] at h; omega
  · rw [if_neg h1] at h
    refine ⟨by omega, by omega, by omega, ?_⟩
    by_cases h2 : r.d = 4 ∧ r.k.size = 0
    · exact .inl h2
    · rw [if_neg h2] at h
      exact .inr (ckE_zero.1 h)
theorem keyOk_noB {k : ByteArray} (h : keyOk k) : noB k := fun p hp e => by have := (h.2.2 p hp).1; omega
theorem word_noB (d : Int) : noB (wordS d) := by
  have h : ∀ s : ByteArray, (∀ p, p < s.size → bt s p ≠ 32) → noB s := fun _ h => h
  unfold wordS
  split
  · refine h _ ?_; decide
  split
  · refine h _ ?_; decide
  split
  · refine h _ ?_; decide
  split
  · refine h _ ?_; decide
  · refine h _ ?_; decide
theorem dgS_noB (s : ByteArray) : noB (dgS s) := by
  unfold dgS
  split
  · show ∀ p, p < dash.size → bt dash p ≠ 32
    decide
  · exact fun p hp => isD_ne (hexS_all s p hp)
/-- the words of a line of a request that may be -/
theorem wds_line {r : Rq} (h : rqE r = 0) : wds (lineS r) = if r.d = 0 then [putS, r.k, dgS r.v] else if r.k.size = 0 then [wordS r.d] else [wordS r.d, r.k] := by
  obtain ⟨h0, h4, hv, hk⟩ := rqE_ok h
  unfold lineS
  by_cases hd : r.d = 0
  · rw [if_pos hd, if_pos hd]
    have hkk : keyOk r.k := by rcases hk with q | q; omega; exact q.1
    rw [app_assoc, app_assoc, app_assoc, ← app_assoc putS, ← app_assoc r.k, wds_cons _ (show noB putS from word_noB 0), wds_cons _ (keyOk_noB hkk), wds_one (dgS_noB _)]
  · rw [if_neg hd, if_neg hd]
    by_cases hz : r.k.size = 0
    · rw [if_pos hz, if_pos hz, wds_one (word_noB _)]
    · rw [if_neg hz, if_neg hz]
      have hkk : keyOk r.k := by rcases hk with q | q; omega; exact q.1
      rw [wds_cons _ (word_noB _), wds_one (keyOk_noB hkk)]
theorem askW_line {r : Rq} (h : rqE r = 0) : askW (wds (lineS r)) = some r := by
  rw [wds_line h]
  obtain ⟨h0, h4, hv, hk⟩ := rqE_ok h
  by_cases hd : r.d = 0
  · rw [if_pos hd]
    rw [askW_3, if_pos rfl, undg_dgS]
    simp only [Option.map_some]
    congr 1
    exact Rq.ext' hd.symm rfl rfl
  · rw [if_neg hd]
    have hv0 : r.v = ByteArray.empty := size_zero (by omega)
    have hcase : r.d = 1 ∨ r.d = 2 ∨ r.d = 3 ∨ r.d = 4 := by omega
    by_cases hz : r.k.size = 0
    · rw [if_pos hz]
      have hk4 : r.d = 4 := by
        rcases hk with q | q
        · exact q.1
        · have := q.1.1; omega
      rw [askW_1, if_pos (by rw [hk4]; rfl)]
      congr 1
      exact Rq.ext' hk4.symm (size_zero hz).symm hv0.symm
    · rw [if_neg hz]
      rw [askW_2]
      rcases hcase with e | e | e | e
      · rw [if_pos (by rw [e]; rfl)]
        congr 1
        exact Rq.ext' e.symm rfl hv0.symm
      · rw [if_neg (by rw [e]; decide), if_pos (by rw [e]; rfl)]
        congr 1
        exact Rq.ext' e.symm rfl hv0.symm
      · rw [if_neg (by rw [e]; decide), if_neg (by rw [e]; decide), if_pos (by rw [e]; rfl)]
        congr 1
        exact Rq.ext' e.symm rfl hv0.symm
      · rw [if_neg (by rw [e]; decide), if_neg (by rw [e]; decide), if_neg (by rw [e]; decide), if_pos (by rw [e]; rfl), if_neg hz]
        congr 1
        exact Rq.ext' e.symm rfl hv0.symm
/-- what is printed is parsed as it was -/
theorem pa_line {r : Rq} (h : rqE r = 0) : paE (lineS r) = 0 ∧ paR (lineS r) = r := by
  unfold paE paR
  rw [askW_line h]
  exact ⟨h, by simp [h]⟩
theorem lineS_two {d : Int} {a : ByteArray} (hd : d ≠ 0) (ha : a.size ≠ 0) : lineS ⟨d, a, ByteArray.empty⟩ = wordS d ++ blank ++ a := by
  unfold lineS
  rw [if_neg hd, if_neg ha]
/-- a line of these words is this request's -/
theorem askW_join {l : List ByteArray} {r : Rq} (h : askW l = some r) (he : rqE r = 0) : lineS r = jn l := by
  obtain ⟨h0, h4, hv, hk⟩ := rqE_ok he
  have hkz : r.d ≠ 4 → r.k.size ≠ 0 := fun hd => by
    rcases hk with q | q
    · exact absurd q.1 hd
    · have := q.1.1; omega
  unfold askW at h
  split at h
  · rename_i w
    split at h
    · rename_i e
      obtain rfl := Option.some.inj h
      rw [e]; rfl
    · cases h
  · rename_i w a
    split at h
    · rename_i e
      obtain rfl := Option.some.inj h
      rw [lineS_two (by decide) (hkz (show (1 : Int) ≠ 4 by decide)), e]; rfl
    · split at h
      · rename_i e
        obtain rfl := Option.some.inj h
        rw [lineS_two (by decide) (hkz (show (2 : Int) ≠ 4 by decide)), e]; rfl
      · split at h
        · rename_i e
          obtain rfl := Option.some.inj h
          rw [lineS_two (by decide) (hkz (show (3 : Int) ≠ 4 by decide)), e]; rfl
        · split at h
          · rename_i e
            split at h
            · cases h
            · rename_i hz
              obtain rfl := Option.some.inj h
              rw [lineS_two (by decide) hz, e]; rfl
          · cases h
  · rename_i w a b
    split at h
    · rename_i e
      rw [Option.map_eq_some_iff] at h
      obtain ⟨v, hv9, rfl⟩ := h
      have := dgS_undg hv9
      subst this
      rw [e]
      show putS ++ blank ++ a ++ blank ++ dgS v = putS ++ blank ++ (a ++ blank ++ dgS v)
      simp only [app_assoc]
    · cases h
  · cases h
/-- what is parsed is printed as it was -/
theorem pa_back {s : ByteArray} (h : paE s = 0) : lineS (paR s) = s ∧ rqE (paR s) = 0 := by
  unfold paE at h
  unfold paR
  cases hq : askW (wds s) with
  | none => rw [hq] at h; cases h
  | some r =>
    rw [hq] at h
    simp only at h
    simp only
    rw [if_pos h]
    exact ⟨by rw [askW_join hq h, wds_join], h⟩
theorem pa_err {s : ByteArray} (h : paE s ≠ 0) : paR s = Rq.zero := by
  unfold paE at h
  unfold paR
  cases hq : askW (wds s) with
  | none => rfl
  | some r =>
    rw [hq] at h
    simp only at h
    simp only
    rw [if_neg h]
theorem pa_le (s : ByteArray) : paE s = 0 ∨ paE s = 1 ∨ paE s = 11 ∨ paE s = 12 ∨ paE s = 14 := by
  unfold paE
  cases askW (wds s) with
  | none => simp
  | some r =>
    have := rqE_cases r
    simp only
    omega
/-- one line just if one request -/
theorem line_inj {a b : Rq} (ha : rqE a = 0) (hb : rqE b = 0) : lineS a = lineS b ↔ a = b := by
  constructor
  · intro h
    have h1 := (pa_line ha).2
    have h2 := (pa_line hb).2
    rw [← h1, ← h2, h]
  · rintro rfl; rfl
end Go.Proofs.YtlpibpkbgmcclaaGreatDoor
namespace Go.Proofs.YtlpibpkbgmcclaaGreatDoor
open Go.RowKit
set_option linter.unusedVariables false
def ofL (l : List UInt8) : ByteArray := ⟨l.toArray⟩
theorem ofL_app (a b : List UInt8) : ofL (a ++ b) = ofL a ++ ofL b := by
  apply ByteArray.ext
  simp [ofL, ByteArray.data_append]
theorem ofL_size (l : List UInt8) : (ofL l).size = l.length := by simp [ofL, ByteArray.size]
theorem ofL_data (s : ByteArray) : ofL s.data.toList = s := by simp [ofL]
theorem ofL_one {x : Nat} (h : x < 256) : ofL [UInt8.ofNat x] = mkS 1 fun _ => x := by
  apply ext_bt
  · rw [ofL_size, mkS_size]; rfl
  · intro p hp
    rw [ofL_size] at hp
    obtain rfl : p = 0 := by simp at hp; omega
    rw [mkS_bt (f := fun _ => x) (p := 0) (by omega) h]
    show (UInt8.ofNat x).toNat = x
    simp
    omega
/-- a number in digits -/
def dcN (n : Nat) : ByteArray := ofL (Lib.decDigits n)
theorem dcN_small {n : Nat} (h : n < 10) : dcN n = mkS 1 fun _ => 48 + n % 10 := by
  unfold dcN
  rw [Lib.decDigits, dif_pos h, ofL_one (by omega), show n % 10 = n by omega]
theorem dcN_step {n : Nat} (h : 10 ≤ n) : dcN n = dcN (n / 10) ++ mkS 1 fun _ => 48 + n % 10 := by
  unfold dcN
  conv => lhs; rw [Lib.decDigits, dif_neg (by omega)]
  rw [ofL_app, ofL_one (by omega)]
theorem dcN_len : ∀ (k n : Nat), n < 10 ^ (k + 1) → (dcN n).size ≤ k + 1
  | 0, n, h => by rw [dcN_small (by simpa using h), mkS_size]; omega
  | k + 1, n, h => by
    by_cases q : n < 10
    · rw [dcN_small q, mkS_size]; omega
    · rw [dcN_step (by omega), ByteArray.size_append, mkS_size]
      have := dcN_len k (n / 10) (by rw [Nat.pow_succ] at h; omega)
      omega
theorem dcN_le {n : Nat} (h : n ≤ 9223372036854775807) : (dcN n).size ≤ 19 := dcN_len 18 n (by omega)
theorem itoa_nat (n : Nat) : (⟨(Lib.itoa (n : Int)).toArray⟩ : ByteArray) = dcN n := by
  unfold Lib.itoa dcN ofL
  rw [if_neg (by omega), Int.toNat_natCast]
end Go.Proofs.YtlpibpkbgmcclaaGreatDoor
