/- Numbers as bytes, in groups of seven bits; what is read of any bytes. No walk stands here. -/
import Derived.Test.YtlpibpkbgmcclaaDoorBt
namespace Go.Proofs.YtlpibpkbgmcclaaDoor
theorem str_eq {s t : ByteArray} (h : s = t) : (s.toList == t.toList) = true := by rw [h]; simp
theorem size_zero {s : ByteArray} (h : s.size = 0) : s = ByteArray.empty := ext_bt (by rw [h]; rfl) fun p hp => by omega
theorem ext_head (s t : ByteArray) : (s ++ t).extract 0 s.size = s := by
  have hz : ((s ++ t).extract 0 s.size).size = s.size := by rw [ByteArray.size_extract, ByteArray.size_append]; omega
  apply ext_bt hz
  intro p hp
  rw [hz] at hp
  rw [bt_extract _ _ _ _ (by omega) (by rw [ByteArray.size_append]; omega), Nat.zero_add, bt_append, if_pos hp]
theorem ext_tail (s t : ByteArray) : (s ++ t).extract s.size (s ++ t).size = t := by
  have hz : ((s ++ t).extract s.size (s ++ t).size).size = t.size := by rw [ByteArray.size_extract, ByteArray.size_append]; omega
  apply ext_bt hz
  intro p hp
  rw [hz] at hp
  rw [bt_extract _ _ _ _ (by rw [ByteArray.size_append]; omega) (Nat.le_refl _), bt_append, if_neg (by omega), Nat.add_sub_cancel_left]
theorem ext_join (s : ByteArray) (k : Nat) (h : k ≤ s.size) : s.extract 0 k ++ s.extract k s.size = s := by
  have h0 : (s.extract 0 k).size = k := by rw [ByteArray.size_extract]; omega
  have hz : (s.extract 0 k ++ s.extract k s.size).size = s.size := by rw [ByteArray.size_append, h0, ByteArray.size_extract]; omega
  apply ext_bt hz
  intro p hp
  rw [hz] at hp
  rw [bt_append, h0]
  by_cases c : p < k
  · rw [if_pos c, bt_extract _ _ _ _ (by omega) h, Nat.zero_add]
  · rw [if_neg c, bt_extract _ _ _ _ (by omega) (Nat.le_refl _)]; congr 1; omega
/-- how many bytes a number has -/
def nlen (n : Nat) : Nat := if h : n < 128 then 1 else nlen (n / 128) + 1
decreasing_by omega
theorem nlen_small {n : Nat} (h : n < 128) : nlen n = 1 := by rw [nlen, dif_pos h]
theorem nlen_step {n : Nat} (h : 128 ≤ n) : nlen n = nlen (n / 128) + 1 := by rw [nlen, dif_neg (by omega)]
theorem nlen_pos (n : Nat) : 1 ≤ nlen n := by
  by_cases h : n < 128
  · rw [nlen_small h]; omega
  · rw [nlen_step (by omega)]; omega
theorem nlen_lt (n : Nat) : n < 128 ^ nlen n := by
  induction n using Nat.strongRecOn with
  | _ n ih =>
    by_cases h : n < 128
    · rw [nlen_small h]; omega
    · rw [nlen_step (by omega), Nat.pow_succ]
      have := ih (n / 128) (by omega)
      omega
theorem nlen_le : ∀ {k n : Nat}, n < 128 ^ (k + 1) → nlen n ≤ k + 1
  | 0, n, h => by rw [nlen_small (by simpa using h)]; omega
  | k + 1, n, h => by
    by_cases c : n < 128
    · rw [nlen_small c]; omega
    · rw [nlen_step (by omega)]
      have : n / 128 < 128 ^ (k + 1) := by rw [Nat.pow_succ] at h; omega
      have := nlen_le this
      omega
theorem nlen_ge {n j : Nat} (h : j + 1 < nlen n) : 128 ^ (j + 1) ≤ n := by
  by_cases c : n < 128 ^ (j + 1)
  · have := nlen_le c; omega
  · omega
/-- byte p of a number -/
def gb (n p : Nat) : Nat := if n / 128 ^ (p + 1) = 0 then n / 128 ^ p % 128 else n / 128 ^ p % 128 + 128
theorem gb_lt (n p : Nat) : gb n p < 256 := by unfold gb; split <;> omega
theorem gb_mod (n p : Nat) : gb n p % 128 = n / 128 ^ p % 128 := by unfold gb; split <;> omega
theorem gb_more {n p : Nat} (h : 128 ^ (p + 1) ≤ n) : gb n p = n / 128 ^ p % 128 + 128 := by
  unfold gb; rw [if_neg]
  have : 0 < n / 128 ^ (p + 1) := Nat.div_pos h (Nat.pow_pos (by decide))
  omega
theorem gb_last {n p : Nat} (h : n < 128 ^ (p + 1)) : gb n p = n / 128 ^ p := by
  unfold gb; rw [if_pos (Nat.div_eq_of_lt h), Nat.mod_eq_of_lt]
  exact Nat.div_lt_of_lt_mul (by rw [← Nat.pow_succ]; exact h)
theorem gb_succ (n p : Nat) : gb n (p + 1) = gb (n / 128) p := by
  unfold gb
  rw [Nat.div_div_eq_div_mul, Nat.div_div_eq_div_mul, ← Nat.pow_succ', ← Nat.pow_succ']
def numS (n : Nat) : ByteArray := mkS (nlen n) (gb n)
theorem numS_size (n : Nat) : (numS n).size = nlen n := mkS_size _ _
theorem numS_bt {n p : Nat} (h : p < nlen n) : bt (numS n) p = gb n p := mkS_bt h (gb_lt _ _)
theorem numS_one {n : Nat} (h : n < 128) : numS n = mkS 1 fun _ => n := by
  unfold numS; rw [nlen_small h]
  exact mkS_congr fun p hp => by
    obtain rfl : p = 0 := by omega
    rw [gb_last (by simpa using h)]; simp
theorem numS_cons {n : Nat} (h : 128 ≤ n) : numS n = (mkS 1 fun _ => 128 + n % 128) ++ numS (n / 128) := by
  have hz : (numS n).size = ((mkS 1 fun _ => 128 + n % 128) ++ numS (n / 128)).size := by rw [ByteArray.size_append, mkS_size, numS_size, numS_size, nlen_step h]; omega
  apply ext_bt hz
  intro p hp
  rw [numS_size] at hp
  rw [numS_bt hp, bt_append, mkS_size]
  by_cases c : p < 1
  · obtain rfl : p = 0 := by omega
    rw [if_pos c, mkS_bt c (by omega), gb_more (by simpa using h)]
    simp; omega
  · rw [if_neg c]
    rw [nlen_step h] at hp
    rw [numS_bt (by omega), ← gb_succ]; congr 1; omega
theorem nlen_top {n : Nat} (h : n < 72057594037927936) : nlen n ≤ 8 := nlen_le (k := 7) (by simpa using h)
/-- the number of k groups -/
def val (f : Nat → Nat) : Nat → Nat
  | 0 => 0
  | k + 1 => val f k + f k % 128 * 128 ^ k
theorem val_lt (f : Nat → Nat) : ∀ k, val f k < 128 ^ k
  | 0 => by simp [val]
  | k + 1 => by
    have h := val_lt f k
    have : f k % 128 * 128 ^ k ≤ 127 * 128 ^ k := Nat.mul_le_mul_right _ (by omega)
    rw [val, Nat.pow_succ]; omega
theorem val_mod {f : Nat → Nat} {n : Nat} : ∀ {k : Nat}, (∀ p, p < k → f p % 128 = n / 128 ^ p % 128) → val f k = n % 128 ^ k
  | 0, _ => by simp [val, Nat.mod_one]
  | k + 1, h => by
    rw [val, val_mod (k := k) fun p hp => h p (by omega), h k (by omega), Nat.pow_succ, Nat.mod_mul, Nat.mul_comm]
theorem val_div {f : Nat → Nat} : ∀ {k p : Nat}, p < k → val f k / 128 ^ p % 128 = f p % 128
  | k + 1, p, h => by
    rw [val]
    by_cases c : p < k
    · have ih := val_div (f := f) c
      obtain ⟨d, rfl⟩ : ∃ d, k = p + 1 + d := ⟨k - (p + 1), by omega⟩
      rw [show f (p + 1 + d) % 128 * 128 ^ (p + 1 + d) = 128 ^ p * (128 * (f (p + 1 + d) % 128 * 128 ^ d)) by
        rw [Nat.pow_add, Nat.pow_succ]; simp only [Nat.mul_left_comm, Nat.mul_comm, Nat.mul_assoc]]
      rw [Nat.add_mul_div_left _ _ (Nat.pow_pos (by decide)), Nat.add_mul_mod_self_left, ih]
    · obtain rfl : p = k := by omega
      rw [Nat.mul_comm, Nat.add_mul_div_left _ _ (Nat.pow_pos (by decide)), Nat.div_eq_of_lt (val_lt f p)]
      omega
theorem val_congr {f g : Nat → Nat} : ∀ {k : Nat}, (∀ p, p < k → f p = g p) → val f k = val g k
  | 0, _ => rfl
  | k + 1, h => by rw [val, val, val_congr (k := k) fun p hp => h p (by omega), h k (by omega)]
theorem val_gb (n : Nat) : val (gb n) (nlen n) = n := by
  rw [val_mod (n := n) fun p _ => gb_mod n p, Nat.mod_eq_of_lt (nlen_lt n)]
/-- bytes that end are those of their number -/
theorem val_back {f : Nat → Nat} {k : Nat} (hm : ∀ j, j < k → 128 ≤ f j) (hb : ∀ j, f j < 256) (hl : f k < 128) (h0 : k = 0 ∨ f k ≠ 0) : nlen (val f (k + 1)) = k + 1 ∧ ∀ p, p < k + 1 → gb (val f (k + 1)) p = f p := by
  have hlt := val_lt f (k + 1)
  have hge : k = 0 ∨ 128 ^ k ≤ val f (k + 1) := by
    rcases h0 with h | h
    · exact .inl h
    · right; rw [val, Nat.mod_eq_of_lt hl]
      have : 1 * 128 ^ k ≤ f k * 128 ^ k := Nat.mul_le_mul_right _ (by omega)
      omega
  have hn : nlen (val f (k + 1)) = k + 1 := by
    have h1 := nlen_le hlt
    have h2 := nlen_pos (val f (k + 1))
    have h3 := nlen_lt (val f (k + 1))
    rcases hge with h | h
    · omega
    · by_cases c : nlen (val f (k + 1)) = k + 1
      · exact c
      · have : 128 ^ nlen (val f (k + 1)) ≤ 128 ^ k := Nat.pow_le_pow_right (by decide) (by omega)
        omega
  refine ⟨hn, fun p hp => ?_⟩
  have hd := val_div (f := f) hp
  by_cases c : p < k
  · rw [gb_more (nlen_ge (by omega)), hd]
    have := hm p c
    have := hb p
    omega
  · obtain rfl : p = k := by omega
    unfold gb
    rw [if_pos (Nat.div_eq_of_lt hlt), hd, Nat.mod_eq_of_lt hl]
/-- the first of eight bytes that ends a number -/
def stopF (f : Nat → Nat) : Nat → Nat → Nat
  | 0, i => i
  | k + 1, i => if f i < 128 then i else stopF f k (i + 1)
def stop (f : Nat → Nat) : Nat := stopF f 8 0
theorem stopF_spec (f : Nat → Nat) : ∀ k i, i ≤ stopF f k i ∧ stopF f k i ≤ i + k ∧ (∀ j, i ≤ j → j < stopF f k i → 128 ≤ f j) ∧ (stopF f k i < i + k → f (stopF f k i) < 128)
  | 0, i => by simp only [stopF]; exact ⟨by omega, by omega, fun j h1 h2 => by omega, fun h => by omega⟩
  | k + 1, i => by
    simp only [stopF]
    by_cases c : f i < 128
    · rw [if_pos c]; exact ⟨by omega, by omega, fun j h1 h2 => by omega, fun _ => c⟩
    · rw [if_neg c]
      obtain ⟨h1, h2, h3, h4⟩ := stopF_spec f k (i + 1)
      refine ⟨by omega, by omega, fun j hj1 hj2 => ?_, fun h => h4 (by omega)⟩
      by_cases e : j = i
      · subst e; omega
      · exact h3 j (by omega) hj2
theorem stop_le (f : Nat → Nat) : stop f ≤ 8 := by have := (stopF_spec f 8 0).2.1; unfold stop; omega
theorem stop_more {f : Nat → Nat} {j : Nat} (h : j < stop f) : 128 ≤ f j := (stopF_spec f 8 0).2.2.1 j (Nat.zero_le _) h
theorem stop_end {f : Nat → Nat} (h : stop f < 8) : f (stop f) < 128 := (stopF_spec f 8 0).2.2.2 (by unfold stop at h; omega)
theorem stop_eq {f : Nat → Nat} {k : Nat} (h8 : k ≤ 8) (hm : ∀ j, j < k → 128 ≤ f j) (hl : k < 8 → f k < 128) : stop f = k := by
  have h1 := stop_le f
  rcases Nat.lt_trichotomy (stop f) k with h | h | h
  · have := hm _ h; have := stop_end (f := f) (by omega); omega
  · exact h
  · have := stop_more h; have := hl (by omega); omega
theorem stop_size (s : ByteArray) : stop (bt s) ≤ s.size := by
  by_cases h : s.size < stop (bt s)
  · have := stop_more h; rw [bt_out (Nat.le_refl _)] at this; omega
  · omega
/-- the error of a number at the begin of s -/
def rE (s : ByteArray) : Nat := if stop (bt s) = 8 then 4 else if stop (bt s) = s.size then 3 else if bt s (stop (bt s)) = 0 ∧ 0 < stop (bt s) then 4 else 0
def rN (s : ByteArray) : Nat := if rE s = 0 then val (bt s) (stop (bt s) + 1) else 0
def rR (s : ByteArray) : ByteArray := if rE s = 0 then s.extract (stop (bt s) + 1) s.size else ByteArray.empty
def tE (s : ByteArray) : Nat := if rE s ≠ 0 then rE s else if (rR s).size < rN s then 3 else 0
def tT (s : ByteArray) : ByteArray := if tE s = 0 then (rR s).extract 0 (rN s) else ByteArray.empty
def tR (s : ByteArray) : ByteArray := if tE s = 0 then (rR s).extract (rN s) (rR s).size else ByteArray.empty
def nE (s : ByteArray) : Nat := if s.size = 0 then 0 else 4
theorem rE_ok {s : ByteArray} (h : rE s = 0) : stop (bt s) < 8 ∧ stop (bt s) < s.size ∧ (stop (bt s) = 0 ∨ bt s (stop (bt s)) ≠ 0) := by
  unfold rE at h
  have h1 := stop_le (bt s)
  have h2 := stop_size s
  by_cases a : stop (bt s) = 8
  · rw [if_pos a] at h; cases h
  rw [if_neg a] at h
  by_cases b : stop (bt s) = s.size
  · rw [if_pos b] at h; cases h
  rw [if_neg b] at h
  by_cases c : bt s (stop (bt s)) = 0 ∧ 0 < stop (bt s)
  · rw [if_pos c] at h; cases h
  refine ⟨by omega, by omega, ?_⟩
  by_cases d : stop (bt s) = 0
  · exact .inl d
  · exact .inr fun e => c ⟨e, by omega⟩
theorem rE_cases (s : ByteArray) : rE s = 0 ∨ rE s = 3 ∨ rE s = 4 := by unfold rE; split; simp; split; simp; split <;> simp
theorem rN_lt (s : ByteArray) : rN s < 72057594037927936 := by
  unfold rN; split
  · next h =>
    have h1 := val_lt (bt s) (stop (bt s) + 1)
    have h2 : 128 ^ (stop (bt s) + 1) ≤ 128 ^ 8 := Nat.pow_le_pow_right (by decide) (by have := (rE_ok h).1; omega)
    omega
  · decide
theorem rR_size (s : ByteArray) : (rR s).size ≤ s.size := by
  unfold rR; split
  · rw [ByteArray.size_extract]; omega
  · exact Nat.zero_le _
theorem tR_size (s : ByteArray) : (tR s).size ≤ s.size := by
  unfold tR; split
  · rw [ByteArray.size_extract]; have := rR_size s; omega
  · exact Nat.zero_le _
/-- what is read is what was written -/
theorem rd_num {n : Nat} (t : ByteArray) (h : n < 72057594037927936) : stop (bt (numS n ++ t)) + 1 = nlen n ∧ rE (numS n ++ t) = 0 ∧ rN (numS n ++ t) = n ∧ rR (numS n ++ t) = t := by
  have h8 := nlen_top h
  have hp := nlen_pos n
  have hb : ∀ p, p < nlen n → bt (numS n ++ t) p = gb n p := fun p hp => by rw [bt_append, numS_size, if_pos hp, numS_bt hp]
  have hlast : gb n (nlen n - 1) = n / 128 ^ (nlen n - 1) := gb_last (by rw [show nlen n - 1 + 1 = nlen n by omega]; exact nlen_lt n)
  have hlt : gb n (nlen n - 1) < 128 := by
    rw [hlast]; exact Nat.div_lt_of_lt_mul (by rw [← Nat.pow_succ, show (nlen n - 1).succ = nlen n by omega]; exact nlen_lt n)
  have hst : stop (bt (numS n ++ t)) = nlen n - 1 := by
    refine stop_eq (by omega) (fun j hj => ?_) fun _ => ?_
    · rw [hb j (by omega), gb_more (nlen_ge (by omega))]; omega
    · rw [hb _ (by omega)]; exact hlt
  have hsz : (numS n ++ t).size = nlen n + t.size := by rw [ByteArray.size_append, numS_size]
  have hE : rE (numS n ++ t) = 0 := by
    unfold rE
    rw [hst, if_neg (by omega), if_neg (by omega), if_neg]
    rintro ⟨e, c⟩
    rw [hb _ (by omega), hlast] at e
    have := nlen_ge (n := n) (j := nlen n - 2) (by omega)
    rw [show nlen n - 2 + 1 = nlen n - 1 by omega] at this
    have := Nat.div_pos this (Nat.pow_pos (by decide))
    omega
  refine ⟨by omega, hE, ?_, ?_⟩
  · unfold rN
    rw [if_pos hE, hst, show nlen n - 1 + 1 = nlen n by omega, val_congr (g := gb n) hb, val_gb]
  · unfold rR
    rw [if_pos hE, hst, show nlen n - 1 + 1 = (numS n).size by rw [numS_size]; omega, ext_tail]
def textS (s : ByteArray) : ByteArray := numS s.size ++ s
theorem app_assoc (a b c : ByteArray) : a ++ b ++ c = a ++ (b ++ c) := by
  apply ext_bt (by simp only [ByteArray.size_append]; omega)
  intro p _
  simp only [bt_append, ByteArray.size_append]
  by_cases h1 : p < a.size
  · rw [if_pos (by omega), if_pos h1, if_pos h1]
  · rw [if_neg h1, if_neg h1]
    by_cases h2 : p < a.size + b.size
    · rw [if_pos h2, if_pos (by omega)]
    · rw [if_neg h2, if_neg (by omega)]; congr 1; omega
theorem app_nil (a : ByteArray) : a ++ ByteArray.empty = a := by
  apply ext_bt (by simp only [ByteArray.size_append]; rfl)
  intro p hp
  rw [bt_append, if_pos]; simpa using hp
theorem nil_app (a : ByteArray) : ByteArray.empty ++ a = a := by
  apply ext_bt (by rw [ByteArray.size_append, show ByteArray.empty.size = 0 from rfl]; omega)
  intro p hp
  rw [bt_append, if_neg (by rw [show ByteArray.empty.size = 0 from rfl]; omega)]; rfl
theorem rd_text {s : ByteArray} (t : ByteArray) (h : s.size < 72057594037927936) : tE (textS s ++ t) = 0 ∧ tT (textS s ++ t) = s ∧ tR (textS s ++ t) = t := by
  have e : textS s ++ t = numS s.size ++ (s ++ t) := app_assoc _ _ _
  obtain ⟨_, h1, h2, h3⟩ := rd_num (n := s.size) (s ++ t) h
  rw [← e] at h1 h2 h3
  have hE : tE (textS s ++ t) = 0 := by
    unfold tE; rw [if_neg (by omega), h2, h3, if_neg (by rw [ByteArray.size_append]; omega)]
  refine ⟨hE, ?_, ?_⟩
  · unfold tT; rw [if_pos hE, h2, h3, ext_head]
  · unfold tR; rw [if_pos hE, h2, h3, ext_tail]
/-- a number's bytes without their end are cut -/
theorem cut_num {n k : Nat} (h : n < 72057594037927936) (hk : k < nlen n) : rE ((numS n).extract 0 k) = 3 := by
  have h8 := nlen_top h
  have hz : ((numS n).extract 0 k).size = k := by rw [ByteArray.size_extract, numS_size]; omega
  have hst : stop (bt ((numS n).extract 0 k)) = k := by
    refine stop_eq (by omega) (fun j hj => ?_) fun _ => ?_
    · rw [bt_extract _ _ _ _ (by omega) (by rw [numS_size]; omega), Nat.zero_add, numS_bt (by omega), gb_more (nlen_ge (by omega))]; omega
    · rw [bt_out (by omega)]; decide
  unfold rE
  rw [hst, if_neg (by omega), if_pos hz.symm]
theorem cut_text {s : ByteArray} {k : Nat} (h : s.size < 72057594037927936) (hk : k < (textS s).size) : tE ((textS s).extract 0 k) = 3 := by
  have hz : (textS s).size = nlen s.size + s.size := by unfold textS; rw [ByteArray.size_append, numS_size]
  by_cases c : k < nlen s.size
  · have e : (textS s).extract 0 k = (numS s.size).extract 0 k := by
      have h1 : ((textS s).extract 0 k).size = k := by rw [ByteArray.size_extract]; omega
      apply ext_bt (by rw [h1, ByteArray.size_extract, numS_size]; omega)
      intro p hp
      rw [h1] at hp
      rw [bt_extract _ _ _ _ (by omega) (by omega), bt_extract _ _ _ _ (by omega) (by rw [numS_size]; omega), textS, bt_append, numS_size, if_pos (by omega)]
    unfold tE
    rw [e, cut_num h c, if_pos (by decide)]
  · have e : (textS s).extract 0 k = numS s.size ++ s.extract 0 (k - nlen s.size) := by
      have h1 : ((textS s).extract 0 k).size = k := by rw [ByteArray.size_extract]; omega
      apply ext_bt (by rw [h1, ByteArray.size_append, ByteArray.size_extract, numS_size]; omega)
      intro p hp
      rw [h1] at hp
      rw [bt_extract _ _ _ _ (by omega) (by omega), Nat.zero_add, textS, bt_append, bt_append, numS_size]
      by_cases d : p < nlen s.size
      · rw [if_pos d, if_pos d]
      · rw [if_neg d, if_neg d, bt_extract _ _ _ _ (by omega) (by omega), Nat.zero_add]
    obtain ⟨_, h1, h2, h3⟩ := rd_num (n := s.size) (s.extract 0 (k - nlen s.size)) h
    unfold tE
    rw [e, if_neg (by omega), h2, h3, if_pos (by rw [ByteArray.size_extract]; omega)]
/-- no other bytes are read -/
theorem once_num (s : ByteArray) : (rE s = 0 ∧ (rR s).size = 0) ↔ numS (rN s) = s := by
  constructor
  · rintro ⟨h, hr⟩
    obtain ⟨h1, h2, h3⟩ := rE_ok h
    have hz : s.size = stop (bt s) + 1 := by
      unfold rR at hr; rw [if_pos h, ByteArray.size_extract] at hr; omega
    obtain ⟨hn, hg⟩ := val_back (f := bt s) (k := stop (bt s)) (fun j hj => stop_more hj) (bt_lt s) (stop_end h1) h3
    unfold rN
    rw [if_pos h]
    apply ext_bt (by rw [numS_size, hn, hz])
    intro p hp
    rw [numS_size] at hp
    rw [numS_bt hp, hg p (by omega)]
  · intro e
    obtain ⟨_, h1, _, h3⟩ := rd_num (n := rN s) ByteArray.empty (rN_lt s)
    rw [app_nil, e] at h1 h3
    exact ⟨h1, by rw [h3]; rfl⟩
theorem num_begin {n m : Nat} (hn : n < 72057594037927936) (hm : m < 72057594037927936) (hz : (numS n).size ≤ (numS m).size) (h : (numS m).extract 0 (numS n).size = numS n) : n = m := by
  have e := ext_join (numS m) (numS n).size hz
  rw [h] at e
  have h1 := (rd_num ((numS m).extract (numS n).size (numS m).size) hn).2.2.1
  have h2 := (rd_num ByteArray.empty hm).2.2.1
  rw [e] at h1
  rw [app_nil] at h2
  omega
theorem text_begin {a b : ByteArray} (ha : a.size < 72057594037927936) (hb : b.size < 72057594037927936) (hz : (textS a).size ≤ (textS b).size) (h : (textS b).extract 0 (textS a).size = textS a) : a = b := by
  have e := ext_join (textS b) (textS a).size hz
  rw [h] at e
  have h1 := (rd_text ((textS b).extract (textS a).size (textS b).size) ha).2.1
  have h2 := (rd_text ByteArray.empty hb).2.1
  rw [e] at h1
  rw [app_nil] at h2
  rw [← h1, h2]
end Go.Proofs.YtlpibpkbgmcclaaDoor
