/- Strings as numbers; small words that every walk uses. No function of the program and no type's number stands here. (For seats that have no field.Table: in the place of GfTab and Mem's first part.) Bytes of strings that are joined or cut. No walk stands here. Numbers as bytes, in groups of seven bits; what is read of any bytes. No walk stands here. Blocks of one-cell values in memory, told by a function. No function of the program and no type's number stands here. (For seats without field.Table: in the place of Mem's second part.) Rows of a call's own that grow by append: as a step of a region that draws, read as a string. A law's arguments as they came in: a slice of strings, read as a list. (For seats without code: in the place of CdOpen.) -/
import Derived.Test.YtlpibpkbgmcclaaDoorChecked
import Derived.WalkKit
import Derived.WalkSpells
import Derived.WalkLawsBesides
import Derived.Laws.BytesArg
import Derived.Laws.CopyOwn
import Derived.Laws.BitsAllLaws
import Derived.Deep.QuietTactic
import Derived.BigQuiet
import Derived.Deep.MidRow
import Derived.Deep.RegionLaw
import Derived.RangeFuncBox
import Derived.SliceStrings
import Derived.ChangeSlices
namespace Go.Proofs.YtlpibpkbgmcclaaDoor
open Go.RowKit
theorem hide {p : Prop} (h : p) : Hid p := h
theorem ret_int {k : IntKind} {a b : Int} (h : a = b) : Ending.returned (.int k a) = .returned (.int k b) := by rw [h]
theorem ret_bool {a b : Bool} (h : a = b) : Ending.returned (.bool a) = .returned (.bool b) := by rw [h]
theorem ret_str {a b : ByteArray} (h : a = b) : Ending.returned (.string a) = .returned (.string b) := by rw [h]
/-- the byte at p, as a number (0 beyond the end) -/
def bt (s : ByteArray) (p : Nat) : Nat := if h : p < s.size then (s[p]'h).toNat else 0
theorem bt_eq {s : ByteArray} {p : Nat} (h : p < s.size) : (s[p]'h).toNat = bt s p := by unfold bt; rw [dif_pos h]
theorem bt_lt (s : ByteArray) (p : Nat) : bt s p < 256 := by
  unfold bt; split
  · exact UInt8.toNat_lt _
  · decide
/-- the string of L bytes f 0, f 1, .. -/
def mkS (L : Nat) (f : Nat → Nat) : ByteArray := strOfNums ((List.range L).map fun p => ((f p : Nat) : Int))
theorem mkS_size (L : Nat) (f : Nat → Nat) : (mkS L f).size = L := by unfold mkS; rw [strOfNums_size]; simp
theorem mkS_bt {L : Nat} {f : Nat → Nat} {p : Nat} (hp : p < L) (h : f p < 256) : bt (mkS L f) p = f p := by
  have hs : p < (mkS L f).size := by rw [mkS_size]; exact hp
  rw [← bt_eq hs]
  show (((mkS L f).data)[p]'hs).toNat = f p
  have : (mkS L f).data = (((List.range L).map fun p => ((f p : Nat) : Int)).map fun n => UInt8.ofNat n.toNat).toArray := rfl
  simp only [this, List.getElem_toArray, List.getElem_map, List.getElem_range, Int.toNat_natCast, UInt8.toNat_ofNat']
  omega
theorem ext_bt {s t : ByteArray} (hs : s.size = t.size) (h : ∀ p, p < s.size → bt s p = bt t p) : s = t := by
  apply ByteArray.ext
  apply Array.ext
  · exact hs
  · intro i h1 h2
    have := h i h1
    rw [← bt_eq h1, ← bt_eq (s := t) h2] at this
    exact UInt8.toNat_inj.1 this
theorem mkS_congr {L : Nat} {f g : Nat → Nat} (h : ∀ p, p < L → f p = g p) : mkS L f = mkS L g := by
  unfold mkS; congr 1
  exact List.map_congr_left fun p hp => by rw [h p (List.mem_range.1 hp)]
theorem mkS_self (s : ByteArray) : mkS s.size (bt s) = s := by
  apply ext_bt (mkS_size _ _)
  intro p hp
  rw [mkS_size] at hp
  exact mkS_bt hp (bt_lt _ _)
end Go.Proofs.YtlpibpkbgmcclaaDoor
namespace Go.Proofs.YtlpibpkbgmcclaaDoor
open Go.RowKit in
theorem drew_below (w : World) : Below w.heap.size w w.drew := ⟨rfl, rfl, rfl, Nat.le_refl _, fun _ _ => rfl⟩
theorem bt_out {s : ByteArray} {p : Nat} (h : s.size ≤ p) : bt s p = 0 := by unfold bt; rw [dif_neg (by omega)]
theorem bt_append (s t : ByteArray) (p : Nat) : bt (s ++ t) p = if p < s.size then bt s p else bt t (p - s.size) := by
  by_cases h : p < s.size
  · have h' : p < (s ++ t).size := by rw [ByteArray.size_append]; omega
    rw [if_pos h, ← bt_eq h, ← bt_eq h', ByteArray.getElem_append_left h]
  · rw [if_neg h]
    by_cases h2 : p < s.size + t.size
    · have h' : p < (s ++ t).size := by rw [ByteArray.size_append]; exact h2
      have h3 : p - s.size < t.size := by omega
      rw [← bt_eq h', ← bt_eq h3, ByteArray.getElem_append_right (by omega)]
    · rw [bt_out (by rw [ByteArray.size_append]; omega), bt_out (by omega)]
theorem bt_extract (s : ByteArray) (a b p : Nat) (h : a + p < b) (hb : b ≤ s.size) : bt (s.extract a b) p = bt s (a + p) := by
  have h1 : p < (s.extract a b).size := by rw [ByteArray.size_extract]; omega
  have h2 : a + p < s.size := by omega
  rw [← bt_eq h1, ← bt_eq h2, ByteArray.getElem_extract]
theorem str_ne {s t : ByteArray} (h : s ≠ t) : (s.toList == t.toList) = false := by
  rw [beq_eq_false_iff_ne]
  intro e
  rw [ByteArray.toList_eq, ByteArray.toList_eq] at e
  exact h (ByteArray.ext (Array.toList_inj.1 e))
end Go.Proofs.YtlpibpkbgmcclaaDoor
namespace Go.Proofs.YtlpibpkbgmcclaaDoor
theorem str_eq {s t : ByteArray} (h : s = t) : (s.toList == t.toList) = true := by rw [h]; simp
theorem size_zero {s : ByteArray} (h : s.size = 0) : s = ByteArray.empty := ext_bt (by rw [h]; rfl) fun p hp => by omega
theorem ext_head (s t : ByteArray) : (s ++ t).extract 0 s.size = s := by
  have hz : ((s ++ t).extract 0 s.size).size = s.size := by rw [ByteArray.size_extract, ByteArray.size_append]; omega
  apply ext_bt hz
  intro p hp
  rw [hz] at hp
  rw [bt_extract _ _ _ _ (by omega) (by rw [ByteArray.size_append]; omega), Nat.zero_add, bt_append, if_pos hp]
theorem ext_tail (s t : ByteArray) : (s ++ t).extract s.size (s ++ t).size = t := by
  have hz : ((s ++ t).extract s.size (s ++ t).size).size = t.size := by rw [ByteArray.size_extract, ByteArray.size_append]; omega
  apply ext_bt hz
  intro p hp
  rw [hz] at hp
  rw [bt_extract _ _ _ _ (by rw [ByteArray.size_append]; omega) (Nat.le_refl _), bt_append, if_neg (by omega), Nat.add_sub_cancel_left]
theorem ext_join (s : ByteArray) (k : Nat) (h : k ≤ s.size) : s.extract 0 k ++ s.extract k s.size = s := by
  have h0 : (s.extract 0 k).size = k := by rw [ByteArray.size_extract]; omega
  have hz : (s.extract 0 k ++ s.extract k s.size).size = s.size := by rw [ByteArray.size_append, h0, ByteArray.size_extract]; omega
  apply ext_bt hz
  intro p hp
  rw [hz] at hp
  rw [bt_append, h0]
  by_cases c : p < k
  · rw [if_pos c, bt_extract _ _ _ _ (by omega) h, Nat.zero_add]
  · rw [if_neg c, bt_extract _ _ _ _ (by omega) (Nat.le_refl _)]; congr 1; omega
/-- how many bytes a number has -/
def nlen (n : Nat) : Nat := if h : n < 128 then 1 else nlen (n / 128) + 1
decreasing_by omega
theorem nlen_small {n : Nat} (h : n < 128) : nlen n = 1 := by rw [nlen, dif_pos h]
theorem nlen_step {n : Nat} (h : 128 ≤ n) : nlen n = nlen (n / 128) + 1 := by rw [nlen, dif_neg (by omega)]
theorem nlen_pos (n : Nat) : 1 ≤ nlen n := by
  by_cases h : n < 128
  · rw [nlen_small h]; omega
  · rw [nlen_step (by omega)]; omega
theorem nlen_lt (n : Nat) : n < 128 ^ nlen n := by
  induction n using Nat.strongRecOn with
  | _ n ih =>
    by_cases h : n < 128
    · rw [nlen_small h]; omega
    · rw [nlen_step (by omega), Nat.pow_succ]
      have := ih (n / 128) (by omega)
      omega
theorem nlen_le : ∀ {k n : Nat}, n < 128 ^ (k + 1) → nlen n ≤ k + 1
  | 0, n, h => by rw [nlen_small (by simpa using h)]; omega
  | k + 1, n, h => by
    by_cases c : n < 128
    · rw [nlen_small c]; omega
    · rw [nlen_step (by omega)]
      have : n / 128 < 128 ^ (k + 1) := by rw [Nat.pow_succ] at h; omega
      have := nlen_le this
      omega
theorem nlen_ge {n j : Nat} (h : j + 1 < nlen n) : 128 ^ (j + 1) ≤ n := by
  by_cases c : n < 128 ^ (j + 1)
  · have := nlen_le c; omega
  · omega
/-- byte p of a number -/
def gb (n p : Nat) : Nat := if n / 128 ^ (p + 1) = 0 then n / 128 ^ p % 128 else n / 128 ^ p % 128 + 128
theorem gb_lt (n p : Nat) : gb n p < 256 := by unfold gb; split <;> omega
theorem gb_mod (n p : Nat) : gb n p % 128 = n / 128 ^ p % 128 := by unfold gb; split <;> omega
theorem gb_more {n p : Nat} (h : 128 ^ (p + 1) ≤ n) : gb n p = n / 128 ^ p % 128 + 128 := by
  unfold gb; rw [if_neg]
  have : 0 < n / 128 ^ (p + 1) := Nat.div_pos h (Nat.pow_pos (by decide))
  omega
theorem gb_last {n p : Nat} (h : n < 128 ^ (p + 1)) : gb n p = n / 128 ^ p := by
  unfold gb; rw [if_pos (Nat.div_eq_of_lt h), Nat.mod_eq_of_lt]
  exact Nat.div_lt_of_lt_mul (by rw [← Nat.pow_succ]; exact h)
theorem gb_succ (n p : Nat) : gb n (p + 1) = gb (n / 128) p := by
  unfold gb
  rw [Nat.div_div_eq_div_mul, Nat.div_div_eq_div_mul, ← Nat.pow_succ', ← Nat.pow_succ']
def numS (n : Nat) : ByteArray := mkS (nlen n) (gb n)
theorem numS_size (n : Nat) : (numS n).size = nlen n := mkS_size _ _
theorem numS_bt {n p : Nat} (h : p < nlen n) : bt (numS n) p = gb n p := mkS_bt h (gb_lt _ _)
theorem numS_one {n : Nat} (h : n < 128) : numS n = mkS 1 fun _ => n := by
  unfold numS; rw [nlen_small h]
  exact mkS_congr fun p hp => by
    obtain rfl : p = 0 := by omega
    rw [gb_last (by simpa using h)]; simp
theorem numS_cons {n : Nat} (h : 128 ≤ n) : numS n = (mkS 1 fun _ => 128 + n % 128) ++ numS (n / 128) := by
  have hz : (numS n).size = ((mkS 1 fun _ => 128 + n % 128) ++ numS (n / 128)).size := by rw [ByteArray.size_append, mkS_size, numS_size, numS_size, nlen_step h]; omega
  apply ext_bt hz
  intro p hp
  rw [numS_size] at hp
  rw [numS_bt hp, bt_append, mkS_size]
  by_cases c : p < 1
  · obtain rfl : p = 0 := by omega
    rw [if_pos c, mkS_bt c (by omega), gb_more (by simpa using h)]
    simp; omega
  · rw [if_neg c]
    rw [nlen_step h] at hp
    rw [numS_bt (by omega), ← gb_succ]; congr 1; omega
theorem nlen_top {n : Nat} (h : n < 72057594037927936) : nlen n ≤ 8 := nlen_le (k := 7) (by simpa using h)
/-- the number of k groups -/
def val (f : Nat → Nat) : Nat → Nat
  | 0 => 0
  | k + 1 => val f k + f k % 128 * 128 ^ k
theorem val_lt (f : Nat → Nat) : ∀ k, val f k < 128 ^ k
  | 0 => by simp [val]
  | k + 1 => by
    have h := val_lt f k
    have : f k % 128 * 128 ^ k ≤ 127 * 128 ^ k := Nat.mul_le_mul_right _ (by omega)
    rw [val, Nat.pow_succ]; omega
theorem val_mod {f : Nat → Nat} {n : Nat} : ∀ {k : Nat}, (∀ p, p < k → f p % 128 = n / 128 ^ p % 128) → val f k = n % 128 ^ k
  | 0, _ => by simp [val, Nat.mod_one]
  | k + 1, h => by
    rw [val, val_mod (k := k) fun p hp => h p (by omega), h k (by omega), Nat.pow_succ, Nat.mod_mul, Nat.mul_comm]
theorem val_div {f : Nat → Nat} : ∀ {k p : Nat}, p < k → val f k / 128 ^ p % 128 = f p % 128
  | k + 1, p, h => by
    rw [val]
    by_cases c : p < k
    · have ih := val_div (f := f) c
      obtain ⟨d, rfl⟩ : ∃ d, k = p + 1 + d := ⟨k - (p + 1), by omega⟩
      rw [show f (p + 1 + d) % 128 * 128 ^ (p + 1 + d) = 128 ^ p * (128 * (f (p + 1 + d) % 128 * 128 ^ d)) by
        rw [Nat.pow_add, Nat.pow_succ]; simp only [Nat.mul_left_comm, Nat.mul_comm, Nat.mul_assoc]]
      rw [Nat.add_mul_div_left _ _ (Nat.pow_pos (by decide)), Nat.add_mul_mod_self_left, ih]
    · obtain rfl : p = k := by omega
      rw [Nat.mul_comm, Nat.add_mul_div_left _ _ (Nat.pow_pos (by decide)), Nat.div_eq_of_lt (val_lt f p)]
      omega
theorem val_congr {f g : Nat → Nat} : ∀ {k : Nat}, (∀ p, p < k → f p = g p) → val f k = val g k
  | 0, _ => rfl
  | k + 1, h => by rw [val, val, val_congr (k := k) fun p hp => h p (by omega), h k (by omega)]
theorem val_gb (n : Nat) : val (gb n) (nlen n) = n := by
  rw [val_mod (n := n) fun p _ => gb_mod n p, Nat.mod_eq_of_lt (nlen_lt n)]
/-- bytes that end are those of their number -/
theorem val_back {f : Nat → Nat} {k : Nat} (hm : ∀ j, j < k → 128 ≤ f j) (hb : ∀ j, f j < 256) (hl : f k < 128) (h0 : k = 0 ∨ f k ≠ 0) : nlen (val f (k + 1)) = k + 1 ∧ ∀ p, p < k + 1 → gb (val f (k + 1)) p = f p := by
  have hlt := val_lt f (k + 1)
  have hge : k = 0 ∨ 128 ^ k ≤ val f (k + 1) := by
    rcases h0 with h | h
    · exact .inl h
    · right; rw [val, Nat.mod_eq_of_lt hl]
      have : 1 * 128 ^ k ≤ f k * 128 ^ k := Nat.mul_le_mul_right _ (by omega)
      omega
  have hn : nlen (val f (k + 1)) = k + 1 := by
    have h1 := nlen_le hlt
    have h2 := nlen_pos (val f (k + 1))
    have h3 := nlen_lt (val f (k + 1))
    rcases hge with h | h
    · omega
    · by_cases c : nlen (val f (k + 1)) = k + 1
      · exact c
      · have : 128 ^ nlen (val f (k + 1)) ≤ 128 ^ k := Nat.pow_le_pow_right (by decide) (by omega)
        omega
  refine ⟨hn, fun p hp => ?_⟩
  have hd := val_div (f := f) hp
  by_cases c : p < k
  · rw [gb_more (nlen_ge (by omega)), hd]
    have := hm p c
    have := hb p
    omega
  · obtain rfl : p = k := by omega
    unfold gb
    rw [if_pos (Nat.div_eq_of_lt hlt), hd, Nat.mod_eq_of_lt hl]
/-- the first of eight bytes that ends a number -/
def stopF (f : Nat → Nat) : Nat → Nat → Nat
  | 0, i => i
  | k + 1, i => if f i < 128 then i else stopF f k (i + 1)
def stop (f : Nat → Nat) : Nat := stopF f 8 0
theorem stopF_spec (f : Nat → Nat) : ∀ k i, i ≤ stopF f k i ∧ stopF f k i ≤ i + k ∧ (∀ j, i ≤ j → j < stopF f k i → 128 ≤ f j) ∧ (stopF f k i < i + k → f (stopF f k i) < 128)
  | 0, i => by simp only [stopF]; exact ⟨by omega, by omega, fun j h1 h2 => by omega, fun h => by omega⟩
  | k + 1, i => by
    simp only [stopF]
    by_cases c : f i < 128
    · rw [if_pos c]; exact ⟨by omega, by omega, fun j h1 h2 => by omega, fun _ => c⟩
    · rw [if_neg c]
      obtain ⟨h1, h2, h3, h4⟩ := stopF_spec f k (i + 1)
      refine ⟨by omega, by omega, fun j hj1 hj2 => ?_, fun h => h4 (by omega)⟩
      by_cases e : j = i
      · subst e; omega
      · exact h3 j (by omega) hj2
theorem stop_le (f : Nat → Nat) : stop f ≤ 8 := by have := (stopF_spec f 8 0).2.1; unfold stop; omega
theorem stop_more {f : Nat → Nat} {j : Nat} (h : j < stop f) : 128 ≤ f j := (stopF_spec f 8 0).2.2.1 j (Nat.zero_le _) h
theorem stop_end {f : Nat → Nat} (h : stop f < 8) : f (stop f) < 128 := (stopF_spec f 8 0).2.2.2 (by unfold stop at h; omega)
theorem stop_eq {f : Nat → Nat} {k : Nat} (h8 : k ≤ 8) (hm : ∀ j, j < k → 128 ≤ f j) (hl : k < 8 → f k < 128) : stop f = k := by
  have h1 := stop_le f
  rcases Nat.lt_trichotomy (stop f) k with h | h | h
  · have := hm _ h; have := stop_end (f := f) (by omega); omega
  · exact h
  · have := stop_more h; have := hl (by omega); omega
theorem stop_size (s : ByteArray) : stop (bt s) ≤ s.size := by
  by_cases h : s.size < stop (bt s)
  · have := stop_more h; rw [bt_out (Nat.le_refl _)] at this; omega
  · omega
/-- the error of a number at the begin of s -/
def rE (s : ByteArray) : Nat := if stop (bt s) = 8 then 4 else if stop (bt s) = s.size then 3 else if bt s (stop (bt s)) = 0 ∧ 0 < stop (bt s) then 4 else 0
def rN (s : ByteArray) : Nat := if rE s = 0 then val (bt s) (stop (bt s) + 1) else 0
def rR (s : ByteArray) : ByteArray := if rE s = 0 then s.extract (stop (bt s) + 1) s.size else ByteArray.empty
def tE (s : ByteArray) : Nat := if rE s ≠ 0 then rE s else if (rR s).size < rN s then 3 else 0
def tT (s : ByteArray) : ByteArray := if tE s = 0 then (rR s).extract 0 (rN s) else ByteArray.empty
def tR (s : ByteArray) : ByteArray := if tE s = 0 then (rR s).extract (rN s) (rR s).size else ByteArray.empty
def nE (s : ByteArray) : Nat := if s.size = 0 then 0 else 4
theorem rE_ok {s : ByteArray} (h : rE s = 0) : stop (bt s) < 8 ∧ stop (bt s) < s.size ∧ (stop (bt s) = 0 ∨ bt s (stop (bt s)) ≠ 0) := by
  unfold rE at h
  have h1 := stop_le (bt s)
  have h2 := stop_size s
  by_cases a : stop (bt s) = 8
  · rw [if_pos a] at h; cases h
  rw [if_neg a] at h
  by_cases b : stop (bt s) = s.size
  · rw [if_pos b] at h; cases h
  rw [if_neg b] at h
  by_cases c : bt s (stop (bt s)) = 0 ∧ 0 < stop (bt s)
  · rw [if_pos c] at h; cases h
  refine ⟨by omega, by omega, ?_⟩
  by_cases d : stop (bt s) = 0
  · exact .inl d
  · exact .inr fun e => c ⟨e, by omega⟩
theorem rE_cases (s : ByteArray) : rE s = 0 ∨ rE s = 3 ∨ rE s = 4 := by unfold rE; split; simp; split; simp; split <;> simp
theorem rN_lt (s : ByteArray) : rN s < 72057594037927936 := by
  unfold rN; split
  · next h =>
    have h1 := val_lt (bt s) (stop (bt s) + 1)
    have h2 : 128 ^ (stop (bt s) + 1) ≤ 128 ^ 8 := Nat.pow_le_pow_right (by decide) (by have := (rE_ok h).1; omega)
    omega
  · decide
theorem rR_size (s : ByteArray) : (rR s).size ≤ s.size := by
  unfold rR; split
  · rw [ByteArray.size_extract]; omega
  · exact Nat.zero_le _
theorem tR_size (s : ByteArray) : (tR s).size ≤ s.size := by
  unfold tR; split
  · rw [ByteArray.size_extract]; have := rR_size s; omega
  · exact Nat.zero_le _
/-- what is read is what was written -/
theorem rd_num {n : Nat} (t : ByteArray) (h : n < 72057594037927936) : stop (bt (numS n ++ t)) + 1 = nlen n ∧ rE (numS n ++ t) = 0 ∧ rN (numS n ++ t) = n ∧ rR (numS n ++ t) = t := by
  have h8 := nlen_top h
  have hp := nlen_pos n
  have hb : ∀ p, p < nlen n → bt (numS n ++ t) p = gb n p := fun p hp => by rw [bt_append, numS_size, if_pos hp, numS_bt hp]
  have hlast : gb n (nlen n - 1) = n / 128 ^ (nlen n - 1) := gb_last (by rw [show nlen n - 1 + 1 = nlen n by omega]; exact nlen_lt n)
  have hlt : gb n (nlen n - 1) < 128 := by
    rw [hlast]; exact Nat.div_lt_of_lt_mul (by rw [← Nat.pow_succ, show (nlen n - 1).succ = nlen n by omega]; exact nlen_lt n)
  have hst : stop (bt (numS n ++ t)) = nlen n - 1 := by
    refine stop_eq (by omega) (fun j hj => ?_) fun _ => ?_
    · rw [hb j (by omega), gb_more (nlen_ge (by omega))]; omega
    · rw [hb _ (by omega)]; exact hlt
  have hsz : (numS n ++ t).size = nlen n + t.size := by rw [ByteArray.size_append, numS_size]
  have hE : rE (numS n ++ t) = 0 := by
    unfold rE
    rw [hst, if_neg (by omega), if_neg (by omega), if_neg]
    rintro ⟨e, c⟩
    rw [hb _ (by omega), hlast] at e
    have := nlen_ge (n := n) (j := nlen n - 2) (by omega)
    rw [show nlen n - 2 + 1 = nlen n - 1 by omega] at this
    have := Nat.div_pos this (Nat.pow_pos (by decide))
    omega
  refine ⟨by omega, hE, ?_, ?_⟩
  · unfold rN
    rw [if_pos hE, hst, show nlen n - 1 + 1 = nlen n by omega, val_congr (g := gb n) hb, val_gb]
  · unfold rR
    rw [if_pos hE, hst, show nlen n - 1 + 1 = (numS n).size by rw [numS_size]; omega, ext_tail]
def textS (s : ByteArray) : ByteArray := numS s.size ++ s
theorem app_assoc (a b c : ByteArray) : a ++ b ++ c = a ++ (b ++ c) := by
  apply ext_bt (by simp only [ByteArray.size_append]; omega)
  intro p _
  simp only [bt_append, ByteArray.size_append]
  by_cases h1 : p < a.size
  · rw [if_pos (by omega), if_pos h1, if_pos h1]
  · rw [if_neg h1, if_neg h1]
    by_cases h2 : p < a.size + b.size
    · rw [if_pos h2, if_pos (by omega)]
    · rw [if_neg h2, if_neg (by omega)]; congr 1; omega
theorem app_nil (a : ByteArray) : a ++ ByteArray.empty = a := by
  apply ext_bt (by simp only [ByteArray.size_append]; rfl)
  intro p hp
  rw [bt_append, if_pos]; simpa using hp
theorem nil_app (a : ByteArray) : ByteArray.empty ++ a = a := by
  apply ext_bt (by rw [ByteArray.size_append, show ByteArray.empty.size = 0 from rfl]; omega)
  intro p hp
  rw [bt_append, if_neg (by rw [show ByteArray.empty.size = 0 from rfl]; omega)]; rfl
theorem rd_text {s : ByteArray} (t : ByteArray) (h : s.size < 72057594037927936) : tE (textS s ++ t) = 0 ∧ tT (textS s ++ t) = s ∧ tR (textS s ++ t) = t := by
  have e : textS s ++ t = numS s.size ++ (s ++ t) := app_assoc _ _ _
  obtain ⟨_, h1, h2, h3⟩ := rd_num (n := s.size) (s ++ t) h
  rw [← e] at h1 h2 h3
  have hE : tE (textS s ++ t) = 0 := by
    unfold tE; rw [if_neg (by omega), h2, h3, if_neg (by rw [ByteArray.size_append]; omega)]
  refine ⟨hE, ?_, ?_⟩
  · unfold tT; rw [if_pos hE, h2, h3, ext_head]
  · unfold tR; rw [if_pos hE, h2, h3, ext_tail]
/-- a number's bytes without their end are cut -/
theorem cut_num {n k : Nat} (h : n < 72057594037927936) (hk : k < nlen n) : rE ((numS n).extract 0 k) = 3 := by
  have h8 := nlen_top h
  have hz : ((numS n).extract 0 k).size = k := by rw [ByteArray.size_extract, numS_size]; omega
  have hst : stop (bt ((numS n).extract 0 k)) = k := by
    refine stop_eq (by omega) (fun j hj => ?_) fun _ => ?_
    · rw [bt_extract _ _ _ _ (by omega) (by rw [numS_size]; omega), Nat.zero_add, numS_bt (by omega), gb_more (nlen_ge (by omega))]; omega
    · rw [bt_out (by omega)]; decide
  unfold rE
  rw [hst, if_neg (by omega), if_pos hz.symm]
theorem cut_text {s : ByteArray} {k : Nat} (h : s.size < 72057594037927936) (hk : k < (textS s).size) : tE ((textS s).extract 0 k) = 3 := by
  have hz : (textS s).size = nlen s.size + s.size := by unfold textS; rw [ByteArray.size_append, numS_size]
  by_cases c : k < nlen s.size
  · have e : (textS s).extract 0 k = (numS s.size).extract 0 k := by
      have h1 : ((textS s).extract 0 k).size = k := by rw [ByteArray.size_extract]; omega
      apply ext_bt (by rw [h1, ByteArray.size_extract, numS_size]; omega)
      intro p hp
      rw [h1] at hp
      rw [bt_extract _ _ _ _ (by omega) (by omega), bt_extract _ _ _ _ (by omega) (by rw [numS_size]; omega), textS, bt_append, numS_size, if_pos (by omega)]
    unfold tE
    rw [e, cut_num h c, if_pos (by decide)]
  · have e : (textS s).extract 0 k = numS s.size ++ s.extract 0 (k - nlen s.size) := by
      have h1 : ((textS s).extract 0 k).size = k := by rw [ByteArray.size_extract]; omega
      apply ext_bt (by rw [h1, ByteArray.size_append, ByteArray.size_extract, numS_size]; omega)
      intro p hp
      rw [h1] at hp
      rw [bt_extract _ _ _ _ (by omega) (by omega), Nat.zero_add, textS, bt_append, bt_append, numS_size]
      by_cases d : p < nlen s.size
      · rw [if_pos d, if_pos d]
      · rw [if_neg d, if_neg d, bt_extract _ _ _ _ (by omega) (by omega), Nat.zero_add]
    obtain ⟨_, h1, h2, h3⟩ := rd_num (n := s.size) (s.extract 0 (k - nlen s.size)) h
    unfold tE
    rw [e, if_neg (by omega), h2, h3, if_pos (by rw [ByteArray.size_extract]; omega)]
/-- no other bytes are read -/
theorem once_num (s : ByteArray) : (rE s = 0 ∧ (rR s).size = 0) ↔ numS (rN s) = s := by
  constructor
  · rintro ⟨h, hr⟩
    obtain ⟨h1, h2, h3⟩ := rE_ok h
    have hz : s.size = stop (bt s) + 1 := by
      unfold rR at hr; rw [if_pos h, ByteArray.size_extract] at hr; omega
    obtain ⟨hn, hg⟩ := val_back (f := bt s) (k := stop (bt s)) (fun j hj => stop_more hj) (bt_lt s) (stop_end h1) h3
    unfold rN
    rw [if_pos h]
    apply ext_bt (by rw [numS_size, hn, hz])
    intro p hp
    rw [numS_size] at hp
    rw [numS_bt hp, hg p (by omega)]
  · intro e
    obtain ⟨_, h1, _, h3⟩ := rd_num (n := rN s) ByteArray.empty (rN_lt s)
    rw [app_nil, e] at h1 h3
    exact ⟨h1, by rw [h3]; rfl⟩
theorem num_begin {n m : Nat} (hn : n < 72057594037927936) (hm : m < 72057594037927936) (hz : (numS n).size ≤ (numS m).size) (h : (numS m).extract 0 (numS n).size = numS n) : n = m := by
  have e := ext_join (numS m) (numS n).size hz
  rw [h] at e
  have h1 := (rd_num ((numS m).extract (numS n).size (numS m).size) hn).2.2.1
  have h2 := (rd_num ByteArray.empty hm).2.2.1
  rw [e] at h1
  rw [app_nil] at h2
  omega
theorem text_begin {a b : ByteArray} (ha : a.size < 72057594037927936) (hb : b.size < 72057594037927936) (hz : (textS a).size ≤ (textS b).size) (h : (textS b).extract 0 (textS a).size = textS a) : a = b := by
  have e := ext_join (textS b) (textS a).size hz
  rw [h] at e
  have h1 := (rd_text ((textS b).extract (textS a).size (textS b).size) ha).2.1
  have h2 := (rd_text ByteArray.empty hb).2.1
  rw [e] at h1
  rw [app_nil] at h2
  rw [← h1, h2]
end Go.Proofs.YtlpibpkbgmcclaaDoor
namespace Go.Proofs.YtlpibpkbgmcclaaDoor
open Go.RowKit
/-- a store into a block of cells -/
theorem block_setCell {w : World} {b i : Nat} {c : Array Value} {t : TypeId} (u : Value) (h : w.heap[b]? = some (.cells c t (0, 0))) :
    (w.setCell ⟨b, i, none⟩ u).heap[b]? = some (.cells (c.setIfInBounds i u) t (0, 0)) := by
  have hlt := lt_of_block h
  have h' : w.heap[b] = .cells c t (0, 0) := by simpa [Array.getElem?_eq_getElem hlt] using h
  show (w.heap.modify b _)[b]? = _
  rw [Array.getElem?_eq_getElem (by simpa using hlt), Array.getElem_modify_self, h']
  rfl
theorem free_of_block {w : World} {b i : Nat} {c : Array Value} {t : TypeId} (h : w.heap[b]? = some (.cells c t (0, 0))) : w.frozen? ⟨b, i, none⟩ = false := by simp [World.frozen?, h]
theorem cell_of_block {w : World} {b i : Nat} {c : Array Value} {t : TypeId} (h : w.heap[b]? = some (.cells c t (0, 0))) : w.cell? ⟨b, i, none⟩ = c[i]? := by simp [World.cell?, h]
/-- n one-cell values in a block of their own -/
def fnC (n : Nat) (g : Nat → Value) : Array Value := Array.ofFn (n := n) fun i => g i.val
theorem fnC_size (n : Nat) (g : Nat → Value) : (fnC n g).size = n := by simp [fnC]
theorem fnC_at {n : Nat} (g : Nat → Value) {p : Nat} (hp : p < n) : (fnC n g)[p]? = some (g p) := by simp [fnC, hp]
theorem fnC_none {n : Nat} (g : Nat → Value) {p : Nat} (hp : ¬ p < n) : (fnC n g)[p]? = none := by simp [fnC, hp]
theorem fnC_set {n : Nat} (g : Nat → Value) (p : Nat) (x : Value) : (fnC n g).setIfInBounds p x = fnC n (fun q => if q = p then x else g q) := by
  apply Array.ext_getElem?
  intro i
  rw [Array.getElem?_setIfInBounds, fnC_size]
  by_cases hi : i < n
  · rw [fnC_at _ hi, fnC_at _ hi]
    by_cases e : p = i
    · subst e; rw [if_pos rfl, if_pos hi, if_pos rfl]
    · rw [if_neg e, if_neg (fun h => e h.symm)]
  · rw [fnC_none _ hi, fnC_none _ hi]
    by_cases e : p = i
    · rw [if_pos e, if_neg (by omega)]
    · rw [if_neg e]
theorem fnC_congr {n : Nat} {g g' : Nat → Value} (e : ∀ p, p < n → g p = g' p) : fnC n g = fnC n g' := by
  unfold fnC; congr 1; funext i; rw [e i.val i.isLt]
theorem fnC_made (n : Nat) (z : Value) : madeCells #[z] n = fnC n (fun _ => z) := by
  apply Array.ext
  · simp [fnC, size_madeCells]
  · intro i h1 h2
    simp [madeCells, fnC, Nat.mod_one]
theorem fnC_rep (n : Nat) (z : Value) : Array.replicate n z = fnC n (fun _ => z) := by
  apply Array.ext
  · simp [fnC]
  · intro i h1 h2
    simp [fnC]
theorem fnC_one {n : Nat} {g : Nat → Value} (h : ∀ p, p < n → (g p).oneCell' = true) : (fnC n g).all (·.oneCell') = true := by
  rw [Array.all_eq_true]
  intro i hi
  have hi' : i < n := by simpa [fnC] using hi
  simpa [fnC] using h i hi'
def FnAt (w : World) (b : Nat) (t : TypeId) (n : Nat) (g : Nat → Value) : Prop := w.heap[b]? = some (.cells (fnC n g) t (0, 0))
theorem FnAt.cell {w : World} {b : Nat} {t : TypeId} {n : Nat} {g : Nat → Value} (h : FnAt w b t n g) {p : Nat} (hp : p < n) : w.cell? ⟨b, p, none⟩ = some (g p) := (cell_of_block h).trans (fnC_at g hp)
theorem FnAt.free {w : World} {b : Nat} {t : TypeId} {n : Nat} {g : Nat → Value} (h : FnAt w b t n g) (p : Nat) : w.frozen? ⟨b, p, none⟩ = false := free_of_block h
theorem FnAt.set {w : World} {b : Nat} {t : TypeId} {n : Nat} {g : Nat → Value} (h : FnAt w b t n g) (p : Nat) (x : Value) : FnAt (w.setCell ⟨b, p, none⟩ x) b t n (fun q => if q = p then x else g q) := by
  unfold FnAt; rw [block_setCell _ h, fnC_set]
theorem FnAt.congr {w : World} {b : Nat} {t : TypeId} {n : Nat} {g g' : Nat → Value} (h : FnAt w b t n g) (e : ∀ p, p < n → g p = g' p) : FnAt w b t n g' := by
  unfold FnAt at *; rw [h, fnC_congr e]
theorem FnAt.other {w : World} {b : Nat} {t : TypeId} {n : Nat} {g : Nat → Value} (h : FnAt w b t n g) {a : Addr} (hne : b ≠ a.block) (u : Value) : FnAt (w.setCell a u) b t n g := by
  unfold FnAt at *; rw [Below.heap_setCell _ _ _ _ hne]; exact h
theorem FnAt.alloc {w : World} {b : Nat} {t : TypeId} {n : Nat} {g : Nat → Value} (h : FnAt w b t n g) (o : Obj) : FnAt (w.alloc o) b t n g := by
  unfold FnAt at *; rw [Below.heap_alloc _ _ _ (lt_of_block h)]; exact h
theorem FnAt.below {w w' : World} {b B : Nat} {t : TypeId} {n : Nat} {g : Nat → Value} (h : FnAt w b t n g) (hb : Below B w w') (hB : b < B) : FnAt w' b t n g := by
  unfold FnAt at *; rw [hb.block b hB]; exact h
theorem FnAt.drewN {w : World} {b : Nat} {t : TypeId} {n : Nat} {g : Nat → Value} (h : FnAt w b t n g) (k : Nat) : FnAt (w.drewN k) b t n g := h
theorem FnAt.lt {w : World} {b : Nat} {t : TypeId} {n : Nat} {g : Nat → Value} (h : FnAt w b t n g) : b < w.heap.size := lt_of_block h
theorem FnAt.put {w : World} {b : Nat} {t : TypeId} {n : Nat} {g : Nat → Value} (h : FnAt w b t n g) (g' : Nat → Value) : FnAt (w.setRow b (fnC n g')) b t n g' := setRow_heap w b _ _ _ _ h
theorem FnAt.putOther {w : World} {b c : Nat} {t : TypeId} {n : Nat} {g : Nat → Value} (h : FnAt w b t n g) (hne : b ≠ c) (cs : Array Value) : FnAt (w.setRow c cs) b t n g := by
  unfold FnAt at *; rw [setRow_other _ _ _ _ hne]; exact h
end Go.Proofs.YtlpibpkbgmcclaaDoor
namespace Go.Proofs.YtlpibpkbgmcclaaDoor
open Go.RowKit
/-- append to a row of the call's own, as one step of a region that draws its order -/
theorem step_append_own {P : Program} {ops : Array Oper} {o : Oper} {a : Act} {w : World} {K : Act → World → Prop} {Q : Exit → Act → World → Prop} {E : Prop} (hg : o.guard = none) (s x : Operand) (t : TypeId)
    (ho : o.op = .call { callee := .builtin .append, args := #[s, x], argTypes := #[t, t] })
    (base : Nat) (e : TypeId) (i : TypeInfo) (z : Value) (size bytes : Nat) (ht : P.underlying t = some (.slice e)) (hi : P.info? e = some i) (hz : i.zero = some z)
    (hsize : i.size = size) (hby : i.bytes = bytes) (hzs : z.cells.size = size) (hsz : 0 < size)
    (v : Value) (n : Nat) (xs : List Value) (hs : a.eval s = v) (hown : w.ownsRow base e size v n xs)
    (ad : Addr) (m c : Nat) (news : List Value) (hx : a.eval x = .slice (some ad) m c) (hl : news.length = m * size) (hnews : ∀ j u, news[j]? = some u → w.cell? (ad.add j) = some u) (h1 : ∀ u ∈ news, u.oneCell' = true)
    (h63 : n + m ≤ maxLen) (hbytes : (n + m) * bytes ≤ 140737488355328) (hbase : base ≤ w.heap.size)
    (h : ∀ v' w', w'.ownsRow base e size v' (n + m) (xs ++ news) → w.grownBy w' v.ownBlock → (v' = .slice none 0 0 ↔ v = .slice none 0 0 ∧ m = 0) → K (a.put o.dst v') w') :
    if Region.wanted o (yielded ops a.tmps) = true then Oper.wp P o a w K Q else E := by
  rw [if_pos (by simp [Region.wanted, hg])]
  exact wp_append_own w s x t ho base e i z size bytes ht hi hz hsize hby hzs hsz v n xs hs hown ad m c news hx hl hnews h1 h63 hbytes hbase h
theorem own_drew {w : World} {base : Nat} {e : TypeId} {v : Value} {n : Nat} {xs : List Value} (h : w.ownsRow base e 1 v n xs) : w.drew.ownsRow base e 1 v n xs := h
theorem row_base {W : World} {base : Nat} {e : TypeId} {size : Nat} {v : Value} {n : Nat} {xs : List Value} (h : W.ownsRow base e size v n xs) {g : Nat} (hg : v.ownBlock = some g) : base ≤ g := by
  rcases h.2 with ⟨rfl, _⟩ | ⟨g', cap, cur, rfl, hb, _⟩
  · cases hg
  · cases hg; exact hb
/-- the first k bytes, as cells -/
def bys (f : Nat → Nat) (k : Nat) : List Value := (List.range k).map fun p => .int .u8 ((f p : Nat) : Int)
theorem bys_succ (f : Nat → Nat) (k : Nat) : bys f (k + 1) = bys f k ++ [.int .u8 ((f k : Nat) : Int)] := by unfold bys; rw [List.range_succ, List.map_append]; rfl
theorem bys_len (f : Nat → Nat) (k : Nat) : (bys f k).length = k := by simp [bys]
theorem conv_nil (w : World) (f : Nat → Nat) : (convert 48 9 (.slice none 0 0)).run Tryd.prog w = .ok (.string (mkS 0 f)) w := by
  have : mkS 0 f = ByteArray.empty := rfl
  rw [this]
  simp [convert, Conv.bytesToString, run_underlying Tryd.underlying48, run_underlying Tryd.underlying9]
theorem own_string {w : World} {base : Nat} {v : Value} {L : Nat} {f : Nat → Nat} (h : w.ownsRow base 5 1 v L (bys f L)) : (convert 48 9 v).run Tryd.prog w = .ok (.string (mkS L f)) w := by
  obtain ⟨hl, ⟨rfl, rfl⟩ | ⟨g, cap, cur, rfl, hb, hg, hc, hm, hs, ht⟩⟩ := h
  · exact conv_nil w f
  · refine run_convert_bytes_arg w 48 5 Tryd.underlying48 Tryd.underlying5 g 0 L cap _ (by simp) (fun i hi => ?_) 9 Tryd.underlying9
    rw [Nat.zero_add, cell_of_block hg]
    have h1 : (cur.toList.take (L * 1))[i]? = (bys f L)[i]? := by rw [ht]
    rw [List.getElem?_take, if_pos (by omega)] at h1
    simp [bys, hi] at h1
    rw [h1]
    simp [hi]
theorem u8_info : (Tryd.prog.info? 5).map (fun i => (i.zero, i.size, i.bytes)) = some (some (.int .u8 0), 1, 1) := by kernel_rfl
/-- make([]byte, 0, c): nothing yet, in a block of its own -/
theorem make_room (c : Nat) (h : c ≤ 1000000) (w : World) : (Instr.makeSlice 48 (.int .i64 0) (.int .i64 (c : Int))).run Tryd.prog w = .ok (.slice (some ⟨w.heap.size, 0, none⟩) 0 c) (w.alloc (.cells (fnC c fun _ => .int .u8 0) 5)) := by
  obtain ⟨i0, hi, hz0, hz1, hz2⟩ := info_parts u8_info
  have h := run_make (P := Tryd.prog) w 48 5 i0 (.int .u8 0) Tryd.underlying48 hi hz0 .i64 .i64 0 c (by omega) (by omega) (by rw [hz2]; omega) (by omega)
  rw [hz1] at h
  rw [h]
  simp only [Int.toNat_natCast, Nat.mul_one]
  rw [show (Value.int IntKind.u8 0).cells = #[.int .u8 0] from rfl, fnC_made]
  rfl
theorem room_own (c : Nat) (h : c ≤ 1000000) (w : World) (f : Nat → Nat) (B : Nat) (hB : B ≤ w.heap.size) : (w.alloc (.cells (fnC c fun _ => .int .u8 0) 5)).ownsRow B 5 1 (.slice (some ⟨w.heap.size, 0, none⟩) 0 c) 0 (bys f 0) :=
  ⟨rfl, .inr ⟨w.heap.size, c, _, rfl, hB, heap_alloc_new _ _, Nat.zero_le _, by unfold maxLen; omega, by rw [fnC_size]; omega, by simp [bys]⟩⟩
/-- a row of bytes that grows by one at a time, in a region that draws -/
def ByRel (w wr : World) (f : Nat → Nat) (v : Value) (k : Nat) : Prop := wr.ownsRow w.heap.size 5 1 v k (bys f k) ∧ Below w.heap.size w wr
theorem byRel_drew {w wr w1 : World} {f : Nat → Nat} {v v' : Value} {k x : Nat} {o : Obj} (h : ByRel w wr f v k) (hx : x = f k) (hown : w1.ownsRow w.heap.size 5 1 v' (k + 1) (bys f k ++ [.int .u8 (x : Int)])) (hgr : (wr.drew.alloc o).grownBy w1 v.ownBlock) : ByRel w w1 f v' (k + 1) := by
  refine ⟨by rw [bys_succ, ← hx]; exact hown, ?_⟩
  refine Below.grown (h.2.drew.alloc h.2.size o) hgr ?_ fun g hg => row_base h.1 hg
  rw [World.size_alloc]
  exact Nat.le_succ_of_le h.2.size
end Go.Proofs.YtlpibpkbgmcclaaDoor
namespace Go.Proofs.YtlpibpkbgmcclaaDoor
open Go.RowKit
/-- a slice of strings that reads as the list l -/
def StrsAt (w : World) (a : Option Addr) (l : List ByteArray) : Prop := l = [] ∨ ∃ b o, a = some ⟨b, o, none⟩ ∧ b < w.heap.size ∧ ∀ i s, l[i]? = some s → w.cell? ⟨b, o + i, none⟩ = some (.string s)
/-- what a law knows of a slice that came in -/
def Came (t : TypeId) (w : World) (a : Option Addr) (l c : Nat) : Prop := ∃ (H : Type) (enc : TypeId × Value → H) (d : DataW H) (ps : List MemPlace), DataW.Trod enc Tryd.prog w 0 (fun _ => true) true t (.slice a l c) d ps
theorem plain_addr {w : World} {a : Addr} {v : Value} (h : w.cell? (a.add 0) = some v) : a = ⟨a.block, a.off, none⟩ ∧ a.block < w.heap.size := by
  rw [show a.add 0 = a from rfl] at h
  unfold World.cell? at h
  split at h
  · next c _ _ e =>
    split at h
    · cases h
    · next hs =>
      refine ⟨?_, lt_of_block e⟩
      cases a with
      | mk b o s => cases s with
        | none => rfl
        | some _ => simp at hs
  · cases h
theorem add_plain (b o i : Nat) : (⟨b, o, none⟩ : Addr).add i = ⟨b, o + i, none⟩ := by
  unfold Addr.add
  split
  · next h => subst h; rfl
  · rfl
theorem came_strs {w : World} {a : Option Addr} {l c : Nat} (h : Came 30 w a l c) : ∃ ls : List ByteArray, ls.length = l ∧ l ≤ c ∧ l ≤ 9223372036854775807 ∧ StrsAt w a ls := by
  obtain ⟨H, enc, d, ps, fuel, hf⟩ := h
  rcases Go.ChangeShapes.open_strings Tryd.underlying30 Tryd.underlying9 (by kernel_rfl) hf with ⟨hcs, _⟩ | ⟨x, l', c', ss, hcs, _, hl, hm, hz, _, hcell, _⟩
  · simp [Value.cells] at hcs
    obtain ⟨rfl, rfl, rfl⟩ := hcs
    exact ⟨[], rfl, by omega, by omega, .inl rfl⟩
  · simp [Value.cells] at hcs
    obtain ⟨rfl, rfl, rfl⟩ := hcs
    simp only [if_true] at hz
    unfold maxLen at hm
    refine ⟨ss.take l, by rw [List.length_take]; omega, hl, by omega, ?_⟩
    by_cases h0 : l = 0
    · exact .inl (by subst h0; rfl)
    · obtain ⟨e, hb⟩ := plain_addr (hcell 0 (by omega))
      refine .inr ⟨x.block, x.off, by rw [← e], hb, fun i s hs => ?_⟩
      have hi : i < l := by have := (List.getElem?_eq_some_iff.1 hs).1; rw [List.length_take] at this; omega
      rw [List.getElem?_take, if_pos hi] at hs
      have := hcell i (by omega)
      rw [e, add_plain] at this
      rw [this, List.getD_eq_getElem?_getD, hs]; rfl
theorem StrsAt.below {w w' : World} {a : Option Addr} {l : List ByteArray} (h : StrsAt w a l) (hb : Below w.heap.size w w') : StrsAt w' a l := by
  rcases h with h | ⟨b, o, ha, hlt, hc⟩
  · exact .inl h
  · exact .inr ⟨b, o, ha, Nat.lt_of_lt_of_le hlt hb.size, fun i s hs => (hb.cell (p := ⟨b, o + i, none⟩) hlt).trans (hc i s hs)⟩
end Go.Proofs.YtlpibpkbgmcclaaDoor
