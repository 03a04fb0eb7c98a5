/- Records of the journal: what is written of them, what is read of any text. No walk stands here. Records read back from their texts; what any text's record is. No walk stands here. -/
import Derived.Test.YtonhmihmnkicdaaGreatRcKey
import Derived.Test.YtonhmihmnkicdaaGreatCrOf
namespace Go.Proofs.YtonhmihmnkicdaaGreat
set_option linter.unusedVariables false
/-- a record: its numbers, its volume's, its entry's, its key, its ends -/
structure Rc where
  seq : Int
  kind : Int
  vid : Int
  vgen : Int
  vlen : Int
  ls : List (Int × Int)
  ek : ByteArray
  ev : Int
  eo : Int
  el : Int
  ed : ByteArray
  k : ByteArray
  f : Int
  t : Int
theorem Rc.ext' {a b : Rc} (h1 : a.seq = b.seq) (h2 : a.kind = b.kind) (h3 : a.vid = b.vid) (h4 : a.vgen = b.vgen) (h5 : a.vlen = b.vlen) (h6 : a.ls = b.ls) (h7 : a.ek = b.ek) (h8 : a.ev = b.ev) (h9 : a.eo = b.eo) (h10 : a.el = b.el) (h11 : a.ed = b.ed) (h12 : a.k = b.k) (h13 : a.f = b.f) (h14 : a.t = b.t) : a = b := by
  cases a; cases b; simp at h1 h2 h3 h4 h5 h6 h7 h8 h9 h10 h11 h12 h13 h14; simp [h1, h2, h3, h4, h5, h6, h7, h8, h9, h10, h11, h12, h13, h14]
def eB : ByteArray := ByteArray.empty
def Rc.zero : Rc := ⟨0, 0, 0, 0, 0, [], ByteArray.empty, 0, 0, 0, ByteArray.empty, ByteArray.empty, 0, 0⟩
/-- a number may be -/
def numR (n : Int) : Prop := 0 ≤ n ∧ n ≤ 1099511627776
instance (n : Int) : Decidable (numR n) := by unfold numR; infer_instance
def locR (x : Int × Int) : Prop := (0 ≤ x.1 ∧ x.1 ≤ 11) ∧ (0 ≤ x.2 ∧ x.2 ≤ 47)
instance (x : Int × Int) : Decidable (locR x) := by unfold locR; infer_instance
def locsR (l : List (Int × Int)) : Prop := (∀ x ∈ l, locR x) ∧ (l.map Prod.fst).Nodup
instance (l : List (Int × Int)) : Decidable (locsR l) := by unfold locsR; infer_instance
/-- a volume may be -/
def volR (i g n : Int) (l : List (Int × Int)) : Prop := numR i ∧ numR g ∧ (0 ≤ n ∧ n ≤ 384) ∧ l.length = 9 ∧ locsR l
instance (i g n : Int) (l : List (Int × Int)) : Decidable (volR i g n l) := by unfold volR; infer_instance
def Rc.volOk (r : Rc) : Prop := volR r.vid r.vgen r.vlen r.ls
instance (r : Rc) : Decidable r.volOk := by unfold Rc.volOk; infer_instance
def Rc.sqOk (r : Rc) : Prop := (0 ≤ r.seq ∧ r.seq ≤ 63) ∧ (0 ≤ r.kind ∧ r.kind ≤ 3)
instance (r : Rc) : Decidable r.sqOk := by unfold Rc.sqOk; infer_instance
def inEn (v e o l n : Int) (d : Nat) : Prop := e = v ∧ 0 ≤ o ∧ 0 ≤ l ∧ l ≤ n - o ∧ d = 32
instance (v e o l n : Int) (d : Nat) : Decidable (inEn v e o l n d) := by unfold inEn; infer_instance
def Rc.inOk (r : Rc) : Prop := inEn r.vid r.ev r.eo r.el r.vlen r.ed.size
instance (r : Rc) : Decidable r.inOk := by unfold Rc.inOk; infer_instance
def endR (f t : Int) : Prop := numR f ∧ numR t ∧ f ≠ t
instance (f t : Int) : Decidable (endR f t) := by unfold endR; infer_instance
def Rc.endOk (r : Rc) : Prop := endR r.f r.t
instance (r : Rc) : Decidable r.endOk := by unfold Rc.endOk; infer_instance
def Rc.vZ (r : Rc) : Prop := r.vid = 0 ∧ r.vgen = 0 ∧ r.vlen = 0 ∧ r.ls = []
def Rc.eZ (r : Rc) : Prop := r.ek = ByteArray.empty ∧ r.ev = 0 ∧ r.eo = 0 ∧ r.el = 0 ∧ r.ed = ByteArray.empty
def Rc.kZ (r : Rc) : Prop := r.k = ByteArray.empty
def Rc.fZ (r : Rc) : Prop := r.f = 0 ∧ r.t = 0
/-- without what its kind has not -/
def Rc.alone (r : Rc) : Rc :=
  if r.kind = 0 then ⟨r.seq, r.kind, r.vid, r.vgen, r.vlen, r.ls, r.ek, r.ev, r.eo, r.el, r.ed, ByteArray.empty, 0, 0⟩
  else if r.kind = 1 then ⟨r.seq, r.kind, 0, 0, 0, [], ByteArray.empty, 0, 0, 0, ByteArray.empty, r.k, 0, 0⟩
  else if r.kind = 2 then ⟨r.seq, r.kind, r.vid, r.vgen, r.vlen, r.ls, ByteArray.empty, 0, 0, 0, ByteArray.empty, ByteArray.empty, 0, 0⟩
  else ⟨r.seq, r.kind, r.vid, r.vgen, r.vlen, r.ls, ByteArray.empty, 0, 0, 0, ByteArray.empty, ByteArray.empty, r.f, r.t⟩
open Classical in
/-- the error of a record whose numbers may be -/
noncomputable def ckK (r : Rc) : Int :=
  if r.kind = 0 then (if r.volOk then (if keyOk r.ek then (if r.inOk then 0 else 1) else 11) else 1)
  else if r.kind = 1 then (if keyOk r.k then 0 else 11)
  else if r.kind = 2 then (if r.volOk then 0 else 1)
  else (if r.volOk then (if r.endOk then 0 else 1) else 1)
open Classical in
/-- the error of a record -/
noncomputable def ckR (r : Rc) : Int := if r.sqOk then (if ckK r = 0 then (if r = r.alone then 0 else 1) else ckK r) else 1
theorem ckR_sq {r : Rc} (h : ¬ r.sqOk) : ckR r = 1 := by unfold ckR; rw [if_neg h]
theorem ckR_k {r : Rc} (h : r.sqOk) (hk : ckK r ≠ 0) : ckR r = ckK r := by unfold ckR; rw [if_pos h, if_neg hk]
theorem ckR_more {r : Rc} (h : r.sqOk) (hk : ckK r = 0) (ha : r ≠ r.alone) : ckR r = 1 := by unfold ckR; rw [if_pos h, if_pos hk, if_neg ha]
theorem ckR_ok {r : Rc} (h : r.sqOk) (hk : ckK r = 0) (ha : r = r.alone) : ckR r = 0 := by unfold ckR; rw [if_pos h, if_pos hk, if_pos ha]
theorem ckR_zero {r : Rc} : ckR r = 0 ↔ r.sqOk ∧ ckK r = 0 ∧ r = r.alone := by
  by_cases h : r.sqOk
  · by_cases hk : ckK r = 0
    · by_cases ha : r = r.alone
      · simp only [ckR_ok h hk ha]; exact ⟨fun _ => ⟨h, hk, ha⟩, fun _ => trivial⟩
      · rw [ckR_more h hk ha]; exact ⟨fun q => by omega, fun q => absurd q.2.2 ha⟩
    · rw [ckR_k h hk]; exact ⟨fun q => absurd q hk, fun q => absurd q.2.1 hk⟩
  · rw [ckR_sq h]; exact ⟨fun q => by omega, fun q => absurd q.1 h⟩
theorem kind_four {r : Rc} (h : r.sqOk) : r.kind = 0 ∨ r.kind = 1 ∨ r.kind = 2 ∨ r.kind = 3 := by have := h.2; omega
theorem ckK_0 {r : Rc} (h : r.kind = 0) : ckK r = 0 ↔ r.volOk ∧ keyOk r.ek ∧ r.inOk := by
  unfold ckK; rw [if_pos h]
  by_cases h1 : r.volOk
  · rw [if_pos h1]
    by_cases h2 : keyOk r.ek
    · rw [if_pos h2]
      by_cases h3 : r.inOk
      · rw [if_pos h3]; simp [h1, h2, h3]
      · rw [if_neg h3]; simp [h3]
    · rw [if_neg h2]; simp [h2]
  · rw [if_neg h1]; simp [h1]
theorem ckK_1 {r : Rc} (h : r.kind = 1) : ckK r = 0 ↔ keyOk r.k := by
  unfold ckK; rw [if_neg (by omega), if_pos h]
  by_cases h1 : keyOk r.k
  · rw [if_pos h1]; simp [h1]
  · rw [if_neg h1]; simp [h1]
theorem ckK_2 {r : Rc} (h : r.kind = 2) : ckK r = 0 ↔ r.volOk := by
  unfold ckK; rw [if_neg (by omega), if_neg (by omega), if_pos h]
  by_cases h1 : r.volOk
  · rw [if_pos h1]; simp [h1]
  · rw [if_neg h1]; simp [h1]
theorem ckK_3 {r : Rc} (h : r.kind = 3) : ckK r = 0 ↔ r.volOk ∧ r.endOk := by
  unfold ckK; rw [if_neg (by omega), if_neg (by omega), if_neg (by omega)]
  by_cases h1 : r.volOk
  · rw [if_pos h1]
    by_cases h2 : r.endOk
    · rw [if_pos h2]; simp [h1, h2]
    · rw [if_neg h2]; simp [h2]
  · rw [if_neg h1]; simp [h1]
/-- the bytes of places -/
def locB : List (Int × Int) → ByteArray
  | [] => ByteArray.empty
  | x :: l => numI x.1 ++ (numI x.2 ++ locB l)
theorem bapp (a b c : ByteArray) : a ++ b ++ c = a ++ (b ++ c) := ByteArray.append_assoc
theorem locB_snoc : ∀ (l : List (Int × Int)) (x : Int × Int), locB (l ++ [x]) = locB l ++ (numI x.1 ++ numI x.2)
  | [], x => by show numI x.1 ++ (numI x.2 ++ ByteArray.empty) = ByteArray.empty ++ _; rw [app_nil, nil_app]
  | y :: l, x => by
    show numI y.1 ++ (numI y.2 ++ locB (l ++ [x])) = (numI y.1 ++ (numI y.2 ++ locB l)) ++ (numI x.1 ++ numI x.2)
    rw [locB_snoc l x, bapp, bapp]
def volB (i g n : Int) (l : List (Int × Int)) : ByteArray := numI i ++ (numI g ++ (numI n ++ locB l))
/-- what stands behind the kind -/
def partB (r : Rc) : ByteArray :=
  if r.kind = 0 then volB r.vid r.vgen r.vlen r.ls ++ (textS r.ek ++ (numI r.eo ++ (numI r.el ++ r.ed)))
  else if r.kind = 1 then textS r.k
  else if r.kind = 2 then volB r.vid r.vgen r.vlen r.ls
  else volB r.vid r.vgen r.vlen r.ls ++ (numI r.f ++ numI r.t)
def innR (r : Rc) : ByteArray := numI r.seq ++ (numI r.kind ++ partB r)
def sSJ : ByteArray := ⟨#[83, 74]⟩
def bodyR (r : Rc) : ByteArray := sSJ ++ innR r
/-- the bytes of a record (none, if it may not be written) -/
noncomputable def wR (r : Rc) : ByteArray := if ckR r = 0 then sealS (bodyR r) else ByteArray.empty
def rest2 (t : ByteArray) : ByteArray := t.extract 2 t.size
/-- places, read one behind the other -/
def lcsR : Nat → ByteArray → ByteArray
  | 0, s => s
  | n + 1, s => rR (rR (lcsR n s))
def lcsT : Nat → ByteArray → List (Int × Int)
  | 0, _ => []
  | n + 1, s => lcsT n s ++ [(((rN (lcsR n s) : Nat) : Int), ((rN (rR (lcsR n s)) : Nat) : Int))]
theorem lcsT_len : ∀ n s, (lcsT n s).length = n
  | 0, _ => rfl
  | n + 1, s => by show (lcsT n s ++ [_]).length = n + 1; rw [List.length_append, lcsT_len n s]; rfl
theorem lcsR_shift : ∀ n s, lcsR (n + 1) s = lcsR n (rR (rR s))
  | 0, _ => rfl
  | n + 1, s => by show rR (rR (lcsR (n + 1) s)) = rR (rR (lcsR n (rR (rR s)))); rw [lcsR_shift n s]
theorem lcsT_shift : ∀ n s, lcsT (n + 1) s = (((rN s : Nat) : Int), ((rN (rR s) : Nat) : Int)) :: lcsT n (rR (rR s))
  | 0, _ => rfl
  | n + 1, s => by
    show lcsT (n + 1) s ++ [(((rN (lcsR (n + 1) s) : Nat) : Int), ((rN (rR (lcsR (n + 1) s)) : Nat) : Int))] = _
    rw [lcsT_shift n s, lcsR_shift n s]; rfl
theorem lcsR_size : ∀ n s, (lcsR n s).size ≤ s.size
  | 0, _ => Nat.le_refl _
  | n + 1, s => Nat.le_trans (rR_size _) (Nat.le_trans (rR_size _) (lcsR_size n s))
theorem num_in {n : Int} (h0 : 0 ≤ n) (h1 : n ≤ 1099511627776) : ∃ k : Nat, n = (k : Int) ∧ k < 72057594037927936 ∧ numI n = numS k := by
  obtain ⟨k, rfl⟩ := Int.eq_ofNat_of_zero_le h0
  exact ⟨k, rfl, by omega, numI_nat (by omega)⟩
/-- a number is read -/
theorem rd_numI {n : Int} (t : ByteArray) (h0 : 0 ≤ n) (h1 : n ≤ 1099511627776) : rE (numI n ++ t) = 0 ∧ ((rN (numI n ++ t) : Nat) : Int) = n ∧ rR (numI n ++ t) = t := by
  obtain ⟨k, e, l, h⟩ := num_in h0 h1
  obtain ⟨-, q1, q2, q3⟩ := rd_num t l
  rw [h, q2]
  exact ⟨q1, e.symm, q3⟩
theorem rd_locs : ∀ (l : List (Int × Int)) (t : ByteArray), (∀ x ∈ l, locR x) → lcsT l.length (locB l ++ t) = l ∧ lcsR l.length (locB l ++ t) = t ∧ ∀ i, i < l.length → rE (lcsR i (locB l ++ t)) = 0 ∧ rE (rR (lcsR i (locB l ++ t))) = 0
  | [], t, _ => ⟨rfl, by show ByteArray.empty ++ t = t; exact nil_app t, fun i h => by simp at h⟩
  | x :: l, t, h => by
    obtain ⟨⟨a0, a1⟩, b0, b1⟩ := h x (by simp)
    have e : locB (x :: l) ++ t = numI x.1 ++ (numI x.2 ++ (locB l ++ t)) := by
      show (numI x.1 ++ (numI x.2 ++ locB l)) ++ t = _
      rw [bapp, bapp]
    obtain ⟨p1, p2, p3⟩ := rd_numI (n := x.1) (numI x.2 ++ (locB l ++ t)) a0 (by omega)
    obtain ⟨q1, q2, q3⟩ := rd_numI (n := x.2) (locB l ++ t) b0 (by omega)
    obtain ⟨i1, i2, i3⟩ := rd_locs l t fun y hy => h y (by simp [hy])
    rw [e]
    refine ⟨?_, ?_, fun i hi => ?_⟩
    · rw [List.length_cons, lcsT_shift, p2, p3, q2, q3, i1]
    · rw [List.length_cons, lcsR_shift, p3, q3, i2]
    · match i, hi with
      | 0, _ => exact ⟨p1, by show rE (rR (numI x.1 ++ (numI x.2 ++ (locB l ++ t)))) = 0; rw [p3]; exact q1⟩
      | i + 1, hi =>
        rw [lcsR_shift, p3, q3]
        exact i3 i (by simpa using hi)
/-- what is read, by the kind -/
def tk0 (s : ByteArray) : Rc :=
  let u := rR (rR s)
  let v := lcsR 9 (rR (rR (rR u)))
  ⟨(rN s : Nat), (rN (rR s) : Nat), (rN u : Nat), (rN (rR u) : Nat), (rN (rR (rR u)) : Nat), lcsT 9 (rR (rR (rR u))), tT v, (rN u : Nat), (rN (tR v) : Nat), (rN (rR (tR v)) : Nat), rR (rR (tR v)), ByteArray.empty, 0, 0⟩
def tk1 (s : ByteArray) : Rc := ⟨(rN s : Nat), (rN (rR s) : Nat), 0, 0, 0, [], ByteArray.empty, 0, 0, 0, ByteArray.empty, tT (rR (rR s)), 0, 0⟩
def tk2 (s : ByteArray) : Rc :=
  let u := rR (rR s)
  ⟨(rN s : Nat), (rN (rR s) : Nat), (rN u : Nat), (rN (rR u) : Nat), (rN (rR (rR u)) : Nat), lcsT 9 (rR (rR (rR u))), ByteArray.empty, 0, 0, 0, ByteArray.empty, ByteArray.empty, 0, 0⟩
def tk3 (s : ByteArray) : Rc :=
  let u := rR (rR s)
  let v := lcsR 9 (rR (rR (rR u)))
  ⟨(rN s : Nat), (rN (rR s) : Nat), (rN u : Nat), (rN (rR u) : Nat), (rN (rR (rR u)) : Nat), lcsT 9 (rR (rR (rR u))), ByteArray.empty, 0, 0, 0, ByteArray.empty, ByteArray.empty, (rN v : Nat), (rN (rR v) : Nat)⟩
def tkX (s : ByteArray) : Rc := ⟨(rN s : Nat), (rN (rR s) : Nat), 0, 0, 0, [], ByteArray.empty, 0, 0, 0, ByteArray.empty, ByteArray.empty, 0, 0⟩
def tkR (s : ByteArray) : Rc := if rN (rR s) = 0 then tk0 s else if rN (rR s) = 1 then tk1 s else if rN (rR s) = 2 then tk2 s else if rN (rR s) = 3 then tk3 s else tkX s
/-- .. as the document reads -/
def tkQ (s : ByteArray) : Rc := if rN (rR s) = 0 then tk0 s else if rN (rR s) = 1 then tk1 s else if rN (rR s) = 3 then tk3 s else tk2 s
/-- what is left, then -/
def leftR (s : ByteArray) : ByteArray :=
  let u := rR (rR s)
  let v := lcsR 9 (rR (rR (rR u)))
  if rN (rR s) = 0 then ByteArray.empty else if rN (rR s) = 1 then tR u else if rN (rR s) = 3 then rR (rR v) else v
/-- all was there -/
def clnV (u : ByteArray) : Prop := rE u = 0 ∧ rE (rR u) = 0 ∧ rE (rR (rR u)) = 0 ∧ ∀ i, i < 9 → rE (lcsR i (rR (rR (rR u)))) = 0 ∧ rE (rR (lcsR i (rR (rR (rR u))))) = 0
def clnR (s : ByteArray) : Prop :=
  rE s = 0 ∧ rE (rR s) = 0 ∧
  (rN (rR s) = 1 → tE (rR (rR s)) = 0) ∧
  (rN (rR s) ≠ 1 → clnV (rR (rR s))) ∧
  (rN (rR s) = 0 → tE (lcsR 9 (rR (rR (rR (rR (rR s)))))) = 0 ∧ rE (tR (lcsR 9 (rR (rR (rR (rR (rR s))))))) = 0 ∧ rE (rR (tR (lcsR 9 (rR (rR (rR (rR (rR s)))))))) = 0) ∧
  (rN (rR s) = 3 → rE (lcsR 9 (rR (rR (rR (rR (rR s)))))) = 0 ∧ rE (rR (lcsR 9 (rR (rR (rR (rR (rR s))))))) = 0) ∧
  leftR s = ByteArray.empty
theorem rd_vol {i g n : Int} {l : List (Int × Int)} (t : ByteArray) (h : volR i g n l) : clnV (volB i g n l ++ t) ∧ ((rN (volB i g n l ++ t) : Nat) : Int) = i ∧ ((rN (rR (volB i g n l ++ t)) : Nat) : Int) = g ∧ ((rN (rR (rR (volB i g n l ++ t))) : Nat) : Int) = n ∧ lcsT 9 (rR (rR (rR (volB i g n l ++ t)))) = l ∧ lcsR 9 (rR (rR (rR (volB i g n l ++ t)))) = t := by
  obtain ⟨⟨a0, a1⟩, ⟨b0, b1⟩, ⟨c0, c1⟩, h9, hl⟩ := h
  have e : volB i g n l ++ t = numI i ++ (numI g ++ (numI n ++ (locB l ++ t))) := by unfold volB; rw [bapp, bapp, bapp]
  obtain ⟨p1, p2, p3⟩ := rd_numI (n := i) (numI g ++ (numI n ++ (locB l ++ t))) a0 a1
  obtain ⟨q1, q2, q3⟩ := rd_numI (n := g) (numI n ++ (locB l ++ t)) b0 b1
  obtain ⟨r1, r2, r3⟩ := rd_numI (n := n) (locB l ++ t) c0 (by omega)
  obtain ⟨i1, i2, i3⟩ := rd_locs l t hl.1
  rw [h9] at i1 i2 i3
  rw [e]
  unfold clnV
  rw [p3, q3, r3, p2, q2, r2]
  exact ⟨⟨p1, q1, r1, i3⟩, rfl, rfl, rfl, i1, i2⟩
theorem kind_nat {n : Nat} {k : Int} (h : ((n : Nat) : Int) = k) (c : Nat) : n = c ↔ k = (c : Int) := by omega
set_option maxHeartbeats 1000000 in
/-- what is written is read, and nothing is left -/
theorem inn_back {r : Rc} (h : ckR r = 0) : tkR (innR r) = r ∧ tkQ (innR r) = r ∧ clnR (innR r) := by
  obtain ⟨hs, hk, ha⟩ := ckR_zero.1 h
  obtain ⟨⟨s0, s1⟩, k0, k1⟩ := hs
  obtain ⟨a1, a2, a3⟩ := rd_numI (n := r.seq) (numI r.kind ++ partB r) s0 (by omega)
  obtain ⟨b1, b2, b3⟩ := rd_numI (n := r.kind) (partB r) k0 (by omega)
  have e1 : rE (innR r) = 0 := a1
  have e2 : ((rN (innR r) : Nat) : Int) = r.seq := a2
  have e3 : rR (innR r) = numI r.kind ++ partB r := a3
  have e4 : rR (rR (innR r)) = partB r := by rw [e3]; exact b3
  have e5 : ((rN (rR (innR r)) : Nat) : Int) = r.kind := by rw [e3]; exact b2
  have e6 : rE (rR (innR r)) = 0 := by rw [e3]; exact b1
  generalize innR r = s at *
  rcases kind_four ⟨⟨s0, s1⟩, k0, k1⟩ with hk0 | hk0 | hk0 | hk0
  · have n0 : rN (rR s) = 0 := by omega
    obtain ⟨hv, hkey, hin⟩ := (ckK_0 hk0).1 hk
    obtain ⟨i1, i2, i3, i4, i5⟩ := hin
    have hp : partB r = volB r.vid r.vgen r.vlen r.ls ++ (textS r.ek ++ (numI r.eo ++ (numI r.el ++ r.ed))) := by unfold partB; rw [if_pos hk0]
    rw [hp] at e4
    obtain ⟨c0, c1, c2, c3, c4, c5⟩ := rd_vol (textS r.ek ++ (numI r.eo ++ (numI r.el ++ r.ed))) hv
    have hvl := hv.2.2.1
    obtain ⟨q6, r6, s6⟩ := rd_text (s := r.ek) (numI r.eo ++ (numI r.el ++ r.ed)) (by have := hkey.2.1; omega)
    obtain ⟨t1, t2, t3⟩ := rd_numI (n := r.eo) (numI r.el ++ r.ed) i2 (by omega)
    obtain ⟨u1, u2, u3⟩ := rd_numI (n := r.el) r.ed i3 (by omega)
    have ht : tk0 s = r := by
      unfold tk0
      simp only
      rw [e4, c1, c2, c3, c4, c5, r6, s6, t2, t3, u2, u3, e2, e5]
      have ha' := ha
      unfold Rc.alone at ha'
      rw [if_pos hk0, i1] at ha'
      exact ha'.symm
    refine ⟨by unfold tkR; rw [if_pos n0, ht], by unfold tkQ; rw [if_pos n0, ht], e1, e6, fun q => by omega, fun _ => by rw [e4]; exact c0, fun _ => ?_, fun q => by omega, ?_⟩
    · rw [e4, c5, s6, t3]; exact ⟨q6, t1, u1⟩
    · unfold leftR; simp only; rw [if_pos n0]
  · have n0 : rN (rR s) = 1 := by omega
    have hkey := (ckK_1 hk0).1 hk
    have hp : partB r = textS r.k ++ ByteArray.empty := by unfold partB; rw [if_neg (by omega), if_pos hk0, app_nil]
    rw [hp] at e4
    obtain ⟨q6, r6, s6⟩ := rd_text (s := r.k) ByteArray.empty (by have := hkey.2.1; omega)
    have ht : tk1 s = r := by
      unfold tk1
      rw [e4, r6, e2, e5]
      have ha' := ha
      unfold Rc.alone at ha'
      rw [if_neg (by omega), if_pos hk0] at ha'
      exact ha'.symm
    refine ⟨by unfold tkR; rw [if_neg (by omega), if_pos n0, ht], by unfold tkQ; rw [if_neg (by omega), if_pos n0, ht], e1, e6, fun _ => by rw [e4]; exact q6, fun q => absurd n0 q, fun q => by omega, fun q => by omega, ?_⟩
    unfold leftR; simp only; rw [if_neg (by omega), if_pos n0, e4, s6]
  · have n0 : rN (rR s) = 2 := by omega
    have hv := (ckK_2 hk0).1 hk
    have hp : partB r = volB r.vid r.vgen r.vlen r.ls ++ ByteArray.empty := by unfold partB; rw [if_neg (by omega), if_neg (by omega), if_pos hk0, app_nil]
    rw [hp] at e4
    obtain ⟨c0, c1, c2, c3, c4, c5⟩ := rd_vol ByteArray.empty hv
    have ht : tk2 s = r := by
      unfold tk2
      simp only
      rw [e4, c1, c2, c3, c4, e2, e5]
      have ha' := ha
      unfold Rc.alone at ha'
      rw [if_neg (by omega), if_neg (by omega), if_pos hk0] at ha'
      exact ha'.symm
    refine ⟨by unfold tkR; rw [if_neg (by omega), if_neg (by omega), if_pos n0, ht], by unfold tkQ; rw [if_neg (by omega), if_neg (by omega), if_neg (by omega), ht], e1, e6, fun q => by omega, fun _ => by rw [e4]; exact c0, fun q => by omega, fun q => by omega, ?_⟩
    unfold leftR; simp only; rw [if_neg (by omega), if_neg (by omega), if_neg (by omega), e4, c5]
  · have n0 : rN (rR s) = 3 := by omega
    obtain ⟨hv, ⟨f0, f1⟩, ⟨g0, g1⟩, hne⟩ := (ckK_3 hk0).1 hk
    have hp : partB r = volB r.vid r.vgen r.vlen r.ls ++ (numI r.f ++ (numI r.t ++ ByteArray.empty)) := by unfold partB; rw [if_neg (by omega), if_neg (by omega), if_neg (by omega), app_nil]
    rw [hp] at e4
    obtain ⟨c0, c1, c2, c3, c4, c5⟩ := rd_vol (numI r.f ++ (numI r.t ++ ByteArray.empty)) hv
    obtain ⟨t1, t2, t3⟩ := rd_numI (n := r.f) (numI r.t ++ ByteArray.empty) f0 f1
    obtain ⟨u1, u2, u3⟩ := rd_numI (n := r.t) ByteArray.empty g0 g1
    have ht : tk3 s = r := by
      unfold tk3
      simp only
      rw [e4, c1, c2, c3, c4, c5, t2, t3, u2, e2, e5]
      have ha' := ha
      unfold Rc.alone at ha'
      rw [if_neg (by omega), if_neg (by omega), if_neg (by omega)] at ha'
      exact ha'.symm
    refine ⟨by unfold tkR; rw [if_neg (by omega), if_neg (by omega), if_neg (by omega), if_pos n0, ht], by unfold tkQ; rw [if_neg (by omega), if_neg (by omega), if_pos n0, ht], e1, e6, fun q => by omega, fun _ => by rw [e4]; exact c0, fun q => by omega, fun _ => by rw [e4, c5, t3]; exact ⟨t1, u1⟩, ?_⟩
    unfold leftR; simp only; rw [if_neg (by omega), if_neg (by omega), if_pos n0, e4, c5, t3, u3]
end Go.Proofs.YtonhmihmnkicdaaGreat
namespace Go.Proofs.YtonhmihmnkicdaaGreat
set_option linter.unusedVariables false
theorem sSJ_size : sSJ.size = 2 := rfl
theorem rest2_body (r : Rc) : rest2 (bodyR r) = innR r := by
  unfold rest2 bodyR
  exact ext_tail sSJ (innR r)
theorem wR_ok {r : Rc} (h0 : ckR r = 0) : wR r = sealS (bodyR r) := by unfold wR; rw [if_pos h0]
theorem wR_bad {r : Rc} (h0 : ckR r ≠ 0) : wR r = ByteArray.empty := by unfold wR; rw [if_neg h0]
theorem opE_zero {s : ByteArray} (h : opE s = 0) : 4 ≤ s.size ∧ sealS (headS s) = s ∧ opT s = headS s := by
  unfold opE at h
  by_cases h4 : s.size < 4
  · rw [if_pos h4] at h; omega
  · rw [if_neg h4] at h
    by_cases hs : sealS (headS s) = s
    · refine ⟨by omega, hs, ?_⟩
      unfold opT; rw [if_neg h4, if_pos hs]
    · rw [if_neg hs] at h; omega
theorem opE_some (s : ByteArray) : opE s = 0 ∨ opE s = 3 ∨ opE s = 5 := by unfold opE; split; simp; split <;> simp
theorem wR_some {r : Rc} {s : ByteArray} (hs : 4 ≤ s.size) (e : wR r = s) : ckR r = 0 ∧ s = sealS (bodyR r) := by
  by_cases h0 : ckR r = 0
  · exact ⟨h0, by rw [← e]; exact wR_ok h0⟩
  · rw [wR_bad h0] at e; subst e; simp at hs
/-- the error of reading -/
noncomputable def rdE (s : ByteArray) : Int := if opE s = 0 then (if wR (tkR (rest2 (opT s))) = s then 0 else 4) else opE s
noncomputable def rdC (s : ByteArray) : Rc := if rdE s = 0 then tkR (rest2 (opT s)) else Rc.zero
theorem rdE_err {s : ByteArray} (h : opE s ≠ 0) : rdE s = opE s ∧ rdC s = Rc.zero := by
  have e : rdE s = opE s := by unfold rdE; rw [if_neg h]
  exact ⟨e, by unfold rdC; rw [if_neg (by rw [e]; exact h)]⟩
theorem rdE_no {s : ByteArray} (h : opE s = 0) (hn : wR (tkR (rest2 (opT s))) ≠ s) : rdE s = 4 ∧ rdC s = Rc.zero := by
  have e : rdE s = 4 := by unfold rdE; rw [if_pos h, if_neg hn]
  exact ⟨e, by unfold rdC; rw [if_neg (by rw [e]; decide)]⟩
theorem rdE_yes {s : ByteArray} (h : opE s = 0) (hn : wR (tkR (rest2 (opT s))) = s) : rdE s = 0 ∧ rdC s = tkR (rest2 (opT s)) := by
  have e : rdE s = 0 := by unfold rdE; rw [if_pos h, if_pos hn]
  exact ⟨e, by unfold rdC; rw [if_pos e]⟩
/-- what is read is written so -/
theorem rdE_read {s : ByteArray} (h : rdE s = 0) : wR (rdC s) = s ∧ ckR (rdC s) = 0 ∧ opE s = 0 := by
  by_cases h0 : opE s = 0
  · by_cases h1 : wR (tkR (rest2 (opT s))) = s
    · rw [(rdE_yes h0 h1).2]
      exact ⟨h1, (wR_some (opE_zero h0).1 h1).1, h0⟩
    · have := (rdE_no h0 h1).1; omega
  · have := (rdE_err h0).1; omega
theorem rdC_bad {s : ByteArray} (h : rdE s ≠ 0) : rdC s = Rc.zero := by unfold rdC; rw [if_neg h]
theorem read_back {r : Rc} (h0 : ckR r = 0) : rdE (wR r) = 0 ∧ rdC (wR r) = r := by
  have e1 : tkR (rest2 (opT (wR r))) = r := by
    rw [wR_ok h0, opT_seal, rest2_body]
    exact (inn_back h0).1
  have h := rdE_yes (s := wR r) (by rw [wR_ok h0]; exact opE_seal _) (by rw [e1])
  rw [e1] at h
  exact h
/-- without the mark, if it is there -/
def trimS (t : ByteArray) : ByteArray := if 2 ≤ t.size ∧ t.extract 0 2 = sSJ then rest2 t else t
theorem trim_body (r : Rc) : trimS (bodyR r) = innR r := by
  unfold trimS
  rw [if_pos ⟨by unfold bodyR; rw [ByteArray.size_append, sSJ_size]; omega, by unfold bodyR; exact ext_head sSJ (innR r)⟩, rest2_body]
theorem opT_body {s : ByteArray} {r : Rc} (h0 : opE s = 0) (e : wR r = s) : ckR r = 0 ∧ opT s = bodyR r := by
  obtain ⟨h4, _, ht⟩ := opE_zero h0
  obtain ⟨c, q⟩ := wR_some h4 e
  refine ⟨c, ?_⟩
  conv => lhs; rw [q, opT_seal]
/-- the text that was sealed tells its record by either way -/
theorem trim_same {s : ByteArray} (h0 : opE s = 0) : (wR (tkR (trimS (opT s))) = s ↔ wR (tkR (rest2 (opT s))) = s) ∧ (wR (tkR (rest2 (opT s))) = s → tkR (trimS (opT s)) = tkR (rest2 (opT s))) := by
  refine ⟨⟨fun e => ?_, fun e => ?_⟩, fun e => ?_⟩
  · obtain ⟨c, k⟩ := opT_body h0 e
    generalize tkR (trimS (opT s)) = H at e k c
    rw [k, rest2_body, (inn_back c).1]
    exact e
  · obtain ⟨c, k⟩ := opT_body h0 e
    generalize tkR (rest2 (opT s)) = H at e k c
    rw [k, trim_body, (inn_back c).1]
    exact e
  · obtain ⟨c, k⟩ := opT_body h0 e
    rw [k, trim_body, rest2_body]
/-- .. and by the document's way -/
theorem q_same {s : ByteArray} (h0 : opE s = 0) : (wR (tkQ (rest2 (opT s))) = s ↔ wR (tkR (rest2 (opT s))) = s) ∧ (wR (tkR (rest2 (opT s))) = s → tkQ (rest2 (opT s)) = tkR (rest2 (opT s)) ∧ clnR (rest2 (opT s))) := by
  refine ⟨⟨fun e => ?_, fun e => ?_⟩, fun e => ?_⟩
  · obtain ⟨c, k⟩ := opT_body h0 e
    generalize tkQ (rest2 (opT s)) = H at e k c
    rw [k, rest2_body, (inn_back c).1]
    exact e
  · obtain ⟨c, k⟩ := opT_body h0 e
    generalize tkR (rest2 (opT s)) = H at e k c
    rw [k, rest2_body, (inn_back c).2.1]
    exact e
  · obtain ⟨c, k⟩ := opT_body h0 e
    generalize tkR (rest2 (opT s)) = H at e k c
    rw [k, rest2_body, (inn_back c).2.1]
    exact ⟨rfl, (inn_back c).2.2⟩
/-- a text whose first two bytes are not there is no record -/
theorem short_not {s : ByteArray} (h0 : opE s = 0) (hl : (opT s).size < 2) (r : Rc) : wR r ≠ s := by
  intro e
  rw [(opT_body h0 e).2] at hl
  unfold bodyR at hl
  rw [ByteArray.size_append, sSJ_size] at hl
  omega
/-- records that are written alike are alike -/
theorem wR_inj {a b : Rc} (ha : ckR a = 0) (hb : ckR b = 0) (e : wR a = wR b) : a = b := by
  have h1 := (read_back ha).2
  have h2 := (read_back hb).2
  rw [← h1, e, h2]
theorem numI_len {n : Int} (h0 : 0 ≤ n) (h1 : n ≤ 1099511627776) : (numI n).size ≤ 6 := by
  obtain ⟨k, e, l, hn⟩ := num_in h0 h1
  rw [hn, numS_size]
  exact nlen_le (k := 5) (by subst e; simp; omega)
theorem numI_len1 {n : Int} (h0 : 0 ≤ n) (h1 : n < 128) : (numI n).size = 1 := by
  obtain ⟨k, e, l, hn⟩ := num_in h0 (by omega)
  rw [hn, numS_size]
  exact nlen_small (by omega)
theorem textS_len {s : ByteArray} (h : s.size ≤ 64) : (textS s).size = 1 + s.size := by
  unfold textS
  rw [ByteArray.size_append, numS_size, nlen_small (by omega)]
theorem locB_size : ∀ {l : List (Int × Int)}, (∀ x ∈ l, locR x) → (locB l).size = 2 * l.length
  | [], _ => rfl
  | x :: l, h => by
    obtain ⟨⟨a0, a1⟩, b0, b1⟩ := h x (by simp)
    show (numI x.1 ++ (numI x.2 ++ locB l)).size = 2 * (l.length + 1)
    rw [ByteArray.size_append, ByteArray.size_append, numI_len1 a0 (by omega), numI_len1 b0 (by omega), locB_size fun y hy => h y (by simp [hy])]
    omega
theorem volB_size {i g n : Int} {l : List (Int × Int)} (h : volR i g n l) : (volB i g n l).size ≤ 36 := by
  obtain ⟨⟨a0, a1⟩, ⟨b0, b1⟩, ⟨c0, c1⟩, h9, hl⟩ := h
  unfold volB
  rw [ByteArray.size_append, ByteArray.size_append, ByteArray.size_append, locB_size hl.1, h9]
  have := numI_len a0 a1
  have := numI_len b0 b1
  have := numI_len (n := n) c0 (by omega)
  omega
theorem partB_size {r : Rc} (h : r.sqOk) (hk : ckK r = 0) : (partB r).size ≤ 113 := by
  rcases kind_four h with hk0 | hk0 | hk0 | hk0
  · obtain ⟨hv, hkey, i1, i2, i3, i4, i5⟩ := (ckK_0 hk0).1 hk
    have hvl := hv.2.2.1
    unfold partB
    rw [if_pos hk0, ByteArray.size_append, ByteArray.size_append, ByteArray.size_append, ByteArray.size_append, i5]
    have := volB_size hv
    have := numI_len (n := r.eo) i2 (by omega)
    have := numI_len (n := r.el) i3 (by omega)
    have := hkey.2.1
    have := textS_len (s := r.ek) (by omega)
    omega
  · have hkey := (ckK_1 hk0).1 hk
    unfold partB
    rw [if_neg (by omega), if_pos hk0]
    have := hkey.2.1
    have := textS_len (s := r.k) (by omega)
    omega
  · have hv := (ckK_2 hk0).1 hk
    unfold partB
    rw [if_neg (by omega), if_neg (by omega), if_pos hk0]
    have := volB_size hv
    omega
  · obtain ⟨hv, ⟨f0, f1⟩, ⟨g0, g1⟩, hne⟩ := (ckK_3 hk0).1 hk
    unfold partB
    rw [if_neg (by omega), if_neg (by omega), if_neg (by omega), ByteArray.size_append, ByteArray.size_append]
    have := volB_size hv
    have := numI_len f0 f1
    have := numI_len g0 g1
    omega
theorem bodyR_size {r : Rc} (h0 : ckR r = 0) : (bodyR r).size ≤ 127 := by
  obtain ⟨hs, hk, _⟩ := ckR_zero.1 h0
  have := partB_size hs hk
  obtain ⟨⟨s0, s1⟩, k0, k1⟩ := hs
  have := numI_len (n := r.seq) s0 (by omega)
  have := numI_len (n := r.kind) k0 (by omega)
  unfold bodyR innR
  rw [ByteArray.size_append, ByteArray.size_append, ByteArray.size_append, sSJ_size]
  omega
theorem wR_small {r : Rc} (h0 : ckR r = 0) : (wR r).size ≤ 131 ∧ 6 ≤ (wR r).size := by
  have := bodyR_size h0
  rw [wR_ok h0, sealS_size]
  refine ⟨by omega, ?_⟩
  unfold bodyR
  rw [ByteArray.size_append, sSJ_size]
  omega
theorem wR_le (r : Rc) : (wR r).size ≤ 131 := by
  by_cases h0 : ckR r = 0
  · exact (wR_small h0).1
  · rw [wR_bad h0]; simp
theorem tT_size (s : ByteArray) : (tT s).size ≤ s.size := by
  unfold tT
  split
  · rw [ByteArray.size_extract]; have := rR_size s; omega
  · simp
end Go.Proofs.YtonhmihmnkicdaaGreat
