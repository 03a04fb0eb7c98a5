/- Headers of shards: what is written of them, what is read of any text. No walk stands here. -/
import Derived.Test.YtjcabdgikkmlpaaPkNum
import Derived.Test.YtjcabdgikkmlpaaCrOf
namespace Go.Proofs.Ytjcabdgikkmlpaa
/-- a header: volume, time, number, disk, slot, text -/
structure Hd where
  v : Int
  g : Int
  i : Int
  d : Int
  s : Int
  x : ByteArray
theorem Hd.ext' {a b : Hd} (h1 : a.v = b.v) (h2 : a.g = b.g) (h3 : a.i = b.i) (h4 : a.d = b.d) (h5 : a.s = b.s) (h6 : a.x = b.x) : a = b := by
  cases a; cases b; simp at h1 h2 h3 h4 h5 h6; simp [h1, h2, h3, h4, h5, h6]
def Hd.zero : Hd := ⟨0, 0, 0, 0, 0, ByteArray.empty⟩
def Hd.inR (h : Hd) : Prop := (0 ≤ h.v ∧ h.v ≤ 1099511627776) ∧ (0 ≤ h.g ∧ h.g ≤ 1099511627776) ∧ (0 ≤ h.i ∧ h.i ≤ 8) ∧ (0 ≤ h.d ∧ h.d ≤ 11) ∧ (0 ≤ h.s ∧ h.s ≤ 47)
instance (h : Hd) : Decidable h.inR := by unfold Hd.inR; infer_instance
/-- the error of writing -/
def wE (h : Hd) : Int := if h.inR then (if h.x.size ≤ 64 then 0 else 12) else 1
theorem wE_zero {h : Hd} : wE h = 0 ↔ h.inR ∧ h.x.size ≤ 64 := by
  unfold wE
  by_cases h1 : h.inR
  · rw [if_pos h1]
    by_cases h2 : h.x.size ≤ 64
    · rw [if_pos h2]; simp [h1, h2]
    · rw [if_neg h2]; simp [h2]
  · rw [if_neg h1]; simp [h1]
def sSG : ByteArray := ⟨#[83, 71]⟩
/-- what stands behind the mark -/
def innS (h : Hd) : ByteArray := numI h.v ++ (numI h.g ++ (numI h.i ++ (numI h.d ++ (numI h.s ++ textS h.x))))
def bodyS (h : Hd) : ByteArray := sSG ++ innS h
/-- the bytes of a header (none, if it may not be written) -/
def wS (h : Hd) : ByteArray := if wE h = 0 then sealS (bodyS h) else ByteArray.empty
/-- what stands behind the first two bytes -/
def rest2 (t : ByteArray) : ByteArray := t.extract 2 t.size
/-- what any text tells of a header -/
def tk (s : ByteArray) : Hd := ⟨(rN s : Nat), (rN (rR s) : Nat), (rN (rR (rR s)) : Nat), (rN (rR (rR (rR s))) : Nat), (rN (rR (rR (rR (rR s)))) : Nat), tT (rR (rR (rR (rR (rR s)))))⟩
/-- the error of reading -/
def rdE (s : ByteArray) : Int := if opE s = 0 then (if wS (tk (rest2 (opT s))) = s then 0 else 4) else opE s
def rdH (s : ByteArray) : Hd := if rdE s = 0 then tk (rest2 (opT s)) else Hd.zero
theorem sSG_size : sSG.size = 2 := rfl
theorem rest2_body (h : Hd) : rest2 (bodyS h) = innS h := by
  unfold rest2 bodyS
  exact ext_tail sSG (innS h)
theorem num_in {n : Int} (h0 : 0 ≤ n) (h1 : n ≤ 1099511627776) : ∃ k : Nat, n = (k : Int) ∧ k < 72057594037927936 ∧ numI n = numS k := by
  obtain ⟨k, rfl⟩ := Int.eq_ofNat_of_zero_le h0
  exact ⟨k, rfl, by omega, numI_nat (by omega)⟩
/-- what is written is read, and nothing is left -/
theorem inn_back {h : Hd} (hr : h.inR) (hx : h.x.size ≤ 64) : tk (innS h) = h ∧ (rE (innS h) = 0 ∧ rE (rR (innS h)) = 0 ∧ rE (rR (rR (innS h))) = 0 ∧ rE (rR (rR (rR (innS h)))) = 0 ∧ rE (rR (rR (rR (rR (innS h))))) = 0 ∧ tE (rR (rR (rR (rR (rR (innS h)))))) = 0 ∧ tR (rR (rR (rR (rR (rR (innS h)))))) = ByteArray.empty) := by
  obtain ⟨⟨a0, a1⟩, ⟨b0, b1⟩, ⟨c0, c1⟩, ⟨d0, d1⟩, ⟨e0, e1⟩⟩ := hr
  obtain ⟨kv, ev, lv, nv⟩ := num_in a0 a1
  obtain ⟨kg, eg, lg, ng⟩ := num_in b0 b1
  obtain ⟨ki, ei, li, ni⟩ := num_in (n := h.i) c0 (by omega)
  obtain ⟨kd, ed, ld, nd⟩ := num_in (n := h.d) d0 (by omega)
  obtain ⟨ks, es, ls, ns⟩ := num_in (n := h.s) e0 (by omega)
  have e : innS h = numS kv ++ (numS kg ++ (numS ki ++ (numS kd ++ (numS ks ++ (textS h.x ++ ByteArray.empty))))) := by
    unfold innS; rw [nv, ng, ni, nd, ns, app_nil]
  obtain ⟨-, q1, r1, s1⟩ := rd_num (numS kg ++ (numS ki ++ (numS kd ++ (numS ks ++ (textS h.x ++ ByteArray.empty))))) lv
  obtain ⟨-, q2, r2, s2⟩ := rd_num (numS ki ++ (numS kd ++ (numS ks ++ (textS h.x ++ ByteArray.empty)))) lg
  obtain ⟨-, q3, r3, s3⟩ := rd_num (numS kd ++ (numS ks ++ (textS h.x ++ ByteArray.empty))) li
  obtain ⟨-, q4, r4, s4⟩ := rd_num (numS ks ++ (textS h.x ++ ByteArray.empty)) ld
  obtain ⟨-, q5, r5, s5⟩ := rd_num (textS h.x ++ ByteArray.empty) ls
  obtain ⟨q6, r6, s6⟩ := rd_text (s := h.x) ByteArray.empty (by omega)
  rw [← e] at q1 r1 s1
  refine ⟨?_, q1, ?_⟩
  · unfold tk
    rw [r1, s1, r2, s2, r3, s3, r4, s4, r5, s5, r6]
    exact Hd.ext' ev.symm eg.symm ei.symm ed.symm es.symm rfl
  · rw [s1, s2, s3, s4, s5]
    exact ⟨q2, q3, q4, q5, q6, s6⟩
theorem wS_ok {h : Hd} (h0 : wE h = 0) : wS h = sealS (bodyS h) := by unfold wS; rw [if_pos h0]
theorem wS_bad {h : Hd} (h0 : wE h ≠ 0) : wS h = ByteArray.empty := by unfold wS; rw [if_neg h0]
theorem opE_zero {s : ByteArray} (h : opE s = 0) : 4 ≤ s.size ∧ sealS (headS s) = s ∧ opT s = headS s := by
  unfold opE at h
  by_cases h4 : s.size < 4
  · rw [if_pos h4] at h; omega
  · rw [if_neg h4] at h
    by_cases hs : sealS (headS s) = s
    · refine ⟨by omega, hs, ?_⟩
      unfold opT; rw [if_neg h4, if_pos hs]
    · rw [if_neg hs] at h; omega
theorem opE_some (s : ByteArray) : opE s = 0 ∨ opE s = 3 ∨ opE s = 5 := by unfold opE; split; simp; split <;> simp
/-- whatever is written is not empty: so it was written without error -/
theorem wS_some {h : Hd} {s : ByteArray} (hs : 4 ≤ s.size) (e : wS h = s) : wE h = 0 ∧ s = sealS (bodyS h) := by
  by_cases h0 : wE h = 0
  · exact ⟨h0, by rw [← e]; exact wS_ok h0⟩
  · rw [wS_bad h0] at e; subst e; simp at hs
theorem read_back {h : Hd} (h0 : wE h = 0) : rdE (wS h) = 0 ∧ rdH (wS h) = h := by
  have hx := wE_zero.1 h0
  have e1 : tk (rest2 (opT (wS h))) = h := by
    rw [wS_ok h0, opT_seal, rest2_body]
    exact (inn_back hx.1 hx.2).1
  have e2 : rdE (wS h) = 0 := by
    unfold rdE
    rw [if_pos (by rw [wS_ok h0]; exact opE_seal _), if_pos (by rw [e1])]
  refine ⟨e2, ?_⟩
  unfold rdH
  rw [if_pos e2, e1]
/-- without the mark, if it is there -/
def trimS (t : ByteArray) : ByteArray := if 2 ≤ t.size ∧ t.extract 0 2 = sSG then rest2 t else t
theorem trim_body (h : Hd) : trimS (bodyS h) = innS h := by
  unfold trimS
  rw [if_pos ⟨by unfold bodyS; rw [ByteArray.size_append, sSG_size]; omega, by unfold bodyS; exact ext_head sSG (innS h)⟩, rest2_body]
/-- the text that was sealed tells its header by either way -/
theorem trim_same {s : ByteArray} (h0 : opE s = 0) : (wS (tk (trimS (opT s))) = s ↔ wS (tk (rest2 (opT s))) = s) ∧ (wS (tk (rest2 (opT s))) = s → tk (trimS (opT s)) = tk (rest2 (opT s))) := by
  obtain ⟨h4, _, ht⟩ := opE_zero h0
  have key : ∀ h : Hd, wS h = s → opT s = bodyS h := fun h e => by
    have := (wS_some h4 e).2
    rw [this, opT_seal]
  refine ⟨⟨fun e => ?_, fun e => ?_⟩, fun e => ?_⟩
  · have k := key _ e
    generalize tk (trimS (opT s)) = H at e k
    have e' := wE_zero.1 (wS_some h4 e).1
    rw [k, rest2_body, (inn_back e'.1 e'.2).1]
    exact e
  · have k := key _ e
    generalize tk (rest2 (opT s)) = H at e k
    have e' := wE_zero.1 (wS_some h4 e).1
    rw [k, trim_body, (inn_back e'.1 e'.2).1]
    exact e
  · have k := key _ e
    rw [k, trim_body, rest2_body]
/-- a header that is read ends with its text -/
theorem read_clean {s r : ByteArray} (h0 : opE s = 0) (hr : rest2 (opT s) = r) (e : wS (tk r) = s) : rE r = 0 ∧ rE (rR r) = 0 ∧ rE (rR (rR r)) = 0 ∧ rE (rR (rR (rR r))) = 0 ∧ rE (rR (rR (rR (rR r)))) = 0 ∧ tE (rR (rR (rR (rR (rR r))))) = 0 ∧ tR (rR (rR (rR (rR (rR r))))) = ByteArray.empty := by
  obtain ⟨h4, _, ht⟩ := opE_zero h0
  obtain ⟨e1, e2⟩ := wS_some h4 e
  have e' := wE_zero.1 e1
  have : r = innS (tk r) := by
    conv => lhs; rw [← hr, e2, opT_seal, rest2_body]
  have k := (inn_back e'.1 e'.2).2
  rw [← this] at k
  exact k
/-- a text whose first two bytes are not there is no header -/
theorem short_not {s : ByteArray} (h0 : opE s = 0) (hl : (opT s).size < 2) (h : Hd) : wS h ≠ s := by
  intro e
  obtain ⟨h4, _, ht⟩ := opE_zero h0
  have e2 := (wS_some h4 e).2
  rw [e2, opT_seal] at hl
  unfold bodyS at hl
  rw [ByteArray.size_append, sSG_size] at hl
  omega
theorem rdE_read {s : ByteArray} (h : rdE s = 0) : wS (rdH s) = s ∧ opE s = 0 := by
  have e : rdH s = tk (rest2 (opT s)) := by unfold rdH; rw [if_pos h]
  unfold rdE at h
  by_cases h0 : opE s = 0
  · rw [if_pos h0] at h
    by_cases h1 : wS (tk (rest2 (opT s))) = s
    · exact ⟨by rw [e]; exact h1, h0⟩
    · rw [if_neg h1] at h; omega
  · rw [if_neg h0] at h; exact absurd h h0
/-- headers that are written alike are alike -/
theorem wS_inj {a b : Hd} (ha : wE a = 0) (hb : wE b = 0) (e : wS a = wS b) : a = b := by
  have h1 := (read_back ha).2
  have h2 := (read_back hb).2
  rw [← h1, e, h2]
theorem numI_len {n : Int} (h0 : 0 ≤ n) (h1 : n ≤ 1099511627776) : (numI n).size ≤ 6 := by
  obtain ⟨k, e, l, hn⟩ := num_in h0 h1
  rw [hn, numS_size]
  exact nlen_le (k := 5) (by subst e; simp; omega)
theorem numI_len1 {n : Int} (h0 : 0 ≤ n) (h1 : n < 128) : (numI n).size = 1 := by
  obtain ⟨k, e, l, hn⟩ := num_in h0 (by omega)
  rw [hn, numS_size]
  exact nlen_small (by omega)
theorem textS_len {s : ByteArray} (h : s.size ≤ 64) : (textS s).size = 1 + s.size := by
  unfold textS
  rw [ByteArray.size_append, numS_size, nlen_small (by omega)]
theorem wS_size {h : Hd} (h0 : wE h = 0) : (wS h).size = 2 + ((numI h.v).size + ((numI h.g).size + (1 + (1 + (1 + (1 + h.x.size)))))) + 4 := by
  obtain ⟨⟨_, _, ⟨c0, c1⟩, ⟨d0, d1⟩, ⟨e0, e1⟩⟩, hx⟩ := wE_zero.1 h0
  rw [wS_ok h0, sealS_size]
  unfold bodyS innS
  simp only [ByteArray.size_append, sSG_size, textS_len hx]
  rw [numI_len1 c0 (by omega), numI_len1 d0 (by omega), numI_len1 e0 (by omega)]
theorem wS_small {h : Hd} (h0 : wE h = 0) : (wS h).size ≤ 86 := by
  obtain ⟨⟨⟨a0, a1⟩, ⟨b0, b1⟩, _⟩, hx⟩ := wE_zero.1 h0
  have := numI_len a0 a1
  have := numI_len b0 b1
  rw [wS_size h0]
  omega
end Go.Proofs.Ytjcabdgikkmlpaa
