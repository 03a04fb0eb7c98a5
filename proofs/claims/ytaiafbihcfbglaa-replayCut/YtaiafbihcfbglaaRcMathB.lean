/- Records read back from their texts; what any text's record is. No walk stands here. -/
import Derived.Test.YtaiafbihcfbglaaRcMath
namespace Go.Proofs.Ytaiafbihcfbglaa
set_option linter.unusedVariables false
theorem sSJ_size : sSJ.size = 2 := rfl
theorem rest2_body (r : Rc) : rest2 (bodyR r) = innR r := by
  unfold rest2 bodyR
  exact ext_tail sSJ (innR r)
theorem wR_ok {r : Rc} (h0 : ckR r = 0) : wR r = sealS (bodyR r) := by unfold wR; rw [if_pos h0]
theorem wR_bad {r : Rc} (h0 : ckR r ≠ 0) : wR r = ByteArray.empty := by unfold wR; rw [if_neg h0]
theorem opE_zero {s : ByteArray} (h : opE s = 0) : 4 ≤ s.size ∧ sealS (headS s) = s ∧ opT s = headS s := by
  unfold opE at h
  by_cases h4 : s.size < 4
  · rw [if_pos h4] at h; omega
  · rw [if_neg h4] at h
    by_cases hs : sealS (headS s) = s
    · refine ⟨by omega, hs, ?_⟩
      unfold opT; rw [if_neg h4, if_pos hs]
    · rw [if_neg hs] at h; omega
theorem opE_some (s : ByteArray) : opE s = 0 ∨ opE s = 3 ∨ opE s = 5 := by unfold opE; split; simp; split <;> simp
theorem wR_some {r : Rc} {s : ByteArray} (hs : 4 ≤ s.size) (e : wR r = s) : ckR r = 0 ∧ s = sealS (bodyR r) := by
  by_cases h0 : ckR r = 0
  · exact ⟨h0, by rw [← e]; exact wR_ok h0⟩
  · rw [wR_bad h0] at e; subst e; simp at hs
/-- the error of reading -/
noncomputable def rdE (s : ByteArray) : Int := if opE s = 0 then (if wR (tkR (rest2 (opT s))) = s then 0 else 4) else opE s
noncomputable def rdC (s : ByteArray) : Rc := if rdE s = 0 then tkR (rest2 (opT s)) else Rc.zero
theorem rdE_err {s : ByteArray} (h : opE s ≠ 0) : rdE s = opE s ∧ rdC s = Rc.zero := by
  have e : rdE s = opE s := by unfold rdE; rw [if_neg h]
  exact ⟨e, by unfold rdC; rw [if_neg (by rw [e]; exact h)]⟩
theorem rdE_no {s : ByteArray} (h : opE s = 0) (hn : wR (tkR (rest2 (opT s))) ≠ s) : rdE s = 4 ∧ rdC s = Rc.zero := by
  have e : rdE s = 4 := by unfold rdE; rw [if_pos h, if_neg hn]
  exact ⟨e, by unfold rdC; rw [if_neg (by rw [e]; decide)]⟩
theorem rdE_yes {s : ByteArray} (h : opE s = 0) (hn : wR (tkR (rest2 (opT s))) = s) : rdE s = 0 ∧ rdC s = tkR (rest2 (opT s)) := by
  have e : rdE s = 0 := by unfold rdE; rw [if_pos h, if_pos hn]
  exact ⟨e, by unfold rdC; rw [if_pos e]⟩
/-- what is read is written so -/
theorem rdE_read {s : ByteArray} (h : rdE s = 0) : wR (rdC s) = s ∧ ckR (rdC s) = 0 ∧ opE s = 0 := by
  by_cases h0 : opE s = 0
  · by_cases h1 : wR (tkR (rest2 (opT s))) = s
    · rw [(rdE_yes h0 h1).2]
      exact ⟨h1, (wR_some (opE_zero h0).1 h1).1, h0⟩
    · have := (rdE_no h0 h1).1; omega
  · have := (rdE_err h0).1; omega
theorem rdC_bad {s : ByteArray} (h : rdE s ≠ 0) : rdC s = Rc.zero := by unfold rdC; rw [if_neg h]
theorem read_back {r : Rc} (h0 : ckR r = 0) : rdE (wR r) = 0 ∧ rdC (wR r) = r := by
  have e1 : tkR (rest2 (opT (wR r))) = r := by
    rw [wR_ok h0, opT_seal, rest2_body]
    exact (inn_back h0).1
  have h := rdE_yes (s := wR r) (by rw [wR_ok h0]; exact opE_seal _) (by rw [e1])
  rw [e1] at h
  exact h
/-- without the mark, if it is there -/
def trimS (t : ByteArray) : ByteArray := if 2 ≤ t.size ∧ t.extract 0 2 = sSJ then rest2 t else t
theorem trim_body (r : Rc) : trimS (bodyR r) = innR r := by
  unfold trimS
  rw [if_pos ⟨by unfold bodyR; rw [ByteArray.size_append, sSJ_size]; omega, by unfold bodyR; exact ext_head sSJ (innR r)⟩, rest2_body]
theorem opT_body {s : ByteArray} {r : Rc} (h0 : opE s = 0) (e : wR r = s) : ckR r = 0 ∧ opT s = bodyR r := by
  obtain ⟨h4, _, ht⟩ := opE_zero h0
  obtain ⟨c, q⟩ := wR_some h4 e
  refine ⟨c, ?_⟩
  conv => lhs; rw [q, opT_seal]
/-- the text that was sealed tells its record by either way -/
theorem trim_same {s : ByteArray} (h0 : opE s = 0) : (wR (tkR (trimS (opT s))) = s ↔ wR (tkR (rest2 (opT s))) = s) ∧ (wR (tkR (rest2 (opT s))) = s → tkR (trimS (opT s)) = tkR (rest2 (opT s))) := by
  refine ⟨⟨fun e => ?_, fun e => ?_⟩, fun e => ?_⟩
  · obtain ⟨c, k⟩ := opT_body h0 e
    generalize tkR (trimS (opT s)) = H at e k c
    rw [k, rest2_body, (inn_back c).1]
    exact e
  · obtain ⟨c, k⟩ := opT_body h0 e
    generalize tkR (rest2 (opT s)) = H at e k c
    rw [k, trim_body, (inn_back c).1]
    exact e
  · obtain ⟨c, k⟩ := opT_body h0 e
    rw [k, trim_body, rest2_body]
/-- .. and by the document's way -/
theorem q_same {s : ByteArray} (h0 : opE s = 0) : (wR (tkQ (rest2 (opT s))) = s ↔ wR (tkR (rest2 (opT s))) = s) ∧ (wR (tkR (rest2 (opT s))) = s → tkQ (rest2 (opT s)) = tkR (rest2 (opT s)) ∧ clnR (rest2 (opT s))) := by
  refine ⟨⟨fun e => ?_, fun e => ?_⟩, fun e => ?_⟩
  · obtain ⟨c, k⟩ := opT_body h0 e
    generalize tkQ (rest2 (opT s)) = H at e k c
    rw [k, rest2_body, (inn_back c).1]
    exact e
  · obtain ⟨c, k⟩ := opT_body h0 e
    generalize tkR (rest2 (opT s)) = H at e k c
    rw [k, rest2_body, (inn_back c).2.1]
    exact e
  · obtain ⟨c, k⟩ := opT_body h0 e
    generalize tkR (rest2 (opT s)) = H at e k c
    rw [k, rest2_body, (inn_back c).2.1]
    exact ⟨rfl, (inn_back c).2.2⟩
/-- a text whose first two bytes are not there is no record -/
theorem short_not {s : ByteArray} (h0 : opE s = 0) (hl : (opT s).size < 2) (r : Rc) : wR r ≠ s := by
  intro e
  rw [(opT_body h0 e).2] at hl
  unfold bodyR at hl
  rw [ByteArray.size_append, sSJ_size] at hl
  omega
/-- records that are written alike are alike -/
theorem wR_inj {a b : Rc} (ha : ckR a = 0) (hb : ckR b = 0) (e : wR a = wR b) : a = b := by
  have h1 := (read_back ha).2
  have h2 := (read_back hb).2
  rw [← h1, e, h2]
theorem numI_len {n : Int} (h0 : 0 ≤ n) (h1 : n ≤ 1099511627776) : (numI n).size ≤ 6 := by
  obtain ⟨k, e, l, hn⟩ := num_in h0 h1
  rw [hn, numS_size]
  exact nlen_le (k := 5) (by subst e; simp; omega)
theorem numI_len1 {n : Int} (h0 : 0 ≤ n) (h1 : n < 128) : (numI n).size = 1 := by
  obtain ⟨k, e, l, hn⟩ := num_in h0 (by omega)
  rw [hn, numS_size]
  exact nlen_small (by omega)
theorem textS_len {s : ByteArray} (h : s.size ≤ 64) : (textS s).size = 1 + s.size := by
  unfold textS
  rw [ByteArray.size_append, numS_size, nlen_small (by omega)]
theorem locB_size : ∀ {l : List (Int × Int)}, (∀ x ∈ l, locR x) → (locB l).size = 2 * l.length
  | [], _ => rfl
  | x :: l, h => by
    obtain ⟨⟨a0, a1⟩, b0, b1⟩ := h x (by simp)
    show (numI x.1 ++ (numI x.2 ++ locB l)).size = 2 * (l.length + 1)
    rw [ByteArray.size_append, ByteArray.size_append, numI_len1 a0 (by omega), numI_len1 b0 (by omega), locB_size fun y hy => h y (by simp [hy])]
    omega
theorem volB_size {i g n : Int} {l : List (Int × Int)} (h : volR i g n l) : (volB i g n l).size ≤ 36 := by
  obtain ⟨⟨a0, a1⟩, ⟨b0, b1⟩, ⟨c0, c1⟩, h9, hl⟩ := h
  unfold volB
  rw [ByteArray.size_append, ByteArray.size_append, ByteArray.size_append, locB_size hl.1, h9]
  have := numI_len a0 a1
  have := numI_len b0 b1
  have := numI_len (n := n) c0 (by omega)
  omega
theorem partB_size {r : Rc} (h : r.sqOk) (hk : ckK r = 0) : (partB r).size ≤ 113 := by
  rcases kind_four h with hk0 | hk0 | hk0 | hk0
  · obtain ⟨hv, hkey, i1, i2, i3, i4, i5⟩ := (ckK_0 hk0).1 hk
    have hvl := hv.2.2.1
    unfold partB
    rw [if_pos hk0, ByteArray.size_append, ByteArray.size_append, ByteArray.size_append, ByteArray.size_append, i5]
    have := volB_size hv
    have := numI_len (n := r.eo) i2 (by omega)
    have := numI_len (n := r.el) i3 (by omega)
    have := hkey.2.1
    have := textS_len (s := r.ek) (by omega)
    omega
  · have hkey := (ckK_1 hk0).1 hk
    unfold partB
    rw [if_neg (by omega), if_pos hk0]
    have := hkey.2.1
    have := textS_len (s := r.k) (by omega)
    omega
  · have hv := (ckK_2 hk0).1 hk
    unfold partB
    rw [if_neg (by omega), if_neg (by omega), if_pos hk0]
    have := volB_size hv
    omega
  · obtain ⟨hv, ⟨f0, f1⟩, ⟨g0, g1⟩, hne⟩ := (ckK_3 hk0).1 hk
    unfold partB
    rw [if_neg (by omega), if_neg (by omega), if_neg (by omega), ByteArray.size_append, ByteArray.size_append]
    have := volB_size hv
    have := numI_len f0 f1
    have := numI_len g0 g1
    omega
theorem bodyR_size {r : Rc} (h0 : ckR r = 0) : (bodyR r).size ≤ 127 := by
  obtain ⟨hs, hk, _⟩ := ckR_zero.1 h0
  have := partB_size hs hk
  obtain ⟨⟨s0, s1⟩, k0, k1⟩ := hs
  have := numI_len (n := r.seq) s0 (by omega)
  have := numI_len (n := r.kind) k0 (by omega)
  unfold bodyR innR
  rw [ByteArray.size_append, ByteArray.size_append, ByteArray.size_append, sSJ_size]
  omega
theorem wR_small {r : Rc} (h0 : ckR r = 0) : (wR r).size ≤ 131 ∧ 6 ≤ (wR r).size := by
  have := bodyR_size h0
  rw [wR_ok h0, sealS_size]
  refine ⟨by omega, ?_⟩
  unfold bodyR
  rw [ByteArray.size_append, sSJ_size]
  omega
theorem wR_le (r : Rc) : (wR r).size ≤ 131 := by
  by_cases h0 : ckR r = 0
  · exact (wR_small h0).1
  · rw [wR_bad h0]; simp
theorem tT_size (s : ByteArray) : (tT s).size ≤ s.size := by
  unfold tT
  split
  · rw [ByteArray.size_extract]; have := rR_size s; omega
  · simp
end Go.Proofs.Ytaiafbihcfbglaa
