/- Journals as lists of texts: their records from the first one on, which log is the longest. No walk stands here. -/
import Derived.Test.YtaiafbihcfbglaaRcMath
namespace Go.Proofs.Ytaiafbihcfbglaa
set_option linter.unusedVariables false
/-- a sector is the record of its place -/
def okF (i : Nat) (s : ByteArray) : Prop := rdE s = 0 ∧ (rdC s).seq = (i : Int)
open Classical in
/-- the records from place i on, as long as each is the record of its place -/
noncomputable def prefF : Nat → List ByteArray → List Rc
  | _, [] => []
  | i, s :: t => if okF i s then rdC s :: prefF (i + 1) t else []
noncomputable def prefR (ss : List ByteArray) : List Rc := prefF 0 ss
/-- whoever goes from place to place, and stops at the first that is not, has the prefix -/
theorem pref_gen : ∀ (ss : List ByteArray) (i k : Nat), k ≤ ss.length → (∀ j s, j < k → ss[j]? = some s → okF (i + j) s) → (∀ s, ss[k]? = some s → ¬ okF (i + k) s) → prefF i ss = (ss.take k).map rdC
  | [], i, k, hk, _, _ => by simp [prefF]
  | s :: t, i, 0, _, _, hn => by
    have := hn s rfl
    simp only [Nat.add_zero] at this
    simp [prefF, this]
  | s :: t, i, k + 1, hk, hy, hn => by
    have h0 := hy 0 s (by omega) rfl
    simp only [Nat.add_zero] at h0
    have ih := pref_gen t (i + 1) k (by simpa using hk) (fun j u hj hu => by
      have := hy (j + 1) u (by omega) (by simpa using hu)
      rwa [show i + 1 + j = i + (j + 1) by omega]) (fun u hu => by
      have := hn u (by simpa using hu)
      rwa [show i + 1 + k = i + (k + 1) by omega])
    simp [prefF, h0, ih]
theorem pref_stop {ss : List ByteArray} {k : Nat} (hk : k ≤ ss.length) (hy : ∀ j s, j < k → ss[j]? = some s → okF j s) (hn : ∀ s, ss[k]? = some s → ¬ okF k s) : prefR ss = (ss.take k).map rdC :=
  pref_gen ss 0 k hk (fun j s hj hs => by rw [Nat.zero_add]; exact hy j s hj hs) (fun s hs => by rw [Nat.zero_add]; exact hn s hs)
theorem pref_len (ss : List ByteArray) : ∀ i, (prefF i ss).length ≤ ss.length := by
  induction ss with
  | nil => intro i; simp [prefF]
  | cons s t ih =>
    intro i
    unfold prefF
    split
    · simp; exact ih (i + 1)
    · simp
/-- each record of a prefix stands at its place, and its text is the sector -/
theorem pref_at : ∀ (ss : List ByteArray) (i j : Nat) (r : Rc), (prefF i ss)[j]? = some r → ∃ s, ss[j]? = some s ∧ r = rdC s ∧ okF (i + j) s
  | [], i, j, r, h => by simp [prefF] at h
  | s :: t, i, j, r, h => by
    unfold prefF at h
    split at h
    · next q =>
      match j with
      | 0 => simp at h; exact ⟨s, rfl, h.symm, q⟩
      | j + 1 =>
        obtain ⟨u, h1, h2, h3⟩ := pref_at t (i + 1) j r (by simpa using h)
        exact ⟨u, by simpa using h1, h2, by rwa [show i + (j + 1) = i + 1 + j by omega]⟩
    · simp at h
/-- .. and so it may be written, and is written so -/
theorem pref_text {ss : List ByteArray} {j : Nat} {r : Rc} (h : (prefR ss)[j]? = some r) : ∃ s, ss[j]? = some s ∧ wR r = s ∧ ckR r = 0 ∧ rdE s = 0 ∧ rdC s = r ∧ r.seq = (j : Int) := by
  obtain ⟨s, h1, h2, h3⟩ := pref_at ss 0 j r h
  obtain ⟨e1, e2, _⟩ := rdE_read h3.1
  refine ⟨s, h1, by rw [h2]; exact e1, by rw [h2]; exact e2, h3.1, h2.symm, ?_⟩
  have := h3.2
  rw [Nat.zero_add] at this
  rw [h2]
  exact this
/-- the prefix of a log that has at its places what others' prefix has -/
theorem pref_ge {ss : List ByteArray} {l : List Rc} (h : ∀ (j : Nat) r, l[j]? = some r → ss[j]? = some (wR r) ∧ ckR r = 0 ∧ r.seq = (j : Int)) : l <+: prefR ss := by
  have key : ∀ (l : List Rc) (ss : List ByteArray) (i : Nat), (∀ (j : Nat) r, l[j]? = some r → ss[j]? = some (wR r) ∧ ckR r = 0 ∧ r.seq = ((i + j : Nat) : Int)) → l <+: prefF i ss := by
    intro l
    induction l with
    | nil => intro ss i _; exact List.nil_prefix
    | cons r t ih =>
      intro ss i h
      obtain ⟨h1, h2, h3⟩ := h 0 r rfl
      match ss, h1 with
      | s :: u, h1 =>
        simp at h1
        subst h1
        obtain ⟨e1, e2⟩ := read_back h2
        have ok : okF i (wR r) := ⟨e1, by rw [e2]; simpa using h3⟩
        unfold prefF
        rw [if_pos ok, e2]
        refine (List.cons_prefix_cons).2 ⟨rfl, ih u (i + 1) fun j q hq => ?_⟩
        obtain ⟨g1, g2, g3⟩ := h (j + 1) q (by simpa using hq)
        exact ⟨by simpa using g1, g2, by rw [g3]; congr 1; omega⟩
  exact key l ss 0 fun j r hr => by rw [Nat.zero_add]; exact h j r hr
/-- of logs, the longest prefix, of several the first one -/
noncomputable def choR : List (List ByteArray) → Nat → List Rc × Int
  | _, 0 => ([], -1)
  | logs, k + 1 =>
    let b := choR logs k
    let p := prefR (logs.getD k [])
    if b.2 < 0 ∨ b.1.length < p.length then (p, (k : Int)) else b
end Go.Proofs.Ytaiafbihcfbglaa
