/- Needles: what is written of them, what is read of any text. No walk stands here. The answers of reading, case by case. No walk stands here. -/
import Derived.Test.YtomcdajoeakhdaaDoorPkNum
import Derived.Test.YtomcdajoeakhdaaDoorShFin
namespace Go.Proofs.YtomcdajoeakhdaaDoor
/-- a needle: a key and a value -/
structure Nd where
  k : ByteArray
  v : ByteArray
theorem Nd.ext' {a b : Nd} (h1 : a.k = b.k) (h2 : a.v = b.v) : a = b := by
  cases a; cases b; simp at h1 h2; simp [h1, h2]
def Nd.zero : Nd := ⟨ByteArray.empty, ByteArray.empty⟩
def ncs (n : Nd) : Array Value := #[.string n.k, .string n.v]
def keyB (k : ByteArray) : Prop := ∀ p, p < k.size → 33 ≤ bt k p ∧ bt k p ≤ 126
def keyOk (k : ByteArray) : Prop := 1 ≤ k.size ∧ k.size ≤ 32 ∧ keyB k
/-- how many bytes a needle has -/
def nsz (n : Nd) : Nat := (textS n.k).size + (textS n.v).size + 32
open Classical in
/-- the error of a needle -/
noncomputable def ckE (n : Nd) : Int := if keyOk n.k then (if nsz n ≤ 384 then 0 else 12) else 11
theorem ckE_zero {n : Nd} : ckE n = 0 ↔ keyOk n.k ∧ nsz n ≤ 384 := by
  unfold ckE
  by_cases h1 : keyOk n.k
  · rw [if_pos h1]
    by_cases h2 : nsz n ≤ 384
    · rw [if_pos h2]; simp [h1, h2]
    · rw [if_neg h2]; simp [h2]
  · rw [if_neg h1]; simp [h1]
theorem ckE_key {n : Nd} (h : ¬ keyOk n.k) : ckE n = 11 := by unfold ckE; rw [if_neg h]
theorem ckE_big {n : Nd} (h : keyOk n.k) (h2 : 384 < nsz n) : ckE n = 12 := by unfold ckE; rw [if_pos h, if_neg (by omega)]
/-- a text's digest -/
def dg (v : ByteArray) : ByteArray := dig (bt v) v.size
theorem dg_size (v : ByteArray) : (dg v).size = 32 := mkS_size _ _
/-- a needle's bytes -/
def nbS (n : Nd) : ByteArray := textS n.k ++ (textS n.v ++ dg n.v)
theorem nbS_size (n : Nd) : (nbS n).size = nsz n := by
  unfold nbS nsz
  rw [ByteArray.size_append, ByteArray.size_append, dg_size]
  omega
open Classical in
noncomputable def nwS (n : Nd) : ByteArray := if ckE n = 0 then nbS n else ByteArray.empty
theorem nwS_ok {n : Nd} (h : ckE n = 0) : nwS n = nbS n := by unfold nwS; rw [if_pos h]
theorem nwS_bad {n : Nd} (h : ckE n ≠ 0) : nwS n = ByteArray.empty := by unfold nwS; rw [if_neg h]
/-- the needle that a text begins with, whether it may be written or not -/
def rdN (s : ByteArray) : Nd := ⟨tT s, tT (tR s)⟩
def rdB (s : ByteArray) : ByteArray := tR (tR s)
/-- the error of the two texts -/
def twoE (s : ByteArray) : Nat := if tE s ≠ 0 then tE s else tE (tR s)
open Classical in
/-- the error of reading -/
noncomputable def nrE (s : ByteArray) : Int := if twoE s ≠ 0 then (twoE s : Int) else if (rdB s).size < 32 then 3 else if (rdB s).extract 0 32 = dg (rdN s).v then ckE (rdN s) else 5
open Classical in
noncomputable def nrN (s : ByteArray) : Nd := if nrE s = 0 then rdN s else Nd.zero
open Classical in
noncomputable def nrR (s : ByteArray) : ByteArray := if nrE s = 0 then (rdB s).extract 32 (rdB s).size else ByteArray.empty
theorem nrE_zero {s : ByteArray} (h : nrE s = 0) : twoE s = 0 ∧ 32 ≤ (rdB s).size ∧ (rdB s).extract 0 32 = dg (rdN s).v ∧ ckE (rdN s) = 0 := by
  unfold nrE at h
  by_cases h1 : twoE s = 0
  · rw [if_neg (by simp [h1])] at h
    by_cases h2 : (rdB s).size < 32
    · rw [if_pos h2] at h; omega
    · rw [if_neg h2] at h
      by_cases h3 : (rdB s).extract 0 32 = dg (rdN s).v
      · rw [if_pos h3] at h; exact ⟨h1, by omega, h3, h⟩
      · rw [if_neg h3] at h; omega
  · rw [if_pos h1] at h; omega
theorem nrE_of {s : ByteArray} (h1 : twoE s = 0) (h2 : 32 ≤ (rdB s).size) (h3 : (rdB s).extract 0 32 = dg (rdN s).v) : nrE s = ckE (rdN s) := by
  unfold nrE
  rw [if_neg (by simp [h1]), if_neg (by omega), if_pos h3]
theorem textS_lt {s : ByteArray} : s.size ≤ (textS s).size := by unfold textS; rw [ByteArray.size_append]; omega
/-- what is written is read, whatever stands behind it -/
theorem nr_back {n : Nd} (h : ckE n = 0) (t : ByteArray) : nrE (nbS n ++ t) = 0 ∧ nrN (nbS n ++ t) = n ∧ nrR (nbS n ++ t) = t := by
  have hz := (ckE_zero.1 h).2
  have h1 := textS_lt (s := n.k)
  have h2 := textS_lt (s := n.v)
  unfold nsz at hz
  have e : nbS n ++ t = textS n.k ++ (textS n.v ++ (dg n.v ++ t)) := by unfold nbS; simp only [app_assoc]
  rw [e]
  obtain ⟨a1, a2, a3⟩ := rd_text (s := n.k) (textS n.v ++ (dg n.v ++ t)) (by omega)
  obtain ⟨b1, b2, b3⟩ := rd_text (s := n.v) (dg n.v ++ t) (by omega)
  generalize textS n.k ++ (textS n.v ++ (dg n.v ++ t)) = S at *
  have f1 : twoE S = 0 := by unfold twoE; rw [a1, a3, b1]; rfl
  have f2 : rdN S = n := by unfold rdN; rw [a2, a3, b2]
  have f3 : rdB S = dg n.v ++ t := by unfold rdB; rw [a3, b3]
  have f4 : (rdB S).extract 0 32 = dg (rdN S).v := by
    rw [f2, f3]
    have := ext_head (dg n.v) t
    rw [dg_size] at this
    exact this
  have f5 : 32 ≤ (rdB S).size := by rw [f3, ByteArray.size_append, dg_size]; omega
  have f6 : nrE S = 0 := by rw [nrE_of f1 f5 f4, f2]; exact h
  refine ⟨f6, ?_, ?_⟩
  · unfold nrN; rw [if_pos f6, f2]
  · unfold nrR
    rw [if_pos f6, f3]
    have := ext_tail (dg n.v) t
    rw [dg_size] at this
    exact this
theorem rdB_size (s : ByteArray) : (rdB s).size ≤ s.size := by
  unfold rdB
  have := tR_size (tR s)
  have := tR_size s
  omega
theorem nrR_size {s : ByteArray} : (nrR s).size ≤ s.size := by
  have := rdB_size s
  unfold nrR
  split
  · rw [ByteArray.size_extract]; omega
  · exact Nat.zero_le _
theorem nrR_less {s : ByteArray} (h : nrE s = 0) : (nrR s).size < s.size := by
  have h2 := (nrE_zero h).2.1
  have := rdB_size s
  unfold nrR
  rw [if_pos h, ByteArray.size_extract]
  omega
/-- what is left behind k needles -/
noncomputable def stL (s : ByteArray) : Nat → ByteArray
  | 0 => s
  | k + 1 => nrR (stL s k)
/-- k needles stand there -/
def GoN (s : ByteArray) (k : Nat) : Prop := ∀ j, j < k → (stL s j).size ≠ 0 ∧ nrE (stL s j) = 0
/-- and no more -/
def EndN (s : ByteArray) (k : Nat) : Prop := GoN s k ∧ ((stL s k).size = 0 ∨ nrE (stL s k) ≠ 0)
theorem GoN.next {s : ByteArray} {k : Nat} (h : GoN s k) (h1 : (stL s k).size ≠ 0) (h2 : nrE (stL s k) = 0) : GoN s (k + 1) := fun j hj => by
  by_cases e : j = k
  · rw [e]; exact ⟨h1, h2⟩
  · exact h j (by omega)
theorem EndN.one {s : ByteArray} {a b : Nat} (h : EndN s a) (k : EndN s b) : a = b := by
  rcases Nat.lt_trichotomy a b with c | c | c
  · have := k.1 a c
    rcases h.2 with q | q
    · exact absurd q this.1
    · exact absurd this.2 q
  · exact c
  · have := h.1 b c
    rcases k.2 with q | q
    · exact absurd q this.1
    · exact absurd this.2 q
theorem stL_size (s : ByteArray) : ∀ k, (stL s k).size ≤ s.size
  | 0 => Nat.le_refl _
  | k + 1 => by have := nrR_size (s := stL s k); have := stL_size s k; show (nrR (stL s k)).size ≤ _; omega
theorem GoN.small {s : ByteArray} : ∀ {k : Nat}, GoN s k → (stL s k).size + k ≤ s.size
  | 0, _ => Nat.le_refl _
  | k + 1, h => by
    have h1 := GoN.small (k := k) fun j hj => h j (by omega)
    have := nrR_less (h k (by omega)).2
    show (nrR (stL s k)).size + (k + 1) ≤ _
    omega
/-- the needles, and where they stand -/
noncomputable def ndsN (s : ByteArray) (k : Nat) : List Nd := (List.range k).map fun j => nrN (stL s j)
def offF (s t : ByteArray) : Nat := s.size - t.size
noncomputable def offN (s : ByteArray) (k : Nat) : List Int := (List.range k).map fun j => ((offF s (stL s j) : Nat) : Int)
theorem ndsN_succ (s : ByteArray) (k : Nat) : ndsN s (k + 1) = ndsN s k ++ [nrN (stL s k)] := by unfold ndsN; rw [List.range_succ, List.map_append]; rfl
theorem offN_succ (s : ByteArray) (k : Nat) : offN s (k + 1) = offN s k ++ [((offF s (stL s k) : Nat) : Int)] := by unfold offN; rw [List.range_succ, List.map_append]; rfl
theorem ndsN_len (s : ByteArray) (k : Nat) : (ndsN s k).length = k := by simp [ndsN]
theorem offN_len (s : ByteArray) (k : Nat) : (offN s k).length = k := by simp [offN]
end Go.Proofs.YtomcdajoeakhdaaDoor
namespace Go.Proofs.YtomcdajoeakhdaaDoor
theorem nr_bad {s : ByteArray} {E : Int} (e : nrE s = E) (h : E ≠ 0) : nrE s = E ∧ nrN s = Nd.zero ∧ nrR s = ByteArray.empty := by
  have h0 : ¬ nrE s = 0 := by rw [e]; exact h
  exact ⟨e, by unfold nrN; rw [if_neg h0], by unfold nrR; rw [if_neg h0]⟩
theorem nr_A {s : ByteArray} (h : tE s ≠ 0) : nrE s = ((tE s : Nat) : Int) ∧ nrN s = Nd.zero ∧ nrR s = ByteArray.empty := by
  have hz : twoE s = tE s := by unfold twoE; rw [if_pos h]
  exact nr_bad (by unfold nrE; rw [hz, if_pos h]) (by omega)
theorem nr_B {s S : ByteArray} (hS : tR s = S) (h : tE s = 0) (h2 : tE S ≠ 0) : nrE s = ((tE S : Nat) : Int) ∧ nrN s = Nd.zero ∧ nrR s = ByteArray.empty := by
  have hz : twoE s = tE S := by unfold twoE; rw [h, hS]; rfl
  exact nr_bad (by unfold nrE; rw [hz, if_pos h2]) (by omega)
theorem two_C {s S : ByteArray} (hS : tR s = S) (h : tE s = 0) (h2 : tE S = 0) : twoE s = 0 := by unfold twoE; rw [h, hS, h2]; rfl
theorem nr_C1 {s : ByteArray} (h : twoE s = 0) (h3 : (rdB s).size < 32) : nrE s = 3 ∧ nrN s = Nd.zero ∧ nrR s = ByteArray.empty :=
  nr_bad (by unfold nrE; rw [h, if_neg (by decide), if_pos h3]) (by decide)
theorem nr_C2 {s : ByteArray} (h : twoE s = 0) (h3 : 32 ≤ (rdB s).size) (h4 : (rdB s).extract 0 32 ≠ dg (rdN s).v) : nrE s = 5 ∧ nrN s = Nd.zero ∧ nrR s = ByteArray.empty :=
  nr_bad (by unfold nrE; rw [h, if_neg (by decide), if_neg (by omega), if_neg h4]) (by decide)
theorem nr_C3 {s : ByteArray} (h : twoE s = 0) (h3 : 32 ≤ (rdB s).size) (h4 : (rdB s).extract 0 32 = dg (rdN s).v) (h5 : ckE (rdN s) ≠ 0) : nrE s = ckE (rdN s) ∧ nrN s = Nd.zero ∧ nrR s = ByteArray.empty :=
  nr_bad (nrE_of h h3 h4) h5
theorem nr_C4 {s : ByteArray} (h : twoE s = 0) (h3 : 32 ≤ (rdB s).size) (h4 : (rdB s).extract 0 32 = dg (rdN s).v) (h5 : ckE (rdN s) = 0) : nrE s = 0 ∧ nrN s = rdN s ∧ nrR s = (rdB s).extract 32 (rdB s).size := by
  have e : nrE s = 0 := by rw [nrE_of h h3 h4, h5]
  exact ⟨e, by unfold nrN; rw [if_pos e], by unfold nrR; rw [if_pos e]⟩
end Go.Proofs.YtomcdajoeakhdaaDoor
