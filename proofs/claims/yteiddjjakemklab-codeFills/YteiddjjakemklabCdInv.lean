/- Any six shards tell all: from the certificates to what invert needs, and to the shards' coming back. -/
import Derived.Test.YteiddjjakemklabCdCert
import Derived.Test.YteiddjjakemklabCdSolve
namespace Go.Proofs.Yteiddjjakemklab
open Go.RowKit
open Cd
theorem allN2 {n m : Nat} {f : Nat → Nat → Bool} (h : Gf.allN n (fun i => Gf.allN m (f i)) = true) {i j : Nat} (hi : i < n) (hj : j < m) : f i j = true := Gf.allN_spec (Gf.allN_spec h i hi) j hj
theorem mmN_eq (A B : Mat) (i k : Nat) : mmN A B i k = mm A B i k := by
  unfold mmN mm; exact xs_congr fun j _ => mulN_eq _ _
theorem ends_of {k : Cert} (h : k.ok = true) : k.idx.length = 6 ∧ (∀ i, i < 6 → k.idx.getD i 0 < 9) ∧ ∀ i j, i < 6 → j < 6 → k.m 0 i j = fac (k.idx.getD i 0) j ∧ k.a 0 i j = unitM i j ∧ mm (k.a 6) (k.m 0) i j = unitM i j ∧ mm (k.m 0) (k.a 6) i j = unitM i j := by
  unfold Cert.ok at h
  simp only [Bool.and_eq_true] at h
  have h1 := h.1
  unfold ckEnds at h1
  simp only [Bool.and_eq_true, decide_eq_true_eq] at h1
  refine ⟨h1.1.1, fun i hi => by simpa using Gf.allN_spec h1.1.2 i hi, fun i j hi hj => ?_⟩
  have := allN2 h1.2 hi hj
  simp only [Bool.and_eq_true, beq_iff_eq] at this
  refine ⟨this.1.1.1, this.1.1.2, ?_, ?_⟩
  · rw [← mmN_eq]; exact this.1.2
  · rw [← mmN_eq]; exact this.2
theorem step_of {k : Cert} (h : k.ok = true) {c : Nat} (hc : c < 6) : c ≤ k.r c ∧ k.r c < 6 ∧ 0 < k.m c (k.r c) c ∧ (∀ q, q < 6 → c ≤ q → q < k.r c → k.m c q c = 0) ∧
    ∀ i j, i < 6 → j < 6 → k.m (c + 1) i j = (colStep (k.m c, k.a c) c (k.r c)).1 i j ∧ k.a (c + 1) i j = (colStep (k.m c, k.a c) c (k.r c)).2 i j := by
  unfold Cert.ok at h
  simp only [Bool.and_eq_true] at h
  have h1 := Gf.allN_spec h.2 c hc
  unfold ckStep at h1
  simp only [Bool.and_eq_true, decide_eq_true_eq] at h1
  refine ⟨h1.1.1.1.1, h1.1.1.1.2, h1.1.1.2, fun q hq h2 h3 => ?_, fun i j hi hj => ?_⟩
  · have := Gf.allN_spec h1.1.2 q hq
    simp only [Bool.or_eq_true, decide_eq_true_eq, beq_iff_eq] at this
    unfold Cert.r at h3
    rcases this with (h4 | h4) | h4
    · omega
    · omega
    · exact h4
  · have := allN2 h1.2 hi hj
    simp only [Bool.and_eq_true, beq_iff_eq] at this
    refine ⟨?_, ?_⟩
    · show k.m (c + 1) i j = clearTo (scaleR (swapR (k.m c) c (k.r c)) c (Gf.over 1 (k.m c (k.r c) c))) (scaleR (swapR (k.m c) c (k.r c)) c (Gf.over 1 (k.m c (k.r c) c))) c 6 i j
      rw [← clN_eq _ _ _ _ _ _ _ hi, ← overN_eq]; exact this.1
    · show k.a (c + 1) i j = clearTo (scaleR (swapR (k.m c) c (k.r c)) c (Gf.over 1 (k.m c (k.r c) c))) (scaleR (swapR (k.a c) c (k.r c)) c (Gf.over 1 (k.m c (k.r c) c))) c 6 i j
      rw [← clN_eq _ _ _ _ _ _ _ hi, ← overN_eq]; exact this.2
theorem clears_of {k : Cert} (h : k.ok = true) : Clears (rowsOf k.idx) (fun c => (k.m c, k.a c)) k.r := by
  refine ⟨fun i j hi hj => ?_, fun c hc => (step_of h hc).1, fun c hc => (step_of h hc).2.1, fun c hc r h1 h2 => (step_of h hc).2.2.2.1 r (by have := (step_of h hc).2.1; omega) h1 h2, fun c hc => (step_of h hc).2.2.1, fun c hc => (step_of h hc).2.2.2.2, fun c _ => ⟨fun i j => getM_lt _ i j, fun i j => getM_lt _ i j⟩⟩
  have := (ends_of h).2.2 i j hi hj
  refine ⟨?_, this.2.1⟩
  unfold rowsOf
  rw [show (k.m 0, k.a 0).1 i j = k.m 0 i j from rfl, this.1, List.getD_eq_getElem?_getD]
/-- the indexes of the first six shards that there are -/
def idxOf (hv : List Bool) : List Nat := ((List.range 9).filter fun i => hv[i]?.getD false).take 6
def cntOf (hv : List Bool) : Nat := ((List.range 9).filter fun i => hv[i]?.getD false).length
def allB (f : Bool → Bool) : Bool := f true && f false
theorem allB_spec {f : Bool → Bool} (h : allB f = true) (b : Bool) : f b = true := by
  unfold allB at h; simp at h; cases b
  · exact h.2
  · exact h.1
theorem cover_b : allB (fun b0 => allB fun b1 => allB fun b2 => allB fun b3 => allB fun b4 => allB fun b5 => allB fun b6 => allB fun b7 => allB fun b8 =>
    decide (cntOf [b0, b1, b2, b3, b4, b5, b6, b7, b8] < 6) || certs.any (fun k => k.idx == idxOf [b0, b1, b2, b3, b4, b5, b6, b7, b8])) = true := by decide +kernel
theorem cover {hv : List Bool} (hl : hv.length = 9) (h6 : 6 ≤ cntOf hv) : ∃ k ∈ certs, k.idx = idxOf hv := by
  obtain ⟨b0, b1, b2, b3, b4, b5, b6, b7, b8, rfl⟩ : ∃ b0 b1 b2 b3 b4 b5 b6 b7 b8, hv = [b0, b1, b2, b3, b4, b5, b6, b7, b8] := by
    match hv, hl with
    | [b0, b1, b2, b3, b4, b5, b6, b7, b8], _ => exact ⟨b0, b1, b2, b3, b4, b5, b6, b7, b8, rfl⟩
  have := allB_spec (allB_spec (allB_spec (allB_spec (allB_spec (allB_spec (allB_spec (allB_spec (allB_spec cover_b b0) b1) b2) b3) b4) b5) b6) b7) b8
  simp only [Bool.or_eq_true, decide_eq_true_eq, List.any_eq_true, beq_iff_eq] at this
  rcases this with h | ⟨k, hk, he⟩
  · omega
  · exact ⟨k, hk, he⟩
theorem sumS_bt {r : Nat → Nat} {l : List ByteArray} {L p : Nat} (hp : p < L) : bt (sumS r l L) p = dot r (fun i => bt (l[i]?.getD ByteArray.empty) p) := mkS_bt hp (partS_lt _ _ _ _)
/-- the data that six shards tell -/
def dataL (B : Mat) (l6 : List ByteArray) (L : Nat) : List ByteArray := (List.range 6).map fun j => sumS (B j) l6 L
theorem dataL_at {B : Mat} {l6 : List ByteArray} {L j : Nat} (hj : j < 6) : (dataL B l6 L)[j]?.getD ByteArray.empty = sumS (B j) l6 L := by simp [dataL, hj]
/-- what is told has the six shards -/
theorem told_has {k : Cert} (h : k.ok = true) {l6 : List ByteArray} {L : Nat} {t : Nat} (ht : t < 6) {s : ByteArray} (hs : l6[t]? = some s) (hz : s.size = L) : sh (dataL (k.a 6) l6 L) L (k.idx.getD t 0) = s := by
  apply ext_bt
  · rw [hz]; exact mkS_size _ _
  · intro p hp
    have hp' : p < L := by rwa [show (sh (dataL (k.a 6) l6 L) L (k.idx.getD t 0)).size = L from mkS_size _ _] at hp
    have e := (ends_of h).2.2
    unfold sh
    rw [sumS_bt hp']
    rw [dot_congr (r := fac (k.idx.getD t 0)) (r' := k.m 0 t) (v' := fun j => dot (k.a 6 j) (fun i => bt (l6[i]?.getD ByteArray.empty) p)) (fun j hj => (e t j ht hj).1.symm) (fun j hj => by rw [dataL_at hj, sumS_bt hp'])]
    rw [dot_dot (A := k.m 0) (B := k.a 6) (i := t) (fun j => getM_lt _ t j) (fun i => bt_lt _ _)]
    rw [dot_congr (r' := unitM t) (v' := fun i => bt (l6[i]?.getD ByteArray.empty) p) (fun j hj => (e t j ht hj).2.2.2) (fun j _ => rfl), dot_unit (v := fun i => bt (l6[i]?.getD ByteArray.empty) p) ht (bt_lt _ _), hs]
    rfl
/-- of a codeword's shards the data come back -/
theorem data_back {k : Cert} (h : k.ok = true) {l6 data : List ByteArray} {L : Nat} (hd : data.length = 6) (hz : ∀ s ∈ data, s.size = L) (hc : ∀ t, t < 6 → l6[t]? = some (sh data L (k.idx.getD t 0))) : dataL (k.a 6) l6 L = data := by
  apply List.ext_getElem?
  intro j
  by_cases hj : j < 6
  · obtain ⟨s, hs⟩ : ∃ s, data[j]? = some s := ⟨_, List.getElem?_eq_getElem (by omega)⟩
    have hsz := hz s (List.mem_of_getElem? hs)
    rw [hs, show (dataL (k.a 6) l6 L)[j]? = some (sumS (k.a 6 j) l6 L) by simp [dataL, hj]]
    congr 1
    apply ext_bt
    · rw [hsz]; exact mkS_size _ _
    · intro p hp
      have hp' : p < L := by rwa [show (sumS (k.a 6 j) l6 L).size = L from mkS_size _ _] at hp
      have e := (ends_of h).2.2
      rw [sumS_bt hp']
      rw [dot_congr (r' := k.a 6 j) (v' := fun t => dot (k.m 0 t) (fun i => bt (data[i]?.getD ByteArray.empty) p)) (fun _ _ => rfl) (fun t ht => by
        rw [hc t ht]
        show bt (sh data L (k.idx.getD t 0)) p = _
        unfold sh
        rw [sumS_bt hp']
        exact dot_congr (fun i hi => (e t i ht hi).1.symm) (fun _ _ => rfl))]
      rw [dot_dot (A := k.a 6) (B := k.m 0) (i := j) (fun i => getM_lt _ j i) (fun i => bt_lt _ _)]
      rw [dot_congr (r' := unitM j) (v' := fun i => bt (data[i]?.getD ByteArray.empty) p) (fun i hi => (e j i hj hi).2.2.1) (fun _ _ => rfl), dot_unit (v := fun i => bt (data[i]?.getD ByteArray.empty) p) hj (bt_lt _ _), hs]
      rfl
  · rw [List.getElem?_eq_none (by simp [dataL]; omega), List.getElem?_eq_none (by omega)]
end Go.Proofs.Yteiddjjakemklab
