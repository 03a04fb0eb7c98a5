/- Keys: what needle.isKey, size and Check answer; the document's Key. (For seats without digests: in the place of NeMath, NeKey, NeCheck.) -/
import Derived.Test.YtlpibpkbgmcclaaDoorPkReaderX
import Derived.Lib.QuietBelow
import Derived.Deep.Cut
namespace Go.Proofs.YtlpibpkbgmcclaaDoor
open Go.RowKit
set_option linter.unusedVariables false
/-- a needle: a key and a value -/
structure Nd where
  k : ByteArray
  v : ByteArray
theorem Nd.ext' {a b : Nd} (h1 : a.k = b.k) (h2 : a.v = b.v) : a = b := by
  cases a; cases b; simp at h1 h2; simp [h1, h2]
def Nd.zero : Nd := ⟨ByteArray.empty, ByteArray.empty⟩
def ncs (n : Nd) : Array Value := #[.string n.k, .string n.v]
def keyB (k : ByteArray) : Prop := ∀ p, p < k.size → 33 ≤ bt k p ∧ bt k p ≤ 126
def keyOk (k : ByteArray) : Prop := 1 ≤ k.size ∧ k.size ≤ 32 ∧ keyB k
/-- how many bytes a needle has -/
def nsz (n : Nd) : Nat := (textS n.k).size + (textS n.v).size + 32
open Classical in
/-- the error of a needle -/
noncomputable def ckE (n : Nd) : Int := if keyOk n.k then (if nsz n ≤ 384 then 0 else 12) else 11
theorem ckE_zero {n : Nd} : ckE n = 0 ↔ keyOk n.k ∧ nsz n ≤ 384 := by
  unfold ckE
  by_cases h1 : keyOk n.k
  · rw [if_pos h1]
    by_cases h2 : nsz n ≤ 384
    · rw [if_pos h2]; simp [h1, h2]
    · rw [if_neg h2]; simp [h2]
  · rw [if_neg h1]; simp [h1]
theorem ckE_key {n : Nd} (h : ¬ keyOk n.k) : ckE n = 11 := by unfold ckE; rw [if_neg h]
theorem ckE_big {n : Nd} (h : keyOk n.k) (h2 : 384 < nsz n) : ckE n = 12 := by unfold ckE; rw [if_pos h, if_neg (by omega)]
open Classical in
noncomputable def kOk (k : ByteArray) : Bool := decide (keyOk k)
open Classical in
theorem kOk_no {k : ByteArray} (h : ¬ keyOk k) : false = kOk k := by unfold kOk; rw [decide_eq_false h]
open Classical in
theorem kOk_yes {k : ByteArray} (h : keyOk k) : true = kOk k := by unfold kOk; rw [decide_eq_true h]
theorem is_empty {s : ByteArray} (h : s.size = 0) : s.toList.isEmpty = true := by rw [size_zero h, ByteArray.toList_eq]; rfl
set_option maxRecDepth 100000 in
set_option maxHeartbeats 2000000 in
theorem isKey_any (k : ByteArray) (w : World) (hk63 : k.size ≤ 9223372036854775807) : Calls Tryd.prog 36 #[.string k] w fun r w' => r = .returned (.bool (kOk k)) ∧ w = w' := by
  by_cases h0 : k.size = 0
  · have he := is_empty h0
    have hno : Hid (¬ keyOk k) := fun h => by have := h.1; omega
    go_enter Tryd.func36, Tryd.ntmps36
    go_wp2_with fail
    try go_ret
    exact ⟨ret_bool (kOk_no hno.out), rfl⟩
  have he := not_empty h0
  by_cases h32 : 32 < k.size
  · have hno : Hid (¬ keyOk k) := fun h => by have := h.2.1; omega
    have hd : decide ((32 : Int) < (k.size : Int)) = true := by simp; omega
    go_enter Tryd.func36, Tryd.ntmps36
    go_wp2_with fail
    try go_ret
    exact ⟨ret_bool (kOk_no hno.out), rfl⟩
  have hd : decide ((32 : Int) < (k.size : Int)) = false := by simp; omega
  go_enter Tryd.func36, Tryd.ntmps36
  go_wp2_with fail
  go_loop [13] (fun y => ∃ j : Nat, j ≤ k.size ∧ y = .int .i64 j ∧ ∀ p, p < j → 33 ≤ bt k p ∧ bt k p ≤ 126) (fun y => k.size - (intOf y).toNat)
  case atStart => exact ⟨0, by omega, rfl, fun p hp => by omega⟩
  case round =>
    obtain ⟨j, hj, rfl, hok⟩ := hrel
    have HOK := hide hok
    clear hok
    by_cases hz : j < k.size
    · have hdj : decide ((j : Int) < (k.size : Int)) = true := by simp; omega
      have hb : (j : Int) < k.size := by omega
      have HB := hide (bt_eq hz)
      generalize hcc : (k[j]'hz).toNat = c at *
      by_cases h33 : c < 33
      · have hd2 : decide ((c : Int) < 33) = true := by simp; omega
        have hno : Hid (¬ keyOk k) := fun h => by have := (h.2.2 j hz).1; rw [← HB.out] at this; omega
        go_wp2_with fail
        try go_ret
        exact ⟨ret_bool (kOk_no hno.out), rfl⟩
      · have hd2 : decide ((c : Int) < 33) = false := by simp; omega
        by_cases h126 : 126 < c
        · have hd3 : decide ((126 : Int) < (c : Int)) = true := by simp; omega
          have hno : Hid (¬ keyOk k) := fun h => by have := (h.2.2 j hz).2; rw [← HB.out] at this; omega
          go_wp2_with fail
          try go_ret
          exact ⟨ret_bool (kOk_no hno.out), rfl⟩
        · have hd3 : decide ((126 : Int) < (c : Int)) = false := by simp; omega
          have HN : Hid (∀ p, p < j + 1 → 33 ≤ bt k p ∧ bt k p ≤ 126) := fun p hp => by
            by_cases e : p = j
            · rw [e, ← HB.out]; omega
            · exact HOK.out p (by omega)
          go_wp2_with fail
          exact ⟨⟨j + 1, by omega, by go_num, HN.out⟩, by simp [intOf]; omega⟩
    · have hdj : decide ((j : Int) < (k.size : Int)) = false := by simp; omega
      have hyes : Hid (keyOk k) := ⟨by omega, by omega, fun p hp => HOK.out p (by omega)⟩
      go_wp2_with fail
      try go_ret
      exact ⟨ret_bool (kOk_yes hyes.out), rfl⟩
set_option maxRecDepth 100000 in
set_option maxHeartbeats 2000000 in
theorem textSize_any (s : ByteArray) (w : World) (hs : s.size ≤ 1000000000000000) : Calls Tryd.prog 45 #[.string s] w fun r w' => r = .returned (.int .i64 ((textS s).size : Nat)) ∧ Below w.heap.size w w' := by
  have HT : Hid ((((numS s.size).size : Nat) : Int) + ((s.size : Nat) : Int) = (((textS s).size : Nat) : Int)) := by show _ = _; unfold textS; rw [ByteArray.size_append]; omega
  have hz := numS_size s.size
  have hz8 := nlen_top (n := s.size) (by omega)
  rw [← hz] at hz8
  clear hz
  go_enter Tryd.func45, Tryd.ntmps45
  go_wp2_with fail
  refine (number_nat s.size w (by omega)).mono ?_
  rintro e w1 ⟨rfl, hb1⟩
  have HB1 := hide hb1
  clear hb1
  generalize numS s.size = N at *
  go_wp2_with fail
  try go_ret
  exact ⟨ret_int HT.out, HB1.out⟩
/-- a needle in a block of its own -/
def NBx (bx : Nat) (t : TypeId) (n : Nd) (w : World) : Prop := w.heap[bx]? = some (.cells (ncs n) t (0, 0))
theorem NBx.c0 {bx : Nat} {t : TypeId} {n : Nd} {w : World} (k : NBx bx t n w) : w.cell? ⟨bx, 0, none⟩ = some (.string n.k) := cell_of_block k
theorem NBx.c1 {bx : Nat} {t : TypeId} {n : Nd} {w : World} (k : NBx bx t n w) : w.cell? ⟨bx, 1, none⟩ = some (.string n.v) := cell_of_block k
theorem NBx.free {bx : Nat} {t : TypeId} {n : Nd} {w : World} (k : NBx bx t n w) (p : Nat) : w.frozen? ⟨bx, p, none⟩ = false := free_of_block k
theorem NBx.below {bx B : Nat} {t : TypeId} {n : Nd} {w w' : World} (k : NBx bx t n w) (hb : Below B w w') (hB : bx < B) : NBx bx t n w' := (hb.block bx hB).trans k
theorem NBx.lt {bx : Nat} {t : TypeId} {n : Nd} {w : World} (k : NBx bx t n w) : bx < w.heap.size := lt_of_block k
theorem NBx.but {bx b : Nat} {t : TypeId} {n : Nd} {w w' : World} (k : NBx bx t n w) (hb : But b w w') (hne : bx ≠ b) : NBx bx t n w' := (hb.block bx hne).trans k
theorem nbx_new (t : TypeId) (n : Nd) (w : World) : NBx w.heap.size t n (w.alloc (.cells (ncs n) t)) := heap_alloc_new _ _
theorem NBx.sk {bx : Nat} {t : TypeId} {n : Nd} {w : World} (h : NBx bx t n w) (x : ByteArray) : NBx bx t { n with k := x } (w.setCell ⟨bx, 0, none⟩ (.string x)) := block_setCell _ h
theorem NBx.sv {bx : Nat} {t : TypeId} {n : Nd} {w : World} (h : NBx bx t n w) (x : ByteArray) : NBx bx t { n with v := x } (w.setCell ⟨bx, 1, none⟩ (.string x)) := block_setCell _ h
theorem NBx.away {bx c o : Nat} {t : TypeId} {n : Nd} {w : World} (k : NBx bx t n w) (hne : bx ≠ c) (u : Value) : NBx bx t n (w.setCell ⟨c, o, none⟩ u) := (Below.heap_setCell _ _ _ _ hne).trans k
theorem kOk_t {k : ByteArray} (h : keyOk k) : kOk k = true := (kOk_yes h).symm
theorem kOk_f {k : ByteArray} (h : ¬ keyOk k) : kOk k = false := (kOk_no h).symm
theorem tsize_q (s : ByteArray) (wr : World) (hs : s.size ≤ 1000000000000000) : ∀ q os, Calls Tryd.prog 45 #[.string s] (Go.Sort.grow (redrawn wr q) os) fun e w'' => e = .returned (.int .i64 ((textS s).size : Nat)) ∧ ∃ p : Regrown, w'' = Go.Sort.grow (redrawn wr p.d) p.os := fun q os => Calls.regrown_of (textSize_any s _ hs)
theorem textS_le {s : ByteArray} {m : Nat} (h : s.size ≤ m) (hm : m ≤ 1000000000000000) : (textS s).size ≤ m + 8 := by
  unfold textS; rw [ByteArray.size_append, numS_size]
  have := nlen_top (n := s.size) (by omega)
  omega
set_option maxRecDepth 100000 in
set_option maxHeartbeats 8000000 in
theorem nsize_any (n : Nd) (w : World) (hk : n.k.size ≤ 150000000000000) (hv : n.v.size ≤ 150000000000000) : Calls Tryd.prog 37 #[.agg (ncs n)] w fun r w' => r = .returned (.int .i64 (nsz n : Nat)) ∧ Below w.heap.size w w' := by
  have HB : Hid (Below w.heap.size w (w.alloc (.cells (ncs n) 66))) := (Below.refl _ _).alloc (Nat.le_refl _) _
  have HN := hide (nbx_new 66 n w)
  have z1 := textS_le hk (by omega)
  have z2 := textS_le hv (by omega)
  have HS : Hid (IntKind.i64.wrap (IntKind.i64.wrap (((textS n.k).size : Int) + ((textS n.v).size : Int)) + 32) = ((nsz n : Nat) : Int)) := by show _ = _; unfold nsz; rw [IntKind.wrap_i64, IntKind.wrap_i64]; omega
  have e0 := cell_regrown HN.out.c0
  have e1 := cell_regrown HN.out.c1
  have r0 := tsize_q n.k (w.alloc (.cells (ncs n) 66)) (by omega)
  have r1 := tsize_q n.v (w.alloc (.cells (ncs n) 66)) (by omega)
  obtain ⟨k, v⟩ := n
  simp only [ncs] at HB hk hv z1 z2 e0 e1 r0 r1 HS ⊢
  go_enter Tryd.func37, Tryd.ntmps37
  go_upto_region 1 with fail
  generalize w.alloc (.cells #[.string k, .string v] 66) = W1 at *
  generalize (textS k).size = a at *
  generalize (textS v).size = b at *
  refine wp_region_quiet_below (by kernel_rfl) (by kernel_rfl) ?_
  repeat (quiet_step (first | (with_reducible exact r0 _ _) | (with_reducible exact r1 _ _)))
  refine wpQuiet_nil ?_
  intro _ hw'
  obtain ⟨pq, hw''⟩ := hw'
  subst hw''
  have HQ := hide (HB.out.trans ((below_regrown W1 pq.d pq.os).mono HB.out.size))
  generalize Go.Sort.grow (redrawn W1 pq.d) pq.os = WQ at *
  go_wp2_with fail
  try go_ret
  exact ⟨ret_int HS.out, HQ.out⟩
set_option maxRecDepth 100000 in
set_option maxHeartbeats 8000000 in
theorem ncheck_any (n : Nd) (w : World) (hk : n.k.size ≤ 150000000000000) (hv : n.v.size ≤ 150000000000000) : Calls Tryd.prog 25 #[.agg (ncs n)] w fun r w' => r = .returned (.int .i64 (ckE n)) ∧ Below w.heap.size w w' := by
  have HB : Hid (Below w.heap.size w (w.alloc (.cells (ncs n) 66))) := (Below.refl _ _).alloc (Nat.le_refl _) _
  have H1 := hide (isKey_any n.k (w.alloc (.cells (ncs n) 66)) (by omega))
  have H2 := hide (nsize_any n (w.alloc (.cells (ncs n) 66)) hk hv)
  by_cases hkey : keyOk n.k
  case neg =>
    rw [ckE_key hkey]
    rw [kOk_f hkey] at H1
    clear hkey
    obtain ⟨k, v⟩ := n
    simp only [ncs] at HB H1 H2 ⊢
    go_enter Tryd.func25, Tryd.ntmps25
    go_wp2_with fail
    refine H1.out.mono ?_
    rintro e w1 ⟨rfl, rfl⟩
    go_wp2_with fail
    try go_ret
    exact ⟨rfl, HB.out⟩
  rw [kOk_t hkey] at H1
  by_cases hbig : 384 < nsz n
  · rw [ckE_big hkey hbig]
    have hd : decide ((384 : Int) < ((nsz n : Nat) : Int)) = true := by simp; omega
    clear hkey
    generalize nsz n = N at *
    obtain ⟨k, v⟩ := n
    simp only [ncs] at HB H1 H2 ⊢
    go_enter Tryd.func25, Tryd.ntmps25
    go_wp2_with fail
    refine H1.out.mono ?_
    rintro e w1 ⟨rfl, rfl⟩
    go_wp2_with fail
    refine H2.out.mono ?_
    rintro e w1 ⟨rfl, hb⟩
    have HB1 := hide (HB.out.trans (hb.mono HB.out.size))
    clear hb
    go_wp2_with fail
    try go_ret
    exact ⟨rfl, HB1.out⟩
  rw [ckE_zero.2 ⟨hkey, by omega⟩]
  have hd : decide ((384 : Int) < ((nsz n : Nat) : Int)) = false := by simp; omega
  clear hkey
  generalize nsz n = N at *
  obtain ⟨k, v⟩ := n
  simp only [ncs] at HB H1 H2 ⊢
  go_enter Tryd.func25, Tryd.ntmps25
  go_wp2_with fail
  refine H1.out.mono ?_
  rintro e w1 ⟨rfl, rfl⟩
  go_wp2_with fail
  refine H2.out.mono ?_
  rintro e w1 ⟨rfl, hb⟩
  have HB1 := hide (HB.out.trans (hb.mono HB.out.size))
  clear hb
  go_wp2_with fail
  try go_ret
  exact ⟨rfl, HB1.out⟩
end Go.Proofs.YtlpibpkbgmcclaaDoor
