/- Records handed from one package to the other; which are small; what layer 11's live answers: true. What layer 11's live answers: true. -/
import Derived.Test.YtaiafbihcfbglaaRcRead
namespace Go.Proofs.Ytaiafbihcfbglaa
open Go.RowKit
set_option linter.unusedVariables false
/-- few places, short texts -/
def smlB (r : Rc) : Bool := decide (r.ls.length ≤ 20) && (decide (r.ek.size ≤ 100) && (decide (r.ed.size ≤ 100) && decide (r.k.size ≤ 100)))
theorem smlB_iff {r : Rc} : smlB r = true ↔ r.ls.length ≤ 20 ∧ r.ek.size ≤ 100 ∧ r.ed.size ≤ 100 ∧ r.k.size ≤ 100 := by unfold smlB; simp
/-- what came in lies within the machine's reach -/
def Rc.cm (r : Rc) : Prop := r.ls.length ≤ 9223372036854775807 ∧ r.ek.size ≤ 9223372036854775807 ∧ r.ed.size ≤ 9223372036854775807 ∧ r.k.size ≤ 9223372036854775807 ∧ (-9223372036854775808 ≤ r.eo ∧ r.eo ≤ 9223372036854775807)
theorem small_fit {r : Rc} (hc : r.cm) (h : smlB r = true) : r.fit := by
  obtain ⟨h1, h2, h3, h4⟩ := smlB_iff.1 h
  exact ⟨by omega, by omega, by omega, by omega, hc.2.2.2.2⟩
set_option maxRecDepth 100000 in
set_option maxHeartbeats 4000000 in
theorem small_any (r : Rc) (a : Option Addr) (c : Nat) (w : World) (hc : r.cm) : Calls Try.prog 11 #[.agg (rcs r a c)] w fun e w' => e = .returned (.bool (smlB r)) ∧ Below w.heap.size w w' := by
  have HB : Hid (Below w.heap.size w (w.alloc (.cells (rcs r a c) 33))) := (Below.refl _ _).alloc (Nat.le_refl _) _
  have HR := hide (rbx_new 33 r a c w)
  obtain ⟨m1, m2, m3, m4, m5⟩ := hc
  have main : ∀ b1 b2 b3 b4 : Bool, decide (r.ls.length ≤ 20) = b1 → decide (r.ek.size ≤ 100) = b2 → decide (r.ed.size ≤ 100) = b3 → decide (r.k.size ≤ 100) = b4 → Calls Try.prog 11 #[.agg (rcs r a c)] w fun e w' => e = .returned (.bool (b1 && (b2 && (b3 && b4)))) ∧ Below w.heap.size w w' := by
    intro b1 b2 b3 b4 p1 p2 p3 p4
    have q1 : decide ((r.ls.length : Int) ≤ 20) = b1 := by rw [← p1]; congr 1; simp; omega
    have q2 : decide ((r.ek.size : Int) ≤ 100) = b2 := by rw [← p2]; congr 1; simp; omega
    have q3 : decide ((r.ed.size : Int) ≤ 100) = b3 := by rw [← p3]; congr 1; simp; omega
    have q4 : decide ((r.k.size : Int) ≤ 100) = b4 := by rw [← p4]; congr 1; simp; omega
    go_enter Try.func11, Try.ntmps11
    go_upto_region 1 with fail
    generalize w.alloc (.cells (rcs r a c) 33) = W at *
    have c5 := HR.out.c5
    have c6 := HR.out.c6
    have c10 := HR.out.c10
    have c11 := HR.out.c11
    cases b1
    · go_wp2_with fail
      try go_ret
      exact ⟨rfl, HB.out⟩
    cases b2
    · go_wp2_with fail
      try go_ret
      exact ⟨rfl, HB.out⟩
    cases b3
    · go_wp2_with fail
      try go_ret
      exact ⟨rfl, HB.out⟩
    cases b4
    all_goals
      go_wp2_with fail
      try go_ret
      exact ⟨rfl, HB.out⟩
  exact main _ _ _ _ rfl rfl rfl rfl
end Go.Proofs.Ytaiafbihcfbglaa
namespace Go.Proofs.Ytaiafbihcfbglaa
open Go.RowKit
set_option linter.unusedVariables false
def sA : ByteArray := ⟨#[97]⟩
def rA : Rc := ⟨0, 1, 0, 0, 0, [], ByteArray.empty, 0, 0, 0, ByteArray.empty, ⟨#[97]⟩, 0, 0⟩
def rD : Rc := ⟨0, 1, 0, 0, 0, [], ByteArray.empty, 0, 0, 0, ByteArray.empty, ByteArray.empty, 0, 0⟩
def rP : Rc := ⟨0, 0, 0, 0, 0, [], ByteArray.empty, 0, 0, 0, ByteArray.empty, ByteArray.empty, 0, 0⟩
def r4 : Rc := ⟨0, 4, 0, 0, 0, [], ByteArray.empty, 0, 0, 0, ByteArray.empty, ByteArray.empty, 0, 0⟩
theorem one_key (c : UInt8) (h1 : 33 ≤ c.toNat) (h2 : c.toNat ≤ 126) : keyOk ⟨#[c]⟩ := by
  refine ⟨Nat.le_refl 1, (by show 1 ≤ 32; omega), fun p hp => ?_⟩
  have : p = 0 := by have : p < 1 := hp; omega
  subst this
  exact ⟨h1, h2⟩
theorem ck_A : ckR rA = 0 := ckR_ok ⟨by decide, by decide⟩ ((ckK_1 rfl).2 (one_key 97 (by decide) (by decide))) rfl
theorem ck_D : ckR rD = 11 := by
  have hk : ckK rD = 11 := by unfold ckK; rw [if_neg (by decide), if_pos (show rD.kind = 1 from rfl), if_neg (fun q => by have := q.1; simp [rD] at this)]
  rw [ckR_k ⟨by decide, by decide⟩ (by rw [hk]; decide), hk]
theorem ck_P : ckR rP = 1 := by
  have hk : ckK rP = 1 := by unfold ckK; rw [if_pos (show rP.kind = 0 from rfl), if_neg (fun q => by have := q.2.2.2.1; simp [rP] at this)]
  rw [ckR_k ⟨by decide, by decide⟩ (by rw [hk]; decide), hk]
theorem ck_4 : ckR r4 = 1 := ckR_sq (by decide)
theorem wA_size : (wR rA).size = 10 := by
  rw [wR_ok ck_A, sealS_size]
  show (sSJ ++ (numI 0 ++ (numI 1 ++ partB rA))).size + 4 = 10
  have hp : partB rA = textS ⟨#[97]⟩ := by unfold partB; rw [if_neg (by decide), if_pos (show rA.kind = 1 from rfl)]; rfl
  rw [hp, ByteArray.size_append, ByteArray.size_append, ByteArray.size_append, sSJ_size, numI_len1 (by omega) (by omega), numI_len1 (by omega) (by omega), textS_len (s := ⟨#[97]⟩) (by decide)]
  rfl
theorem rd_abc : rdE ⟨#[97, 98, 99]⟩ = 3 := by
  have h : opE ⟨#[97, 98, 99]⟩ = 3 := by unfold opE; rw [if_pos (by decide)]
  rw [(rdE_err (by rw [h]; decide)).1, h]
theorem rd_SJ : rdE (sealS sSJ) = 4 := by
  refine (rdE_no (opE_seal _) fun q => ?_).1
  obtain ⟨c, k⟩ := opT_body (opE_seal _) q
  generalize tkR (rest2 (opT (sealS sSJ))) = X at c k
  rw [opT_seal] at k
  have hs : sSJ.size = (bodyR X).size := by rw [← k]
  obtain ⟨⟨hs0, _⟩, _⟩ := ckR_zero.1 c
  unfold bodyR innR at hs
  rw [ByteArray.size_append, ByteArray.size_append, sSJ_size, numI_len1 hs0.1 (by omega)] at hs
  omega
theorem vol_zero : decide (volR 0 0 0 []) = false := by decide
theorem fit_A : rA.fit := ⟨by decide, by decide, by decide, by decide, by decide, by decide⟩
theorem fit_D : rD.fit := ⟨by decide, by decide, by decide, by decide, by decide, by decide⟩
theorem fit_P : rP.fit := ⟨by decide, by decide, by decide, by decide, by decide, by decide⟩
theorem fit_4 : r4.fit := ⟨by decide, by decide, by decide, by decide, by decide, by decide⟩
end Go.Proofs.Ytaiafbihcfbglaa
