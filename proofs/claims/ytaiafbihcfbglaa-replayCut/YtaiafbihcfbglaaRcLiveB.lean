/- What layer 11's live answers: true. -/
import Derived.Test.YtaiafbihcfbglaaRcLive
namespace Go.Proofs.Ytaiafbihcfbglaa
open Go.RowKit
set_option linter.unusedVariables false
def sA : ByteArray := ⟨#[97]⟩
def rA : Rc := ⟨0, 1, 0, 0, 0, [], ByteArray.empty, 0, 0, 0, ByteArray.empty, ⟨#[97]⟩, 0, 0⟩
def rD : Rc := ⟨0, 1, 0, 0, 0, [], ByteArray.empty, 0, 0, 0, ByteArray.empty, ByteArray.empty, 0, 0⟩
def rP : Rc := ⟨0, 0, 0, 0, 0, [], ByteArray.empty, 0, 0, 0, ByteArray.empty, ByteArray.empty, 0, 0⟩
def r4 : Rc := ⟨0, 4, 0, 0, 0, [], ByteArray.empty, 0, 0, 0, ByteArray.empty, ByteArray.empty, 0, 0⟩
theorem one_key (c : UInt8) (h1 : 33 ≤ c.toNat) (h2 : c.toNat ≤ 126) : keyOk ⟨#[c]⟩ := by
  refine ⟨Nat.le_refl 1, (by show 1 ≤ 32; omega), fun p hp => ?_⟩
  have : p = 0 := by have : p < 1 := hp; omega
  subst this
  exact ⟨h1, h2⟩
theorem ck_A : ckR rA = 0 := ckR_ok ⟨by decide, by decide⟩ ((ckK_1 rfl).2 (one_key 97 (by decide) (by decide))) rfl
theorem ck_D : ckR rD = 11 := by
  have hk : ckK rD = 11 := by unfold ckK; rw [if_neg (by decide), if_pos (show rD.kind = 1 from rfl), if_neg (fun q => by have := q.1; simp [rD] at this)]
  rw [ckR_k ⟨by decide, by decide⟩ (by rw [hk]; decide), hk]
theorem ck_P : ckR rP = 1 := by
  have hk : ckK rP = 1 := by unfold ckK; rw [if_pos (show rP.kind = 0 from rfl), if_neg (fun q => by have := q.2.2.2.1; simp [rP] at this)]
  rw [ckR_k ⟨by decide, by decide⟩ (by rw [hk]; decide), hk]
theorem ck_4 : ckR r4 = 1 := ckR_sq (by decide)
theorem wA_size : (wR rA).size = 10 := by
  rw [wR_ok ck_A, sealS_size]
  show (sSJ ++ (numI 0 ++ (numI 1 ++ partB rA))).size + 4 = 10
  have hp : partB rA = textS ⟨#[97]⟩ := by unfold partB; rw [if_neg (by decide), if_pos (show rA.kind = 1 from rfl)]; rfl
  rw [hp, ByteArray.size_append, ByteArray.size_append, ByteArray.size_append, sSJ_size, numI_len1 (by omega) (by omega), numI_len1 (by omega) (by omega), textS_len (s := ⟨#[97]⟩) (by decide)]
  rfl
theorem rd_abc : rdE ⟨#[97, 98, 99]⟩ = 3 := by
  have h : opE ⟨#[97, 98, 99]⟩ = 3 := by unfold opE; rw [if_pos (by decide)]
  rw [(rdE_err (by rw [h]; decide)).1, h]
theorem rd_SJ : rdE (sealS sSJ) = 4 := by
  refine (rdE_no (opE_seal _) fun q => ?_).1
  obtain ⟨c, k⟩ := opT_body (opE_seal _) q
  generalize tkR (rest2 (opT (sealS sSJ))) = X at c k
  rw [opT_seal] at k
  have hs : sSJ.size = (bodyR X).size := by rw [← k]
  obtain ⟨⟨hs0, _⟩, _⟩ := ckR_zero.1 c
  unfold bodyR innR at hs
  rw [ByteArray.size_append, ByteArray.size_append, sSJ_size, numI_len1 hs0.1 (by omega)] at hs
  omega
theorem vol_zero : decide (volR 0 0 0 []) = false := by decide
theorem fit_A : rA.fit := ⟨by decide, by decide, by decide, by decide, by decide, by decide⟩
theorem fit_D : rD.fit := ⟨by decide, by decide, by decide, by decide, by decide, by decide⟩
theorem fit_P : rP.fit := ⟨by decide, by decide, by decide, by decide, by decide, by decide⟩
theorem fit_4 : r4.fit := ⟨by decide, by decide, by decide, by decide, by decide, by decide⟩
end Go.Proofs.Ytaiafbihcfbglaa
