/- What check.Of, written, Seal and Open answer. -/
import Derived.Test.YtonhmihmnkicdaaGreatCrShift
namespace Go.Proofs.YtonhmihmnkicdaaGreat
open Go.RowKit
theorem idx_lt {c : Nat} (hc : c < 256) (x : Nat) : x % 256 ^^^ c < 256 := Nat.xor_lt_two_pow (n := 8) (Nat.mod_lt _ (by decide)) hc
theorem idx_u8 {x c d : Nat} (h : d = c) (hc : c < 256) (_ : x < 2 ^ 32) : bits .xor .u8 ((x : Int) % 256) (d : Int) = ((x % 256 ^^^ c : Nat) : Int) := by
  rw [h, show (x : Int) % 256 = ((x % 256 : Nat) : Int) by omega, u8_xor_nat _ _ (by omega) hc]
theorem of_next {x c y : Nat} (hx : x < 2 ^ 32) (hc : c < 256) (hy : y = Cr.stN 8 (x ^^^ c)) : bits .xor .u32 ((x : Int) / 256) ((Cr.stN 8 (x % 256 ^^^ c) : Nat) : Int) = (y : Int) := by
  have hq := Cr.stN_lt 8 (x := x % 256 ^^^ c) (Nat.lt_of_lt_of_le (idx_lt hc x) (by decide))
  rw [show (x : Int) / 256 = ((x / 256 : Nat) : Int) by omega, u32_xor_nat _ _ (by omega) (by omega), hy, Nat.xor_comm x c, Cr.stN_split 8 c x, Nat.xor_comm c, Nat.xor_comm (x / 256)]
theorem of_last {x : Nat} (hx : x < 2 ^ 32) : bits .xor .u32 IntKind.u32.max (x : Int) = ((x ^^^ Cr.F : Nat) : Int) := by
  rw [show IntKind.u32.max = ((4294967295 : Nat) : Int) from rfl, u32_xor_nat _ _ (by omega) (by omega), Nat.xor_comm]
  rfl
/-- the last four bytes -/
def tailS (s : ByteArray) : ByteArray := s.extract (s.size - 4) s.size
theorem tail_iff {s : ByteArray} (h : 4 ≤ s.size) : tailS s = mkS 4 (Cr.by4 (Cr.sum (bt (headS s)) (headS s).size)) ↔ sealS (headS s) = s := by
  have e : headS s ++ tailS s = s := by
    have hz : (headS s ++ tailS s).size = s.size := by rw [ByteArray.size_append, headS_size, tailS, ByteArray.size_extract]; omega
    apply ext_bt hz
    intro p hp
    rw [hz] at hp
    rw [bt_append, headS_size]
    by_cases c : p < s.size - 4
    · rw [if_pos c, headS, bt_extract _ _ _ _ (by omega) (by omega), Nat.zero_add]
    · rw [if_neg c, tailS, bt_extract _ _ _ _ (by omega) (Nat.le_refl _)]
      congr 1; omega
  constructor
  · intro h1
    rw [h1] at e
    exact e
  · intro h1
    have h2 : headS s ++ tailS s = headS s ++ mkS 4 (Cr.by4 (Cr.sum (bt (headS s)) (headS s).size)) := e.trans h1.symm
    have hz : (tailS s).size = 4 := by rw [tailS, ByteArray.size_extract]; omega
    apply ext_bt (by rw [hz, mkS_size])
    intro p hp
    have := congrArg (fun t => bt t ((headS s).size + p)) h2
    simp only [bt_append] at this
    rw [if_neg (by omega), if_neg (by omega), Nat.add_sub_cancel_left] at this
    exact this
/-- what Open tells of a text -/
def opT (s : ByteArray) : ByteArray := if s.size < 4 then ByteArray.empty else if sealS (headS s) = s then headS s else ByteArray.empty
def opE (s : ByteArray) : Int := if s.size < 4 then 3 else if sealS (headS s) = s then 0 else 5
theorem opT_seal (s : ByteArray) : opT (sealS s) = s := by
  unfold opT
  rw [if_neg (by rw [sealS_size]; omega), head_seal, if_pos rfl]
theorem opE_seal (s : ByteArray) : opE (sealS s) = 0 := by
  unfold opE
  rw [if_neg (by rw [sealS_size]; omega), head_seal, if_pos rfl]
end Go.Proofs.YtonhmihmnkicdaaGreat
