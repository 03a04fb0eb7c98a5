/- Which disk is meant, and whether it is there. -/
import Derived.Test.YtnpioaidbmllkaaDkMem
namespace Go.Proofs.Ytnpioaidbmllkaa
open Go.RowKit
theorem ret_pe {p q : Value} {c d : Int} (h : p = q) (l : c = d) : Ending.returned (.tuple #[p, .int .i64 c]) = .returned (.tuple #[q, .int .i64 d]) := by rw [h, l]
/-- the error of a disk's number: none such, lost -/
def eKnown (d : Int) : Nat := if d < 0 ∨ 11 < d then 1 else 0
def eLive (D : Nat → Dk) (d : Int) : Nat := if d < 0 ∨ 11 < d then 1 else if (D d.toNat).lost then 6 else 0
def eHave (D : Nat → Dk) (d n : Int) : Nat := if eLive D d ≠ 0 then eLive D d else if n < 0 ∨ 111 < n then 1 else 0
def eTake (D : Nat → Dk) (d n : Int) (s : ByteArray) : Nat := if eHave D d n ≠ 0 then eHave D d n else if 200 < s.size then 12 else 0
def pDisk (b : Nat) (d : Int) (e : Nat) : Value := if e = 0 then .pointer (some ⟨b, d.toNat * 114, none⟩) else .pointer none
set_option maxRecDepth 100000 in
set_option maxHeartbeats 2000000 in
theorem known_bad (b : Nat) (d : Int) (w : World) (h : d < 0 ∨ 11 < d) : Calls Try.prog 47 #[.pointer (some ⟨b, 0, none⟩), .int .i64 d] w fun e w' => e = .returned (.tuple #[.pointer none, .int .i64 1]) ∧ w = w' := by
  rcases h with h | h
  · go_enter Try.func47, Try.ntmps47
    go_wp2_with fail
    go_ret2
    exact ⟨rfl, rfl⟩
  · have h0 : ¬ d < 0 := by omega
    have h1 : 12 ≤ d := by omega
    go_enter Try.func47, Try.ntmps47
    go_wp2_with fail
    go_ret2
    exact ⟨rfl, rfl⟩
set_option maxRecDepth 100000 in
set_option maxHeartbeats 2000000 in
theorem known_nil (d : Int) (w : World) : Calls Try.prog 47 #[.pointer none, .int .i64 d] w fun e w' => e = .returned (.tuple #[.pointer none, .int .i64 1]) ∧ w = w' := by
  go_enter Try.func47, Try.ntmps47
  go_wp2_with fail
  go_ret2
  exact ⟨rfl, rfl⟩
set_option maxRecDepth 100000 in
set_option maxHeartbeats 2000000 in
theorem known_ok (b d : Nat) (w : World) (h : d < 12) : Calls Try.prog 47 #[.pointer (some ⟨b, 0, none⟩), .int .i64 (d : Int)] w fun e w' => e = .returned (.tuple #[.pointer (some ⟨b, d * 114, none⟩), .int .i64 0]) ∧ w = w' := by
  have h0 : decide ((d : Int) < 0) = false := by simp
  have h1 : decide ((12 : Int) ≤ (d : Int)) = false := by simp; omega
  have hb : (d : Int) < 12 := by omega
  have hn : (0 : Int) ≤ (d : Int) := by omega
  go_enter Try.func47, Try.ntmps47
  go_wp2_with fail
  go_ret2
  exact ⟨rfl, rfl⟩
theorem known_any (b : Nat) (d : Int) (w : World) : Calls Try.prog 47 #[.pointer (some ⟨b, 0, none⟩), .int .i64 d] w fun e w' => e = .returned (.tuple #[pDisk b d (eKnown d), .int .i64 (eKnown d : Nat)]) ∧ w = w' := by
  unfold eKnown pDisk
  by_cases h : d < 0 ∨ 11 < d
  · rw [if_pos h, if_neg (by decide)]; exact known_bad b d w h
  · rw [if_neg h, if_pos rfl]
    obtain ⟨k, rfl⟩ : ∃ k : Nat, d = (k : Int) := ⟨d.toNat, by omega⟩
    rw [Int.toNat_natCast]
    exact known_ok b k w (by omega)
set_option maxRecDepth 100000 in
set_option maxHeartbeats 2000000 in
theorem live_nil (d : Int) (w : World) : Calls Try.prog 31 #[.pointer none, .int .i64 d] w fun e w' => e = .returned (.tuple #[.pointer none, .int .i64 1]) ∧ w = w' := by
  go_enter Try.func31, Try.ntmps31
  go_wp2_with fail
  refine (known_nil d w).mono ?_
  rintro e w1 ⟨rfl, rfl⟩
  go_wp2_with fail
  go_ret2
  exact ⟨rfl, rfl⟩
set_option maxRecDepth 100000 in
set_option maxHeartbeats 2000000 in
theorem liveD_any (b : Nat) (d : Int) (D : Nat → Dk) (w : World) (h : Bk w b D) : Calls Try.prog 31 #[.pointer (some ⟨b, 0, none⟩), .int .i64 d] w fun e w' => e = .returned (.tuple #[pDisk b d (eLive D d), .int .i64 (eLive D d : Nat)]) ∧ w = w' := by
  unfold eLive
  by_cases hd : d < 0 ∨ 11 < d
  · rw [if_pos hd]
    unfold pDisk
    rw [if_neg (by decide)]
    go_enter Try.func31, Try.ntmps31
    go_wp2_with fail
    refine (known_bad b d w hd).mono ?_
    rintro e w1 ⟨rfl, rfl⟩
    clear h hd
    go_wp2_with fail
    go_ret2
    exact ⟨rfl, rfl⟩
  · rw [if_neg hd]
    obtain ⟨k, rfl⟩ : ∃ k : Nat, d = (k : Int) := ⟨d.toNat, by omega⟩
    have hk : k < 12 := by omega
    have hc := h.lost hk
    rw [Int.toNat_natCast]
    unfold pDisk
    clear h hd
    cases hl : (D k).lost
    · rw [hl] at hc
      rw [show (if false = true then 6 else 0 : Nat) = 0 from rfl, if_pos rfl, Int.toNat_natCast]
      clear hl
      go_enter Try.func31, Try.ntmps31
      go_wp2_with fail
      refine (known_ok b k w hk).mono ?_
      rintro e w1 ⟨rfl, rfl⟩
      go_wp2_with fail
      go_ret2
      exact ⟨rfl, rfl⟩
    · rw [hl] at hc
      rw [if_pos rfl, if_neg (by decide)]
      clear hl
      go_enter Try.func31, Try.ntmps31
      go_wp2_with fail
      refine (known_ok b k w hk).mono ?_
      rintro e w1 ⟨rfl, rfl⟩
      go_wp2_with fail
      go_ret2
      exact ⟨rfl, rfl⟩
theorem pDisk_bad {b : Nat} {d : Int} {e : Nat} (h : e ≠ 0) : pDisk b d e = .pointer none := by unfold pDisk; rw [if_neg h]
theorem pDisk_ok {b : Nat} {d : Int} : pDisk b d 0 = .pointer (some ⟨b, d.toNat * 114, none⟩) := by unfold pDisk; rw [if_pos rfl]
set_option maxRecDepth 100000 in
set_option maxHeartbeats 2000000 in
theorem having_any (b : Nat) (d n : Int) (D : Nat → Dk) (w : World) (h : Bk w b D) : Calls Try.prog 32 #[.pointer (some ⟨b, 0, none⟩), .int .i64 d, .int .i64 n] w fun e w' => e = .returned (.tuple #[pDisk b d (eHave D d n), .int .i64 (eHave D d n : Nat)]) ∧ w = w' := by
  have HL := hide (liveD_any b d D w h)
  unfold eHave
  clear h
  generalize eLive D d = E at *
  by_cases he : E = 0
  · subst he
    rw [if_neg (by decide)]
    rw [pDisk_ok] at HL
    by_cases hn : n < 0 ∨ 111 < n
    · rw [if_pos hn, pDisk_bad (by decide)]
      have key : n < 0 ∨ (¬ n < 0 ∧ 112 ≤ n) := by omega
      clear hn
      rcases key with h | ⟨h0, h⟩
      all_goals
        go_enter Try.func32, Try.ntmps32
        go_wp2_with fail
        refine HL.out.mono ?_
        rintro e w1 ⟨rfl, rfl⟩
        go_wp2_with fail
        go_ret2
        exact ⟨rfl, rfl⟩
    · rw [if_neg hn, pDisk_ok]
      have h0 : ¬ n < 0 := by omega
      have h1 : ¬ 112 ≤ n := by omega
      clear hn
      go_enter Try.func32, Try.ntmps32
      go_wp2_with fail
      refine HL.out.mono ?_
      rintro e w1 ⟨rfl, rfl⟩
      go_wp2_with fail
      go_ret2
      exact ⟨rfl, rfl⟩
  · rw [if_pos he, pDisk_bad he]
    rw [pDisk_bad he] at HL
    have hq : ((E : Int) == 0) = false := by simp; omega
    go_enter Try.func32, Try.ntmps32
    go_wp2_with fail
    refine HL.out.mono ?_
    rintro e w1 ⟨rfl, rfl⟩
    go_wp2_with fail
    go_ret2
    exact ⟨rfl, rfl⟩
set_option maxRecDepth 100000 in
set_option maxHeartbeats 2000000 in
theorem having_nil (d n : Int) (w : World) : Calls Try.prog 32 #[.pointer none, .int .i64 d, .int .i64 n] w fun e w' => e = .returned (.tuple #[.pointer none, .int .i64 1]) ∧ w = w' := by
  go_enter Try.func32, Try.ntmps32
  go_wp2_with fail
  refine (live_nil d w).mono ?_
  rintro e w1 ⟨rfl, rfl⟩
  go_wp2_with fail
  go_ret2
  exact ⟨rfl, rfl⟩
set_option maxRecDepth 100000 in
set_option maxHeartbeats 2000000 in
theorem taking_any (b : Nat) (d n : Int) (s : ByteArray) (D : Nat → Dk) (w : World) (h : Bk w b D) (hs : s.size ≤ 9223372036854775807) : Calls Try.prog 35 #[.pointer (some ⟨b, 0, none⟩), .int .i64 d, .int .i64 n, .string s] w fun e w' => e = .returned (.tuple #[pDisk b d (eTake D d n s), .int .i64 (eTake D d n s : Nat)]) ∧ w = w' := by
  have HL := hide (having_any b d n D w h)
  unfold eTake
  clear h
  generalize eHave D d n = E at *
  by_cases he : E = 0
  · subst he
    rw [if_neg (by decide)]
    rw [pDisk_ok] at HL
    by_cases hn : 200 < s.size
    · rw [if_pos hn, pDisk_bad (by decide)]
      go_enter Try.func35, Try.ntmps35
      go_wp2_with fail
      refine HL.out.mono ?_
      rintro e w1 ⟨rfl, rfl⟩
      go_wp2_with fail
      go_ret2
      exact ⟨rfl, rfl⟩
    · rw [if_neg hn, pDisk_ok]
      go_enter Try.func35, Try.ntmps35
      go_wp2_with fail
      refine HL.out.mono ?_
      rintro e w1 ⟨rfl, rfl⟩
      go_wp2_with fail
      go_ret2
      exact ⟨rfl, rfl⟩
  · rw [if_pos he, pDisk_bad he]
    rw [pDisk_bad he] at HL
    have hq : ((E : Int) == 0) = false := by simp; omega
    go_enter Try.func35, Try.ntmps35
    go_wp2_with fail
    refine HL.out.mono ?_
    rintro e w1 ⟨rfl, rfl⟩
    go_wp2_with fail
    go_ret2
    exact ⟨rfl, rfl⟩
set_option maxRecDepth 100000 in
set_option maxHeartbeats 2000000 in
theorem taking_nil (d n : Int) (s : ByteArray) (w : World) : Calls Try.prog 35 #[.pointer none, .int .i64 d, .int .i64 n, .string s] w fun e w' => e = .returned (.tuple #[.pointer none, .int .i64 1]) ∧ w = w' := by
  go_enter Try.func35, Try.ntmps35
  go_wp2_with fail
  refine (having_nil d n w).mono ?_
  rintro e w1 ⟨rfl, rfl⟩
  go_wp2_with fail
  go_ret2
  exact ⟨rfl, rfl⟩
end Go.Proofs.Ytnpioaidbmllkaa
