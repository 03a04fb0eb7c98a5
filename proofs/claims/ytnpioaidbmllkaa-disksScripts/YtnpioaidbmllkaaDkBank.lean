/- What Read, Lose and Replace of the disks answer. -/
import Derived.Test.YtnpioaidbmllkaaDkReadW
import Derived.Test.YtnpioaidbmllkaaDkLose
import Derived.Test.YtnpioaidbmllkaaDkCrashB
namespace Go.Proofs.Ytnpioaidbmllkaa
open Go.RowKit
theorem ret_se {s t : ByteArray} {c d : Int} (h : s = t) (l : c = d) : Ending.returned (.tuple #[.string s, .int .i64 c]) = .returned (.tuple #[.string t, .int .i64 d]) := by rw [h, l]
set_option maxRecDepth 100000 in
set_option maxHeartbeats 2000000 in
theorem read_nil (d n : Int) (w : World) : Calls Try.prog 15 #[.pointer none, .int .i64 d, .int .i64 n] w fun e w' => e = .returned (.tuple #[.string ByteArray.empty, .int .i64 1]) ∧ w = w' := by
  go_enter Try.func15, Try.ntmps15
  go_wp2_with fail
  refine (having_nil d n w).mono ?_
  rintro e w1 ⟨rfl, rfl⟩
  go_wp2_with fail
  go_ret2
  exact ⟨rfl, rfl⟩
def rdS (D : Nat → Dk) (d n : Int) : ByteArray := if eHave D d n = 0 then secW (D d.toNat).sec (D d.toNat).ws n.toNat else ByteArray.empty
theorem eHave_ok {D : Nat → Dk} {d n : Int} (h : eHave D d n = 0) : d.toNat < 12 ∧ n.toNat < 112 ∧ 0 ≤ n ∧ eLive D d = 0 := by
  unfold eHave at h
  by_cases c : eLive D d = 0
  · rw [c, if_neg (by decide)] at h
    by_cases e : n < 0 ∨ 111 < n
    · rw [if_pos e] at h; cases h
    · have c' := c
      unfold eLive at c
      by_cases f : d < 0 ∨ 11 < d
      · rw [if_pos f] at c; cases c
      · exact ⟨by omega, by omega, by omega, c'⟩
  · rw [if_pos c] at h; exact absurd h c
set_option maxRecDepth 100000 in
set_option maxHeartbeats 2000000 in
theorem read_any (b : Nat) (d n : Int) (D : Nat → Dk) (w : World) (h : Bk w b D) : Calls Try.prog 15 #[.pointer (some ⟨b, 0, none⟩), .int .i64 d, .int .i64 n] w fun e w' => e = .returned (.tuple #[.string (rdS D d n), .int .i64 (eHave D d n : Nat)]) ∧ Below w.heap.size w w' := by
  have HL := hide (having_any b d n D w h)
  unfold rdS
  by_cases he : eHave D d n = 0
  · obtain ⟨h1, h2, h3, _⟩ := eHave_ok he
    have HR := hide (readK_any b d.toNat n.toNat D w h h1 h2)
    rw [if_pos he]
    rw [he, pDisk_ok] at HL
    rw [he]
    obtain ⟨m, rfl⟩ : ∃ m : Nat, n = (m : Int) := ⟨n.toNat, by omega⟩
    rw [Int.toNat_natCast] at HR ⊢
    clear h he h1 h2 h3
    generalize secW (D d.toNat).sec (D d.toNat).ws m = T at *
    generalize d.toNat = k at *
    go_enter Try.func15, Try.ntmps15
    go_wp2_with fail
    refine HL.out.mono ?_
    rintro e w1 ⟨rfl, rfl⟩
    go_wp2_with fail
    refine HR.out.mono ?_
    rintro e w2 ⟨rfl, hb⟩
    have HB := hide hb
    clear hb
    go_wp2_with fail
    go_ret2
    exact ⟨rfl, HB.out⟩
  · rw [if_neg he]
    rw [pDisk_bad he] at HL
    clear h
    generalize eHave D d n = E at *
    have hq : ((E : Int) != 0) = true := by simp; omega
    go_enter Try.func15, Try.ntmps15
    go_wp2_with fail
    refine HL.out.mono ?_
    rintro e w1 ⟨rfl, rfl⟩
    go_wp2_with fail
    go_ret2
    exact ⟨rfl, Below.refl _ _⟩
set_option maxRecDepth 100000 in
set_option maxHeartbeats 2000000 in
theorem exchange_nil (d : Int) (x : Dk) (w : World) : Calls Try.prog 44 #[.pointer none, .int .i64 d, .agg (fnC 114 (dkV x))] w fun e w' => e = .returned (.int .i64 1) ∧ Below w.heap.size w w' := by
  have hcs : (fnC 114 (dkV x)).size = 114 := fnC_size _ _
  generalize fnC 114 (dkV x) = C at *
  go_enter Try.func44, Try.ntmps44
  go_wp2_with fail
  refine (known_nil d _).mono ?_
  rintro e w1 ⟨rfl, rfl⟩
  go_wp2_with fail
  go_ret
  exact ⟨rfl, (Below.refl _ _).alloc (Nat.le_refl _) _⟩
set_option maxRecDepth 100000 in
set_option maxHeartbeats 2000000 in
theorem exchange_bad (b : Nat) (d : Int) (x : Dk) (w : World) (hd : d < 0 ∨ 11 < d) : Calls Try.prog 44 #[.pointer (some ⟨b, 0, none⟩), .int .i64 d, .agg (fnC 114 (dkV x))] w fun e w' => e = .returned (.int .i64 1) ∧ Below w.heap.size w w' := by
  have hcs : (fnC 114 (dkV x)).size = 114 := fnC_size _ _
  generalize fnC 114 (dkV x) = C at *
  have HD := hide hd
  clear hd
  go_enter Try.func44, Try.ntmps44
  go_wp2_with fail
  refine (known_bad b d _ HD.out).mono ?_
  rintro e w1 ⟨rfl, rfl⟩
  go_wp2_with fail
  go_ret
  exact ⟨rfl, (Below.refl _ _).alloc (Nat.le_refl _) _⟩
theorem lose_of (p : Value) (d : Int) (w : World) (R : Ending → World → Prop) (h : Calls Try.prog 44 #[p, .int .i64 d, .agg (fnC 114 (dkV dkL))] w fun e w' => ∃ v : Int, e = .returned (.int .i64 v) ∧ R (.returned (.int .i64 v)) w') : Calls Try.prog 24 #[p, .int .i64 d] w R := by
  have hz := zero_disk
  have HLC := hide lost_cells
  have hcs : (fnC 114 (dkV dk0)).size = 114 := fnC_size _ _
  have H := hide h
  clear h
  generalize fnC 114 (dkV dk0) = Z at *
  generalize fnC 114 (dkV dkL) = C at *
  have hne : ¬ Z = #[] := by intro e; subst e; simp at hcs
  go_enter Try.func24, Try.ntmps24
  go_wp2_with fail
  rw [HLC.out]
  refine H.out.mono ?_
  rintro e w1 ⟨v, rfl, hr⟩
  have HR := hide hr
  clear hr hz hcs hne
  go_wp2_with fail
  exact HR.out
theorem replace_of (p : Value) (d : Int) (w : World) (R : Ending → World → Prop) (h : Calls Try.prog 44 #[p, .int .i64 d, .agg (fnC 114 (dkV dk0))] w fun e w' => ∃ v : Int, e = .returned (.int .i64 v) ∧ R (.returned (.int .i64 v)) w') : Calls Try.prog 25 #[p, .int .i64 d] w R := by
  have hz := zero_disk
  have hcs : (fnC 114 (dkV dk0)).size = 114 := fnC_size _ _
  have H := hide h
  clear h
  generalize fnC 114 (dkV dk0) = Z at *
  go_enter Try.func25, Try.ntmps25
  go_wp2_with fail
  refine H.out.mono ?_
  rintro e w1 ⟨v, rfl, hr⟩
  have HR := hide hr
  clear hr hz hcs
  go_wp2_with fail
  exact HR.out
end Go.Proofs.Ytnpioaidbmllkaa
