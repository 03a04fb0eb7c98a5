/- Volumes that lie one behind the other in memory; a row of twelve counts. -/
import Derived.Test.YtleknjjfmklkcaaPlSmallB
namespace Go.Proofs.Ytleknjjfmklkcaa
open Go.RowKit
set_option linter.unusedVariables false
/-- a volume -/
structure Vol where
  id : Int
  gen : Int
  len : Int
  a : Option Addr
  n : Nat
  c : Nat
  ls : List (Int × Int)
/-- what a volume's cells hold -/
structure VolAt (w : World) (b o : Nat) (x : Vol) : Prop where
  c0 : w.cell? ⟨b, o, none⟩ = some (.int .i64 x.id)
  c1 : w.cell? ⟨b, o + 1, none⟩ = some (.int .i64 x.gen)
  c2 : w.cell? ⟨b, o + 2, none⟩ = some (.int .i64 x.len)
  c3 : w.cell? ⟨b, o + 3, none⟩ = some (.slice x.a x.n x.c)
/-- what is true of a volume wherever it lies -/
structure VolIs (w : World) (x : Vol) : Prop where
  len : x.ls.length = x.n
  n63 : x.n ≤ 9223372036854775807
  locs : LocsAt w x.a x.ls
def VolsAt (w : World) (a : Option Addr) (l : List Vol) : Prop := l = [] ∨ ∃ b o, a = some ⟨b, o, none⟩ ∧ b < w.heap.size ∧ ∀ (i : Nat) (x : Vol), l[i]? = some x → VolAt w b (o + i * 4) x ∧ VolIs w x
theorem VolAt.below {w w' : World} {b o : Nat} {x : Vol} (h : VolAt w b o x) (hb : Below w.heap.size w w') (hlt : b < w.heap.size) : VolAt w' b o x :=
  ⟨(hb.cell (p := ⟨b, o, none⟩) hlt).trans h.c0, (hb.cell (p := ⟨b, o + 1, none⟩) hlt).trans h.c1, (hb.cell (p := ⟨b, o + 2, none⟩) hlt).trans h.c2, (hb.cell (p := ⟨b, o + 3, none⟩) hlt).trans h.c3⟩
theorem VolIs.below {w w' : World} {x : Vol} (h : VolIs w x) (hb : Below w.heap.size w w') : VolIs w' x := ⟨h.len, h.n63, h.locs.below hb⟩
theorem VolsAt.below {w w' : World} {a : Option Addr} {l : List Vol} (h : VolsAt w a l) (hb : Below w.heap.size w w') : VolsAt w' a l := by
  rcases h with h | ⟨b, o, ha, hlt, hc⟩
  · exact .inl h
  · exact .inr ⟨b, o, ha, Nat.lt_of_lt_of_le hlt hb.size, fun i x hx => ⟨(hc i x hx).1.below hb hlt, (hc i x hx).2.below hb⟩⟩
theorem make_ints (n : Nat) (h : n ≤ 1000000) (w : World) : (Instr.makeSlice 22 (.int .i64 (n : Int)) (.int .i64 (n : Int))).run Try.prog w = .ok (.slice (some ⟨w.heap.size, 0, none⟩) n n) (w.alloc (.cells (fnC n fun _ => .int .i64 0) 3)) := by
  obtain ⟨i0, hi, hz0, hz1, hz2⟩ := info_parts int_info
  have h := run_make (P := Try.prog) w 22 3 i0 (.int .i64 0) Try.underlying22 hi hz0 .i64 .i64 n n (by omega) (by omega) (by rw [hz2]; omega) (by omega)
  rw [hz1] at h
  rw [h]
  simp only [Int.toNat_natCast, Nat.mul_one]
  rw [show (Value.int IntKind.i64 0).cells = #[.int .i64 0] from rfl, fnC_made]
/-- how many of the first i volumes', and of the first j places of one more, lie on a disk -/
def ldP (vs : List (List (Int × Int))) (ls : List (Int × Int)) (i j : Nat) (d : Nat) : Nat := ldV (vs.take i) d + ldN (ls.take j) d
theorem ldP_zero (vs : List (List (Int × Int))) (ls : List (Int × Int)) (i d : Nat) : ldP vs ls i 0 d = ldV (vs.take i) d := by simp [ldP, ldN]
theorem ldP_end {vs : List (List (Int × Int))} {ls : List (Int × Int)} {i : Nat} (h : vs[i]? = some ls) (d : Nat) : ldP vs ls i ls.length d = ldV (vs.take (i + 1)) d := by
  unfold ldP; rw [take_snoc h, ldV_snoc, List.take_of_length_le (Nat.le_refl _)]
theorem ldP_succ {vs : List (List (Int × Int))} {ls : List (Int × Int)} {i j : Nat} {x : Int × Int} (h : ls[j]? = some x) (d : Nat) : ldP vs ls i (j + 1) d = ldP vs ls i j d + (if x.1 = (d : Int) then 1 else 0) := by
  unfold ldP; rw [take_snoc h, ldN_snoc]; omega
theorem ldP_le {vs : List (List (Int × Int))} {ls : List (Int × Int)} {i : Nat} (h : vs[i]? = some ls) (j d : Nat) : ldP vs ls i j d ≤ allN vs := by
  have h1 := ldV_le (vs.take i) d
  have h2 := ldN_le (ls.take j) d
  have h3 := allN_take vs (i + 1)
  rw [take_snoc h, allN_snoc] at h3
  rw [List.length_take] at h2
  unfold ldP
  omega
/-- a row of twelve counts -/
def CntAt (w : World) (g : Nat) (F : Nat → Nat) : Prop := FnAt w g 3 12 (fun d => .int .i64 ((F d : Nat) : Int))
theorem CntAt.cell {w : World} {g : Nat} {F : Nat → Nat} (h : CntAt w g F) {d : Nat} (hd : d < 12) : w.cell? ⟨g, d, none⟩ = some (.int .i64 ((F d : Nat) : Int)) := FnAt.cell h hd
theorem CntAt.congr {w : World} {g : Nat} {F G : Nat → Nat} (h : CntAt w g F) (e : ∀ d, d < 12 → F d = G d) : CntAt w g G := FnAt.congr h fun d hd => by rw [e d hd]
theorem CntAt.inc {w : World} {g : Nat} {F : Nat → Nat} (h : CntAt w g F) (p : Nat) : CntAt (w.setCell ⟨g, p, none⟩ (.int .i64 ((F p + 1 : Nat) : Int))) g (fun d => F d + if d = p then 1 else 0) :=
  FnAt.congr (FnAt.set h p _) fun d hd => by
    by_cases e : d = p
    · subst e; rw [if_pos rfl]; simp only [if_true]
    · rw [if_neg e]; simp only [if_neg e, Nat.add_zero]
/-- what Load leaves -/
def Loaded (vs : List (List (Int × Int))) (w : World) (e : Ending) (w' : World) : Prop :=
  ∃ g, e = .returned (.slice (some ⟨g, 0, none⟩) 12 12) ∧ w.heap.size ≤ g ∧ CntAt w' g (fun d => ldV vs d) ∧ Below w.heap.size w w'
end Go.Proofs.Ytleknjjfmklkcaa
