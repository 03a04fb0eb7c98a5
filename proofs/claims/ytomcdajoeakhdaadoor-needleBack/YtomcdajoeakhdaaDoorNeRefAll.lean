/- The needles of a text: what the reference's All answers. -/
import Derived.Test.YtomcdajoeakhdaaDoorNeRow
namespace Go.Proofs.YtomcdajoeakhdaaDoor
open Go.RowKit
set_option linter.unusedVariables false
theorem rows_apart {w : World} {B1 B2 z1 z2 n1 n2 : Nat} {e1 e2 : TypeId} {v1 v2 : Value} {xs ys : List Value} (h1 : w.ownsRow B1 e1 z1 v1 n1 xs) (h2 : w.ownsRow B2 e2 z2 v2 n2 ys) (hne : e1 ≠ e2) : v1.ownBlock = none ∨ v1.ownBlock ≠ v2.ownBlock := by
  obtain ⟨_, ⟨rfl, rfl⟩ | ⟨g, cap, cur, rfl, _, hg, _⟩⟩ := h1
  · exact .inl rfl
  · right
    intro e
    obtain ⟨_, ⟨rfl, rfl⟩ | ⟨g', cap', cur', rfl, _, hg', _⟩⟩ := h2
    · cases e
    · have : g = g' := by injection e
      subst this
      rw [hg] at hg'
      injection hg' with q
      injection q with _ q2 _
      exact hne q2
theorem GR.other {w wr w1 : World} {e1 e2 : TypeId} {z1 z2 n1 n2 : Nat} {v1 v2 : Value} {xs ys : List Value} {o : Obj} (h1 : GR w wr e1 z1 v1 n1 xs) (h2 : GR w wr e2 z2 v2 n2 ys) (hne : e1 ≠ e2) (hgr : (wr.alloc o).grownBy w1 v2.ownBlock) : GR w w1 e1 z1 v1 n1 xs := by
  refine ⟨(h1.1.alloc o).kept hgr (rows_apart h1.1 h2.1 hne), Below.grown (h1.2.alloc h1.2.size o) hgr ?_ fun g hg => row_base h2.1 hg⟩
  rw [World.size_alloc]
  exact Nat.le_succ_of_le h1.2.size
def ndLen : Value → Nat
  | .string s => s.size
  | _ => 0
theorem offF_int (s : ByteArray) (k : Nat) : (s.size : Int) - ((stL s k).size : Int) = ((offF s (stL s k) : Nat) : Int) := by
  have := stL_size s k
  unfold offF
  omega
theorem nds_next (s : ByteArray) (k : Nat) : ndV (ndsN s (k + 1)) = ndV (ndsN s k) ++ [.string (nrN (stL s k)).k, .string (nrN (stL s k)).v] := by rw [ndsN_succ, ndV_snoc]
theorem off_next (s : ByteArray) (k : Nat) : inV (offN s (k + 1)) = inV (offN s k) ++ [.int .i64 ((offF s (stL s k) : Nat) : Int)] := by rw [offN_succ]; unfold inV; rw [List.map_append]; rfl
/-- what All answers: all needles, or the first error -/
def AllLeft (s : ByteArray) (w : World) (r : Ending) (w' : World) : Prop := ∃ k, EndN s k ∧ Below w.heap.size w w' ∧
  (((stL s k).size = 0 ∧ ∃ a c a2 c2, r = .returned (.tuple #[.slice a k c, .slice a2 k c2, .int .i64 0]) ∧ NdsAt w' a (ndsN s k) ∧ IntsAt w' a2 (offN s k)) ∨
   ((stL s k).size ≠ 0 ∧ r = .returned (.tuple #[.slice none 0 0, .slice none 0 0, .int .i64 (nrE (stL s k))])))
theorem GR.nds' {w wr : World} {e : TypeId} {v : Value} {s : ByteArray} {k : Nat} (h : GR w wr e 2 v k (ndV (ndsN s k))) : ∃ a c, v = .slice a k c ∧ NdsAt wr a (ndsN s k) := by
  have h' : GR w wr e 2 v (ndsN s k).length (ndV (ndsN s k)) := by rw [ndsN_len]; exact h
  obtain ⟨a, c, e, _, hst⟩ := h'.nds
  rw [ndsN_len] at e
  exact ⟨a, c, e, hst⟩
theorem GR.offs' {w wr : World} {e : TypeId} {v : Value} {s : ByteArray} {k : Nat} (h : GR w wr e 1 v k (inV (offN s k))) : ∃ a c, v = .slice a k c ∧ IntsAt wr a (offN s k) := by
  have h' : GR w wr e 1 v (offN s k).length (inV (offN s k)) := by rw [offN_len]; exact h
  obtain ⟨a, c, e, _, hst⟩ := h'.ints
  rw [offN_len] at e
  exact ⟨a, c, e, hst⟩
set_option maxRecDepth 100000 in
set_option maxHeartbeats 8000000 in
theorem rall_any (s : ByteArray) (w : World) (hs : s.size ≤ 10000) : Calls Tryd.prog 18 #[.string s] w (AllLeft s w) := by
  obtain ⟨i0, hi0, hz0, hz1, hz2⟩ := info_parts rn_info
  have HI := hide hi0
  have HI0 := hide hz0
  have HI1 := hide hz1
  have HI2 := hide hz2
  clear hi0 hz0 hz1 hz2
  obtain ⟨j0, hi0, hz0, hz1, hz2⟩ := info_parts int_info
  have HJ := hide hi0
  have HJ0 := hide hz0
  have HJ1 := hide hz1
  have HJ2 := hide hz2
  clear hi0 hz0 hz1 hz2
  go_enter Tryd.func18, Tryd.ntmps18
  go_wp2_with fail
  go_loopw [5, 6, 7] (fun v v2 y wr => ∃ k : Nat, GoN s k ∧ y = .string (stL s k) ∧ GR w wr 23 2 v k (ndV (ndsN s k)) ∧ GR w wr 3 1 v2 k (inV (offN s k))) (fun _ _ y _ => ndLen y)
  case atStart => exact ⟨0, fun j hj => by omega, rfl, GR.nil _ _ _ _ (Below.refl _ _), GR.nil _ _ _ _ (Below.refl _ _)⟩
  case round =>
    obtain ⟨k, hgo, rfl, hn, hi⟩ := hrel
    have HG := hide hgo
    have HN := hide hn
    have HO := hide hi
    have hsm := hgo.small
    clear hgo hn hi
    by_cases h0 : (stL s k).size = 0
    · have he := is_empty h0
      obtain ⟨a, c, rfl, hnd⟩ := HN.out.nds'
      obtain ⟨a2, c2, rfl, hin⟩ := HO.out.offs'
      have HND := hide hnd
      have HIN := hide hin
      have H0 := hide h0
      clear hnd hin
      go_wp2_with fail
      try go_ret3
      exact ⟨k, ⟨HG.out, .inl H0.out⟩, HN.out.2, .inl ⟨H0.out, a, c, a2, c2, rfl, HND.out, HIN.out⟩⟩
    · have he := not_empty h0
      have hzk := stL_size s k
      have H1 := hide (rread_any (stL s k) wr (by omega))
      have HF := hide (offF_int s k)
      have HNX := hide (nds_next s k)
      have HOX := hide (off_next s k)
      by_cases hE : nrE (stL s k) = 0
      · have HGN := hide (HG.out.next h0 hE)
        have HLS := hide (nrR_less hE)
        have HST : Hid (stL s (k + 1) = nrR (stL s k)) := rfl
        rw [hE] at H1
        clear hE
        have hoff : offF s (stL s k) ≤ 10000 := by unfold offF; omega
        generalize offF s (stL s k) = F at *
        generalize nrR (stL s k) = R at *
        generalize hND : nrN (stL s k) = ND at *
        clear hND
        obtain ⟨K, V⟩ := ND
        simp only [ncs] at H1 HNX
        go_wp2_with fail
        refine H1.out.mono ?_
        rintro e w1 ⟨rfl, hb⟩
        have hal : Below w1.heap.size w1 (w1.alloc (.cells #[.string K, .string V] 23)) := (Below.refl _ _).alloc (Nat.le_refl _) _
        have hb2 := hb.trans (hal.mono hb.size)
        have HN2 := hide (HN.out.below hb2)
        have HO2 := hide (HO.out.below hb2)
        have hsz2 := HN2.out.2.size
        have N2 : Hid (NBx w1.heap.size 23 ⟨K, V⟩ (w1.alloc (.cells #[.string K, .string V] 23))) := nbx_new 23 ⟨K, V⟩ w1
        clear hb hal hb2 HN HO H1
        go_upto_region 8 with fail
        generalize w1.alloc (.cells #[.string K, .string V] 23) = W2 at *
        generalize w1.heap.size = b1 at *
        have c0 := N2.out.c0
        have c1 := N2.out.c1
        simp only at c0 c1
        go_upto_region 9 with (first | (at_builtin; refine wpList_append_own _ rfl (.tmp 23) (.tmp 25) 42 rfl w.heap.size 23 i0 (.agg #[.string ByteArray.empty, .string ByteArray.empty]) 2 32 Tryd.underlying42 HI.out HI0.out HI1.out HI2.out rfl (by decide) _ k (ndV (ndsN s k)) rfl (HN2.out.1.alloc _) ⟨W2.heap.size, 0, none⟩ 1 1 [.string K, .string V] rfl rfl (cell_two_new _ _ _ _) (by simp [Value.oneCell']) (by unfold maxLen; omega) (by omega) (by rw [World.size_alloc]; omega) ?_; intro v' w3 hown hgr hnil; clear hnil; have HN3 := hide (HN2.out.step hown hgr); have HO3 := hide (HO2.out.other HN2.out (by decide) hgr); clear hown hgr))
        have hsz3 := HN3.out.2.size
        go_wp2_with (first | (at_builtin; refine wpList_append_own _ rfl (.tmp 27) (.tmp 33) 39 rfl w.heap.size 3 j0 (.int .i64 0) 1 8 Tryd.underlying39 HJ.out HJ0.out HJ1.out HJ2.out rfl (by decide) _ k (inV (offN s k)) rfl (HO3.out.1.alloc _) ⟨w3.heap.size, 0, none⟩ 1 1 [.int .i64 ((s.size : Int) - ((stL s k).size : Int))] rfl rfl (cell_one_new _ _ _) (by simp [Value.oneCell']) (by unfold maxLen; omega) (by omega) (by rw [World.size_alloc]; omega) ?_; intro v4 w4 hown hgr hnil; clear hnil; have HO4 := hide (HO3.out.step hown hgr); have HN4 := hide (HN3.out.other HO3.out (by decide) hgr); clear hown hgr))
        rw [HF.out, ← HOX.out] at HO4
        rw [← HNX.out] at HN4
        go_roundw
        case rel => exact ⟨k + 1, HGN.out, by rw [HST.out], HN4.out, HO4.out⟩
        case measure => exact HLS.out
      · have q1 : (nrE (stL s k) == 0) = false := by simpa using hE
        have q2 : (nrE (stL s k) != 0) = true := by simpa using hE
        have HE := hide hE
        have H0 := hide h0
        clear hE
        generalize hEE : nrE (stL s k) = E at *
        have HEE := hide hEE
        clear hEE
        generalize nrR (stL s k) = R at *
        generalize hND : nrN (stL s k) = ND at *
        clear hND
        obtain ⟨K, V⟩ := ND
        simp only [ncs] at H1
        go_wp2_with fail
        refine H1.out.mono ?_
        rintro e w1 ⟨rfl, hb⟩
        have hal : Below w1.heap.size w1 (w1.alloc (.cells #[.string K, .string V] 23)) := (Below.refl _ _).alloc (Nat.le_refl _) _
        have hb2 := hb.trans (hal.mono hb.size)
        have HN2 := hide (HN.out.below hb2)
        clear hb hal hb2 HN HO H1
        go_wp2_with fail
        try go_ret3
        exact ⟨k, ⟨HG.out, .inr (by rw [HEE.out]; exact HE.out)⟩, HN2.out.2, .inr ⟨H0.out, by rw [HEE.out]; rfl⟩⟩
end Go.Proofs.YtomcdajoeakhdaaDoor
