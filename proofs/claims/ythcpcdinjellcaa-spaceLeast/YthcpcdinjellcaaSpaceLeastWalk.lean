/- SpaceLeast answers true at every input. -/
import Derived.Test.YthcpcdinjellcaaSpDoesG
import Derived.Test.YthcpcdinjellcaaSpaceScriptsWalk
namespace Go.Proofs.Ythcpcdinjellcaa
open Go.RowKit
set_option linter.unusedVariables false
theorem jt_box {w w1 : World} {B : Nat → Bool} (h : SpB w.heap.size B w w1) : Jt w w.heap.size w1.heap.size B (.slice none 0 0) [] (w1.alloc (.cells #[.slice none 0 0] 29)) :=
  ⟨h.keep ((Below.refl _ _).alloc (Nat.le_refl _) _), ⟨heap_alloc_new _ _, World.ownsRow_nil _ _ _ _⟩, h.1.lt⟩
/-- the least slot above z that is free, or none -/
def WantP (B : Nat → Bool) (d : Nat) (z W : Int) : Prop :=
  (W = -1 ∧ ∀ i : Nat, z < (i : Int) → i < 48 → B (d * 48 + i) = true) ∨
  (∃ m : Nat, W = (m : Int) ∧ z < (m : Int) ∧ m < 48 ∧ B (d * 48 + m) = false ∧ ∀ i : Nat, z < (i : Int) → i < m → B (d * 48 + i) = true)
theorem tn_nat {B : Nat → Bool} {d m : Nat} (hd : d < 12) (hm : m < 48) : tnB B ((d : Int), (m : Int)) = B (d * 48 + m) := by
  unfold tnB
  rw [okL_iff.2 (by simp only; omega)]
  simp [idx]
theorem WantP.start (B : Nat → Bool) (d : Nat) : WantP B d 47 (-1) := .inl ⟨rfl, fun i h1 h2 => by omega⟩
theorem WantP.taken {B : Nat → Bool} {d : Nat} {z W : Int} (h : WantP B d z W) (h0 : 0 ≤ z) (ht : B (d * 48 + z.toNat) = true) : WantP B d (z - 1) W := by
  have key : ∀ i : Nat, z - 1 < (i : Int) → z < (i : Int) ∨ i = z.toNat := fun i hi => by omega
  rcases h with ⟨rfl, h⟩ | ⟨m, rfl, h1, h2, h3, h⟩
  · exact .inl ⟨rfl, fun i hi h4 => (key i hi).elim (fun q => h i q h4) (fun q => q ▸ ht)⟩
  · exact .inr ⟨m, rfl, by omega, h2, h3, fun i hi h4 => (key i hi).elim (fun q => h i q h4) (fun q => q ▸ ht)⟩
theorem WantP.free {B : Nat → Bool} {d : Nat} {z W : Int} (h : WantP B d z W) (h0 : 0 ≤ z) (h47 : z ≤ 47) (ht : B (d * 48 + z.toNat) = false) : WantP B d (z - 1) z :=
  .inr ⟨z.toNat, by omega, by omega, by omega, ht, fun i hi h4 => by omega⟩
theorem least_none {B : Nat → Bool} {d : Nat} {W : Int} (hd : d < 12) (h : WantP B d (-1) W) (hW : W < 0) : tkE B (d : Int) = 7 ∧ frC B (d : Int) = 0 := by
  rcases h with ⟨_, h⟩ | ⟨m, rfl, _⟩
  · have hall : ∀ i, i < 48 → B (d * 48 + i) = true := fun i hi => h i (by omega) hi
    refine ⟨(full_none hd hall).1, ?_⟩
    unfold frC
    rw [if_pos (okD_nat hd), Int.toNat_natCast, frN_full hall]; rfl
  · omega
theorem least_some {B : Nat → Bool} {d : Nat} {W : Int} (hd : d < 12) (h : WantP B d (-1) W) (hW : ¬ W < 0) : tkE B (d : Int) = 0 ∧ tkN B (d : Int) = W ∧ frC (tkB B (d : Int)) (d : Int) = frC B (d : Int) - 1 ∧ 0 ≤ frC B (d : Int) ∧ frC B (d : Int) ≤ 48 := by
  rcases h with ⟨rfl, _⟩ | ⟨m, rfl, h1, h2, h3, h⟩
  · omega
  · have hf : frO B d = some m := fr_some h2 (fun i hi => h i (by omega) hi) h3
    have hl := frN_le B d 48
    have hs := frN_set (d := d) h3 h2
    refine ⟨?_, ?_, ?_, ?_, ?_⟩
    · unfold tkE; rw [if_pos (okD_nat hd), Int.toNat_natCast, hf]; rfl
    · unfold tkN; rw [if_pos (okD_nat hd), Int.toNat_natCast, hf]; rfl
    · unfold frC tkB
      rw [if_pos (okD_nat hd), if_pos (okD_nat hd), if_pos (okD_nat hd), Int.toNat_natCast, hf]
      simp only
      omega
    · unfold frC; rw [if_pos (okD_nat hd)]; omega
    · unfold frC; rw [if_pos (okD_nat hd), Int.toNat_natCast]; omega
set_option maxRecDepth 100000 in
set_option maxHeartbeats 8000000 in
theorem least_is (a : Option Addr) (n c d : Nat) (l : List OpR) (w : World) (hl : l.length = n) (h60 : n ≤ 60) (hd12 : d < 12) (hL : OpsAt w a l) : Calls Try.prog 7 #[.slice a n c, .int .i64 (d : Int)] w fun e w' => e = .returned (.bool true) ∧ Below w.heap.size w w' := by
  have HL := hide hl
  have HLC := hide hL
  clear hl hL
  have hd : decide ((60 : Int) < (n : Int)) = false := by simp; omega
  have p1 : decide ((d : Int) < 0) = false := by simp
  have p2 : decide ((11 : Int) < (d : Int)) = false := by simp; omega
  go_enter Try.func7, Try.ntmps7
  go_wp2_with fail
  refine (newS w).mono ?_
  rintro e w1 ⟨rfl, h1⟩
  have H1 := hide h1
  clear h1
  go_wp2_with fail
  go_loopw [6] (fun y wr => ∃ (i : Nat) (B : Nat → Bool), i ≤ n ∧ y = .int .i64 i ∧ SpB w.heap.size B w wr) (fun y _ => n - (intOf y).toNat)
  case atStart => exact ⟨0, _, by omega, rfl, H1.out⟩
  case round =>
    obtain ⟨i, B, hi, rfl, hsp⟩ := hrel
    have HSP := hide hsp
    clear hsp H1
    by_cases hlt : i < n
    · have hdi : decide ((i : Int) < (n : Int)) = true := by simp; omega
      have hii : (i : Int) < (n : Int) := by omega
      have hi0 : (0 : Int) ≤ (i : Int) := by omega
      obtain ⟨x, hx⟩ : ∃ x, l[i]? = some x := ⟨_, List.getElem?_eq_getElem (by have := HL.out; omega)⟩
      obtain ⟨bl, o, rfl, hbl, hat, his⟩ := HLC.out.nth hx
      have hat2 := hat.below HSP.out.2.1 hbl
      have HIS := hide his
      have e0 := hat2.c0
      have e1 := hat2.c1
      have e2 := hat2.c2
      have e3 := hat2.c3
      have hln := his.n63
      have hblr : bl < wr.heap.size := Nat.lt_of_lt_of_le hbl HSP.out.2.1.size
      clear hat hat2 his hx
      by_cases h6 : 60 < x.ln
      · have hd6 : decide ((60 : Int) < (x.ln : Int)) = true := by simp; omega
        go_wp2_with fail
        refine (live_any _).mono ?_
        rintro e w2 ⟨rfl, hb⟩
        have H2 := hide (HSP.out.keep hb)
        clear hb
        go_wp2_with fail
        try go_ret
        exact ⟨rfl, H2.out.2.1⟩
      have hd6 : decide ((60 : Int) < (x.ln : Int)) = false := by simp; omega
      have HDO := hide (doesG_any w w.heap.size wr.heap.size B (fun _ => false) (.slice none 0 0) [] x _ (jt_box HSP.out) Rel.nil (by simp) HIS.out (by omega))
      go_wp2_with fail
      refine HDO.out.mono ?_
      rintro e w2 ⟨t, C, rfl, h2⟩
      have H2 := hide h2
      clear h2 HDO e0 e1 e2 e3
      go_wp2_with fail
      all_goals first | exact ⟨⟨i + 1, _, by omega, by go_num, H2.out⟩, by simp [intOf]; omega⟩ | (go_roundw; (case rel => exact ⟨i + 1, _, by omega, by go_num, H2.out⟩); (case measure => simp [intOf]; omega))
    · have hdi : decide ((i : Int) < (n : Int)) = false := by simp; omega
      obtain ⟨F, hF⟩ : ∃ F, frC B (d : Int) = F := ⟨_, rfl⟩
      have HF := hide hF
      clear hF
      go_wp2_with fail
      refine (freeS HSP.out (d : Int) F HF.out).mono ?_
      rintro e w2 ⟨rfl, rfl⟩
      go_wp2_with fail
      go_loopw [8, 9] (fun u y wq => ∃ (z W : Int), -1 ≤ z ∧ z ≤ 47 ∧ y = .int .i64 z ∧ u = .int .i64 W ∧ WantP B d z W ∧ SpB w.heap.size B w wq) (fun _ y _ => (intOf y + 1).toNat)
      case atStart => exact ⟨47, -1, by omega, by omega, rfl, rfl, WantP.start _ _, HSP.out⟩
      case round =>
        obtain ⟨z, W, hz1, hz2, rfl, rfl, hwp, hsp⟩ := hrel
        have HWP := hide hwp
        have HS2 := hide hsp
        clear hwp hsp HSP
        by_cases hz : 0 ≤ z
        · have hdz : decide (0 ≤ z) = true := by simp; omega
          have hw : IntKind.i64.wrap (z - 1) = z - 1 := by rw [IntKind.wrap_i64]; omega
          obtain ⟨T, hT⟩ : ∃ T, B (d * 48 + z.toNat) = T := ⟨_, rfl⟩
          have HTN : Hid (tnB B ((d : Int), z) = T) := by
            have := tn_nat (B := B) (m := z.toNat) hd12 (by omega)
            rw [show ((z.toNat : Nat) : Int) = z by omega, hT] at this
            exact this
          have HT := hide hT
          clear hT
          go_wp2_with fail
          refine (takenS HS2.out (d : Int) z T HTN.out).mono ?_
          rintro e w3 ⟨rfl, h3, -⟩
          have H3 := hide h3
          clear h3
          cases T with
          | false =>
            have HW2 := hide (HWP.out.free hz hz2 HT.out)
            go_wp2_with fail
            all_goals first | exact ⟨⟨z - 1, z, by omega, by omega, rfl, rfl, HW2.out, H3.out⟩, by simp [intOf]; omega⟩ | (go_roundw; (case rel => exact ⟨z - 1, z, by omega, by omega, rfl, rfl, HW2.out, H3.out⟩); (case measure => simp [intOf]; omega))
          | true =>
            have HW2 := hide (HWP.out.taken hz HT.out)
            go_wp2_with fail
            all_goals first | exact ⟨⟨z - 1, W, by omega, by omega, rfl, rfl, HW2.out, H3.out⟩, by simp [intOf]; omega⟩ | (go_roundw; (case rel => exact ⟨z - 1, W, by omega, by omega, rfl, rfl, HW2.out, H3.out⟩); (case measure => simp [intOf]; omega))
        · have hdz : decide (0 ≤ z) = false := by simp; omega
          obtain rfl : z = -1 := by omega
          by_cases hW : W < 0
          · have hdW : decide (W < 0) = true := by simp; omega
            obtain ⟨k1, k2⟩ := least_none hd12 HWP.out hW
            have hF0 : F = 0 := by rw [← HF.out]; exact k2
            have HTT := hide (takeS HS2.out (d : Int) _ 7 rfl k1)
            generalize tkN B (d : Int) = N at *
            clear k1 k2
            subst hF0
            go_wp2_with fail
            refine HTT.out.mono ?_
            rintro e w3 ⟨rfl, h3, -⟩
            have H3 := hide h3
            clear h3 HTT
            go_wp2_with fail
            refine (live_any _).mono ?_
            rintro e w4 ⟨rfl, hb⟩
            have H4 := hide (H3.out.keep hb)
            clear hb
            go_wp2_with fail
            try go_ret
            exact ⟨rfl, H4.out.2.1⟩
          · have hdW : decide (W < 0) = false := by simp; omega
            obtain ⟨k1, k2, k3, k4, k5⟩ := least_some hd12 HWP.out hW
            rw [HF.out] at k3 k4 k5
            have HTT := hide (takeS HS2.out (d : Int) W 0 k2 k1)
            have HK3 := hide k3
            have hwF : IntKind.i64.wrap (F - 1) = F - 1 := by rw [IntKind.wrap_i64]; omega
            clear k1 k2 k3
            go_wp2_with fail
            refine HTT.out.mono ?_
            rintro e w3 ⟨rfl, h3, -⟩
            have H3 := hide h3
            clear h3 HTT
            go_wp2_with fail
            refine (freeS H3.out (d : Int) _ HK3.out).mono ?_
            rintro e w4 ⟨rfl, rfl⟩
            go_wp2_with fail
            refine (live_any _).mono ?_
            rintro e w4 ⟨rfl, hb⟩
            have H4 := hide (H3.out.keep hb)
            clear hb
            go_wp2_with fail
            try go_ret
            exact ⟨rfl, H4.out.2.1⟩
set_option maxRecDepth 100000 in
set_option maxHeartbeats 4000000 in
theorem least_out (a : Option Addr) (n c : Nat) (d : Int) (w : World) (b1 b2 b3 : Bool) (h63 : n ≤ 9223372036854775807) (q1 : decide ((60 : Int) < (n : Int)) = b1) (q2 : decide (d < 0) = b2) (q3 : decide ((11 : Int) < d) = b3) (hor : (b1 || b2 || b3) = true) : Calls Try.prog 7 #[.slice a n c, .int .i64 d] w fun e w' => e = .returned (.bool true) ∧ Below w.heap.size w w' := by
  cases b1 <;> cases b2 <;> cases b3
  · cases hor
  all_goals
    clear hor
    go_enter Try.func7, Try.ntmps7
    go_wp2_with fail
    refine (live_any _).mono ?_
    rintro e w4 ⟨rfl, hb⟩
    have H4 := hide hb
    clear hb
    go_wp2_with fail
    try go_ret
    exact ⟨rfl, H4.out⟩
theorem walkSpaceLeast (a : Option Addr) (n c : Nat) (d : Int) (w : World) (h : Came 22 w a n c) (_ : (Lit.int .i64 d).wf = true) : Calls Try.prog 7 #[.slice a n c, .int .i64 d] w fun e w' => e = .returned (.bool true) ∧ Below w.heap.size w w' := by
  obtain ⟨l, h1, h2, h3⟩ := came_ops h
  by_cases hor : (decide ((60 : Int) < (n : Int)) || decide (d < 0) || decide ((11 : Int) < d)) = true
  · exact least_out a n c d w _ _ _ h2 rfl rfl rfl hor
  · simp at hor
    obtain ⟨d, rfl⟩ : ∃ k : Nat, d = (k : Int) := ⟨d.toNat, by omega⟩
    exact least_is a n c d l w h1 (by omega) (by omega) h3
end Go.Proofs.Ythcpcdinjellcaa
