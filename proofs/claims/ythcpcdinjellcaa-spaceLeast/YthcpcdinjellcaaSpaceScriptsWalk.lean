/- SpaceScripts answers true at every input. -/
import Derived.Test.YthcpcdinjellcaaSpDoesB
import Derived.Lib.QuietBelow
namespace Go.Proofs.Ythcpcdinjellcaa
open Go.RowKit
set_option linter.unusedVariables false
theorem OpsAt.nth {w : World} {a : Option Addr} {l : List OpR} (h : OpsAt w a l) {k : Nat} {x : OpR} (hx : l[k]? = some x) : ∃ b o, a = some ⟨b, o, none⟩ ∧ b < w.heap.size ∧ OpAt w b (o + k * 4) x ∧ OpIs w x := by
  rcases h with q | ⟨b, o, ha, hlt, hc⟩
  · rw [q] at hx; simp at hx
  · exact ⟨b, o, ha, hlt, (hc k x hx).1, (hc k x hx).2⟩
theorem Rel.nil : Rel (fun _ => false) [] := ⟨fun _ _ => rfl, List.nodup_nil, fun _ h => by cases h⟩
theorem jt_start {w w1 : World} (h : SpB w.heap.size (fun _ => false) w w1) : Jt w w.heap.size w1.heap.size (fun _ => false) (.slice none 0 0) [] (w1.alloc (.cells #[.slice none 0 0] 29)) :=
  ⟨h.keep ((Below.refl _ _).alloc (Nat.le_refl _) _), ⟨heap_alloc_new _ _, World.ownsRow_nil _ _ _ _⟩, h.1.lt⟩
theorem taken_q {b x y B W} (h : SpAt W b B) : ∀ q os, Calls Try.prog 14 #[.pointer (some ⟨b, 0, none⟩), .agg #[.int .i64 x, .int .i64 y]] (Go.Sort.grow (redrawn W q) os) fun e w'' => e = .returned (.bool (tnB B (x, y))) ∧ ∃ p : Regrown, w'' = Go.Sort.grow (redrawn W p.d) p.os := fun q os => Calls.regrown_of (taken_any b (x, y) B _ (h.below (below_regrown W q os)))
theorem rtaken_q {rb x y v L W} {t : Bool} (h : Rs W rb v L) (ht : memL L (x, y) = t) : ∀ q os, Calls Try.prog 15 #[.pointer (some ⟨rb, 0, none⟩), .agg #[.int .i64 x, .int .i64 y]] (Go.Sort.grow (redrawn W q) os) fun e w'' => e = .returned (.bool t) ∧ ∃ p : Regrown, w'' = Go.Sort.grow (redrawn W p.d) p.os := fun q os => by
  subst ht
  exact Calls.regrown_of (rTaken_any rb v L x y _ (h.below (below_regrown W q os)))
set_option maxRecDepth 100000 in
set_option maxHeartbeats 8000000 in
theorem scripts_is (a : Option Addr) (n c : Nat) (l : List OpR) (w : World) (hl : l.length = n) (h63 : n ≤ 9223372036854775807) (hL : OpsAt w a l) : Calls Try.prog 3 #[.slice a n c] w fun e w' => e = .returned (.bool true) ∧ Below w.heap.size w w' := by
  have HL := hide hl
  have HLC := hide hL
  clear hl hL
  by_cases h60 : 60 < n
  · have hd : decide ((60 : Int) < (n : Int)) = true := by simp; omega
    go_enter Try.func3, Try.ntmps3
    go_wp2_with fail
    refine (live_any _).mono ?_
    rintro e w1 ⟨rfl, hb⟩
    have HB1 := hide hb
    clear hb
    go_wp2_with fail
    try go_ret
    exact ⟨rfl, HB1.out⟩
  have hd : decide ((60 : Int) < (n : Int)) = false := by simp; omega
  go_enter Try.func3, Try.ntmps3
  go_wp2_with fail
  refine (newS w).mono ?_
  rintro e w1 ⟨rfl, h1⟩
  have H1 := hide h1
  clear h1
  go_wp2_with fail
  have HJ0 := hide (jt_start H1.out)
  clear H1
  generalize w1.heap.size = rb at *
  generalize (w1.alloc (.cells #[.slice none 0 0] 29)) = W1 at *
  go_loopw [5] (fun y wr => ∃ (i : Nat) (B : Nat → Bool) (v : Value) (L : List (Int × Int)), i ≤ n ∧ y = .int .i64 i ∧ L.length ≤ 60 * i ∧ Rel B L ∧ Jt w w.heap.size rb B v L wr) (fun y _ => n - (intOf y).toNat)
  case atStart => exact ⟨0, _, _, _, by omega, rfl, by simp, Rel.nil, HJ0.out⟩
  case round =>
    obtain ⟨i, B, v, L, hi, rfl, hLl, hrl, hjt⟩ := hrel
    have HJ := hide hjt
    have HR := hide hrl
    clear hjt hrl HJ0
    by_cases hlt : i < n
    · have hdi : decide ((i : Int) < (n : Int)) = true := by simp; omega
      have hii : (i : Int) < (n : Int) := by omega
      have hi0 : (0 : Int) ≤ (i : Int) := by omega
      obtain ⟨x, hx⟩ : ∃ x, l[i]? = some x := ⟨_, List.getElem?_eq_getElem (by have := HL.out; omega)⟩
      obtain ⟨bl, o, rfl, hbl, hat, his⟩ := HLC.out.nth hx
      have hat2 := hat.below HJ.out.sp.2.1 hbl
      have HIS := hide his
      have e0 := hat2.c0
      have e1 := hat2.c1
      have e2 := hat2.c2
      have e3 := hat2.c3
      have hln := his.n63
      clear hat hat2 his hx
      by_cases h6 : 60 < x.ln
      · have hd6 : decide ((60 : Int) < (x.ln : Int)) = true := by simp; omega
        go_wp2_with fail
        refine (live_any _).mono ?_
        rintro e w2 ⟨rfl, hb⟩
        have H2 := hide (HJ.out.sp.keep hb)
        clear hb
        go_wp2_with fail
        try go_ret
        exact ⟨rfl, H2.out.2.1⟩
      have hd6 : decide ((60 : Int) < (x.ln : Int)) = false := by simp; omega
      have HDO := hide (does_any w w.heap.size rb B v L x _ HJ.out HR.out (by omega) HIS.out (by omega))
      go_wp2_with fail
      refine HDO.out.mono ?_
      rintro e w2 ⟨rfl, C, v', L', hj2, hr2, hl2⟩
      have HJ2 := hide hj2
      have HR2 := hide hr2
      clear hj2 hr2 HDO e0 e1 e2 e3 HJ HR
      go_wp2_with fail
      go_loop [6] (fun y => ∃ d : Int, -1 ≤ d ∧ d ≤ 13 ∧ y = .int .i64 d) (fun y => (13 - intOf y).toNat)
      case atStart => exact ⟨-1, by omega, by omega, rfl⟩
      case round =>
        obtain ⟨d, hd1, hd2, rfl⟩ := hrel
        by_cases hdl : d < 13
        · have hdd : decide (d < 13) = true := by simp; omega
          have hw : IntKind.i64.wrap (d + 1) = d + 1 := by rw [IntKind.wrap_i64]; omega
          have HF := hide (HR2.out.free d)
          go_wp2_with fail
          refine (freeS HJ2.out.sp d _ HF.out).mono ?_
          rintro e w3 ⟨rfl, rfl⟩
          go_wp2_with fail
          refine (rFree_any rb v' L' d _ HJ2.out.rs (by omega)).mono ?_
          rintro e w3 ⟨rfl, rfl⟩
          go_wp2_with fail
          all_goals first | exact ⟨⟨d + 1, by omega, by omega, rfl⟩, by simp [intOf]; omega⟩ | (go_round; (case rel => exact ⟨d + 1, by omega, by omega, rfl⟩); (case measure => simp [intOf]; omega))
        · have hdd : decide (d < 13) = false := by simp; omega
          go_wp2_with fail
          go_loopw [7] (fun y wq => ∃ j : Nat, j ≤ i + 1 ∧ y = .int .i64 j ∧ Jt w w.heap.size rb C v' L' wq) (fun y _ => i + 1 - (intOf y).toNat)
          case atStart => exact ⟨0, by omega, rfl, HJ2.out⟩
          case round =>
            obtain ⟨j, hj, rfl, hjt⟩ := hrel
            have HJ3 := hide hjt
            clear hjt
            by_cases hjl : j ≤ i
            · have hdj : decide ((j : Int) ≤ (i : Int)) = true := by simp; omega
              have hjn : (j : Int) < (n : Int) := by omega
              have hj0 : (0 : Int) ≤ (j : Int) := by omega
              obtain ⟨z, hz⟩ : ∃ x, l[j]? = some x := ⟨_, List.getElem?_eq_getElem (by have := HL.out; omega)⟩
              obtain ⟨bl', o', he', hbl', hat, -⟩ := HLC.out.nth hz
              cases he'
              have hat2 := hat.below HJ3.out.sp.2.1 hbl'
              have e1 := cell_regrown hat2.c1
              have e2 := cell_regrown hat2.c2
              have r1 := taken_q (x := z.x) (y := z.y) HJ3.out.sp.1
              have r2 := rtaken_q (x := z.x) (y := z.y) HJ3.out.rs (HR2.out.tn _)
              generalize tnB C (z.x, z.y) = T at *
              clear hat hat2 hz
              go_wp2_with fail
              refine wp_region_quiet_below (by kernel_rfl) (by kernel_rfl) ?_
              repeat (quiet_step (first | (with_reducible exact r1 _ _) | (with_reducible exact r2 _ _)))
              refine wpQuiet_nil ?_
              rintro w8 ⟨pq, hw8⟩
              have H4 : Hid (Jt w w.heap.size rb C v' L' w8) := HJ3.out.keep (by rw [hw8]; exact below_regrown _ _ _)
              clear e1 e2 r1 r2 hw8
              go_wp2_with fail
              all_goals first | exact ⟨⟨j + 1, by omega, by go_num, H4.out⟩, by simp [intOf]; omega⟩ | (go_roundw; (case rel => exact ⟨j + 1, by omega, by go_num, H4.out⟩); (case measure => simp [intOf]; omega))
            · have hdj : decide ((j : Int) ≤ (i : Int)) = false := by simp; omega
              go_wp2_with fail
              all_goals first | exact ⟨⟨i + 1, _, _, _, by omega, by go_num, by omega, HR2.out, HJ3.out⟩, by simp [intOf]; omega⟩ | (go_roundw; (case rel => exact ⟨i + 1, _, _, _, by omega, by go_num, by omega, HR2.out, HJ3.out⟩); (case measure => simp [intOf]; omega))
    · have hdi : decide ((i : Int) < (n : Int)) = false := by simp; omega
      go_wp2_with fail
      refine (live_any _).mono ?_
      rintro e w2 ⟨rfl, hb⟩
      have H2 := hide (HJ.out.sp.keep hb)
      clear hb
      go_wp2_with fail
      try go_ret
      exact ⟨rfl, H2.out.2.1⟩
theorem walkSpaceScripts (a : Option Addr) (n c : Nat) (w : World) (h : Came 22 w a n c) : Calls Try.prog 3 #[.slice a n c] w fun e w' => e = .returned (.bool true) ∧ Below w.heap.size w w' := by
  obtain ⟨l, h1, h2, h3⟩ := came_ops h
  exact scripts_is a n c l w h1 h2 h3
end Go.Proofs.Ythcpcdinjellcaa
