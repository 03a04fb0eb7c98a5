/- What digest.spread answers: the 64 words of a block. -/
import Derived.Test.YtlpibpkbgmcclaaGreatDoorShSmall
namespace Go.Proofs.YtlpibpkbgmcclaaGreatDoor
open Go.RowKit
/-- the first r bytes of word q, as the loop puts them together -/
def pt (b : Nat → Nat) (q : Nat) : Nat → Nat
  | 0 => 0
  | r + 1 => (pt b q r <<< 8) % Sh.M ||| b (4 * q + r)
/-- the words behind i bytes -/
def pw (b : Nat → Nat) (i q : Nat) : Nat := pt b q (min 4 (i - 4 * q))
theorem pt_lt {b : Nat → Nat} (hb : ∀ p, b p < 256) (q : Nat) : ∀ r, pt b q r < 4294967296 := by
  intro r
  cases r with
  | zero => exact (by decide : (0 : Nat) < 4294967296)
  | succ r => exact Nat.or_lt_two_pow (n := 32) (Nat.mod_lt _ (by decide)) (Nat.lt_of_lt_of_le (hb _) (by decide))
theorem pt_four {b : Nat → Nat} (hb : ∀ p, b p < 256) (q : Nat) : pt b q 4 = Sh.wd b q := by
  have l0 := hb (4 * q)
  have l1 := hb (4 * q + 1)
  have l2 := hb (4 * q + 2)
  have e1 : pt b q 1 = b (4 * q) := by
    show (0 <<< 8) % Sh.M ||| b (4 * q + 0) = _
    simp
  have e2 : pt b q 2 = b (4 * q) <<< 8 ||| b (4 * q + 1) := by
    show (pt b q 1 <<< 8) % Sh.M ||| b (4 * q + 1) = _
    rw [e1, Nat.mod_eq_of_lt (by rw [Nat.shiftLeft_eq]; unfold Sh.M; omega)]
  have h2 : pt b q 2 < 2 ^ 16 := by rw [e2]; exact Nat.or_lt_two_pow (by rw [Nat.shiftLeft_eq]; omega) (by omega)
  have e3 : pt b q 3 = b (4 * q) <<< 16 ||| b (4 * q + 1) <<< 8 ||| b (4 * q + 2) := by
    show (pt b q 2 <<< 8) % Sh.M ||| b (4 * q + 2) = _
    rw [Nat.mod_eq_of_lt (by rw [Nat.shiftLeft_eq]; unfold Sh.M; omega), e2, Nat.shiftLeft_or_distrib, ← Nat.shiftLeft_add]
  have h3 : pt b q 3 < 2 ^ 24 := by
    rw [e3]; exact Nat.or_lt_two_pow (Nat.or_lt_two_pow (by rw [Nat.shiftLeft_eq]; omega) (by rw [Nat.shiftLeft_eq]; omega)) (by omega)
  show (pt b q 3 <<< 8) % Sh.M ||| b (4 * q + 3) = _
  rw [Nat.mod_eq_of_lt (by rw [Nat.shiftLeft_eq]; unfold Sh.M; omega), e3, Nat.shiftLeft_or_distrib, Nat.shiftLeft_or_distrib, ← Nat.shiftLeft_add, ← Nat.shiftLeft_add]
  rfl
theorem pw_lt {b : Nat → Nat} (hb : ∀ p, b p < 256) (i q : Nat) : pw b i q < 4294967296 := pt_lt hb _ _
theorem pw_step (b : Nat → Nat) (i q : Nat) : (if q = i / 4 then (pw b i (i / 4) <<< 8) % Sh.M ||| b i else pw b i q) = pw b (i + 1) q := by
  unfold pw
  by_cases e : q = i / 4
  · subst e
    rw [if_pos rfl, show min 4 (i - 4 * (i / 4)) = i % 4 by omega, show min 4 (i + 1 - 4 * (i / 4)) = i % 4 + 1 by omega, pt, show 4 * (i / 4) + i % 4 = i by omega]
  · rw [if_neg e]
    congr 1
    omega
theorem pw_zero (b : Nat → Nat) (q : Nat) : pw b 0 q = 0 := by unfold pw; rw [Nat.zero_sub]; rfl
theorem pw_all {b : Nat → Nat} (hb : ∀ p, b p < 256) {q : Nat} (hq : q < 16) : pw b 64 q = Sh.wd b q := by unfold pw; rw [show min 4 (64 - 4 * q) = 4 by omega, pt_four hb]
theorem pw_none (b : Nat → Nat) {q : Nat} (hq : 16 ≤ q) : pw b 64 q = 0 := by unfold pw; rw [show min 4 (64 - 4 * q) = 0 by omega]; rfl
theorem pw_int {x c : Nat} (hc : c < 256) : bits .or .u32 ((x : Int) * 256 % 4294967296) (c : Int) = (((x <<< 8) % Sh.M ||| c : Nat) : Int) := by
  have e2 : (x : Int) * (256 : Int) % (4294967296 : Int) = (((x <<< 8) % Sh.M : Nat) : Int) := by rw [Nat.shiftLeft_eq]; unfold Sh.M; omega
  rw [e2, u32_or_nat _ _ (show x <<< 8 % Sh.M < 4294967296 from Nat.mod_lt _ (by decide)) (by omega)]
/-- 64 words, 64 bytes, eight words, as arrays -/
def a64 (f : Nat → Nat) : Array Value := fnC 64 fun q => .int .u32 (f q : Nat)
def b64 (f : Nat → Nat) : Array Value := fnC 64 fun q => .int .u8 (f q : Nat)
def W64 (w : World) (b : Nat) (f : Nat → Nat) : Prop := FnAt w b 131 64 fun q => .int .u32 (f q : Nat)
def B64 (w : World) (b : Nat) (f : Nat → Nat) : Prop := FnAt w b 114 64 fun q => .int .u8 (f q : Nat)
theorem rep64_eq : Array.replicate 64 (Value.int .u32 0) = a64 (fun _ => 0) := fnC_rep _ _
theorem w64_zero_info : (Tryz.prog.info? 131).map (fun i => i.zero) = some (some (.agg (Array.replicate 64 (.int .u32 0)))) := by kernel_rfl
theorem zero_w64 (w : World) : Sem.run Tryz.prog (zeroValue 131) w = .ok (.agg (a64 fun _ => 0)) w := by
  have h := w64_zero_info
  cases hi : Tryz.prog.info? 131 with
  | none => rw [hi] at h; cases h
  | some i =>
    rw [hi] at h
    have hz : i.zero = some (.agg (Array.replicate 64 (.int .u32 0))) := by simpa using h
    simp [zeroValue, typeInfo, hi, hz, rep64_eq]
theorem w64_info : (Tryz.prog.info? 131).map (·.size) = some 64 := by kernel_rfl
theorem w64_info' (f : Nat → Nat) : (Tryz.prog.info? 131).map (·.size) = some (a64 f).size := by rw [a64, fnC_size]; exact w64_info
theorem a64_one (f : Nat → Nat) : (a64 f).all (·.oneCell') = true := fnC_one fun _ _ => rfl
theorem res_w64 {fn : Func} {p : Tmp} (h : fn.results = #[.cell p 131]) (tmps : Array Value) (w : World) (g : Nat) (f : Nat → Nat)
    (hp : tmps.getD p undef = .pointer (some ⟨g, 0, none⟩)) (hr : W64 w g f) : (results fn tmps).run Tryz.prog w = .ok (.agg (a64 f)) w :=
  results_cell_row h tmps w g 131 (a64 f) (0, 0) _ hp hr Tryz.underlying131 rfl (w64_info' f)
def SpRel (w wr : World) (b f : Nat → Nat) : Prop := B64 wr w.heap.size b ∧ W64 wr (w.heap.size + 1) (fun _ => 0) ∧ W64 wr (w.heap.size + 2) f ∧ Below w.heap.size w wr
theorem spRel_set {w wr : World} {b f : Nat → Nat} (h : SpRel w wr b f) (q x : Nat) : SpRel w (wr.setCell ⟨w.heap.size + 2, q, none⟩ (.int .u32 (x : Nat))) b (fun p => if p = q then x else f p) := by
  obtain ⟨h1, h2, h3, h4⟩ := h
  refine ⟨h1.other (by simp) _, h2.other (by simp) _, (h3.set _ _).congr fun p _ => ?_, h4.setCell (by simp) _⟩
  show (if p = q then Value.int .u32 (x : Int) else .int .u32 (f p : Nat)) = .int .u32 ((if p = q then x else f p : Nat) : Int)
  by_cases e : p = q
  · rw [if_pos e, if_pos e]
  · rw [if_neg e, if_neg e]
theorem below_draws {B : Nat} {a w : World} (h : Below B a w) : ∀ n, Below B a (w.drewN n)
  | 0 => h
  | n + 1 => (below_draws h n).drew
theorem SpRel.congr {w wr : World} {b f g : Nat → Nat} (h : SpRel w wr b f) (e : ∀ q, q < 64 → f q = g q) : SpRel w wr b g := ⟨h.1, h.2.1, h.2.2.1.congr fun q hq => by rw [e q hq], h.2.2.2⟩
theorem SpRel.drewN {w wr : World} {b f : Nat → Nat} (h : SpRel w wr b f) (n : Nat) : SpRel w (wr.drewN n) b f := ⟨h.1.drewN n, h.2.1.drewN n, h.2.2.1.drewN n, below_draws h.2.2.2 n⟩
theorem Sh.ww_low {b : Nat → Nat} {q : Nat} (h : q < 16) : Sh.ww b q = Sh.wd b q := by unfold Sh.ww Sh.nxt; rw [if_pos h]
theorem Sh.ww_next (b : Nat → Nat) {i : Nat} (h : 16 ≤ i) : Sh.ww b i = (Sh.ww b (i - 16) + Sh.s0 (Sh.ww b (i - 15)) + Sh.ww b (i - 7) + Sh.s1 (Sh.ww b (i - 2))) % Sh.M := by
  have g : ∀ j, j < i → (Sh.wl b i).getD j 0 = Sh.ww b j := fun j hj => by rw [List.getD_eq_getElem?_getD, Sh.wl_at b hj]; rfl
  rw [Sh.ww, Sh.nxt, if_neg (by omega), g _ (by omega), g _ (by omega), g _ (by omega), g _ (by omega)]
theorem Sh.wd_lt {b : Nat → Nat} (hb : ∀ p, b p < 256) (q : Nat) : Sh.wd b q < 4294967296 := by rw [← pt_four hb]; exact pt_lt hb q 4
theorem Sh.ww_lt {b : Nat → Nat} (hb : ∀ p, b p < 256) (q : Nat) : Sh.ww b q < 4294967296 := by
  by_cases h : q < 16
  · rw [Sh.ww_low h]; exact Sh.wd_lt hb q
  · rw [Sh.ww_next b (by omega)]; exact Nat.mod_lt _ (by decide)
theorem keep4 {W : World} {B i : Nat} (hi : 16 ≤ i) {v : Value} {x1 x2 x3 x4 : Option Value} (h : W.cell? ⟨B, i - 16, none⟩ = x1 ∧ W.cell? ⟨B, i - 15, none⟩ = x2 ∧ W.cell? ⟨B, i - 7, none⟩ = x3 ∧ W.cell? ⟨B, i - 2, none⟩ = x4) :
    (W.setCell ⟨B, i, none⟩ v).cell? ⟨B, i - 16, none⟩ = x1 ∧ (W.setCell ⟨B, i, none⟩ v).cell? ⟨B, i - 15, none⟩ = x2 ∧ (W.setCell ⟨B, i, none⟩ v).cell? ⟨B, i - 7, none⟩ = x3 ∧ (W.setCell ⟨B, i, none⟩ v).cell? ⟨B, i - 2, none⟩ = x4 := by
  refine ⟨?_, ?_, ?_, ?_⟩ <;> rw [World.cell?_setCell_other _ _ _ _ (by simp <;> omega)]
  · exact h.1
  · exact h.2.1
  · exact h.2.2.1
  · exact h.2.2.2
theorem s4_drew {W : World} {B i : Nat} {x1 x2 x3 x4 : Option Value} (h : W.cell? ⟨B, i - 16, none⟩ = x1 ∧ W.cell? ⟨B, i - 15, none⟩ = x2 ∧ W.cell? ⟨B, i - 7, none⟩ = x3 ∧ W.cell? ⟨B, i - 2, none⟩ = x4) :
    W.drew.cell? ⟨B, i - 16, none⟩ = x1 ∧ W.drew.cell? ⟨B, i - 15, none⟩ = x2 ∧ W.drew.cell? ⟨B, i - 7, none⟩ = x3 ∧ W.drew.cell? ⟨B, i - 2, none⟩ = x4 := h
theorem s4_drewN {W : World} {n B i : Nat} {x1 x2 x3 x4 : Option Value} (h : W.cell? ⟨B, i - 16, none⟩ = x1 ∧ W.cell? ⟨B, i - 15, none⟩ = x2 ∧ W.cell? ⟨B, i - 7, none⟩ = x3 ∧ W.cell? ⟨B, i - 2, none⟩ = x4) :
    (W.drewN n).cell? ⟨B, i - 16, none⟩ = x1 ∧ (W.drewN n).cell? ⟨B, i - 15, none⟩ = x2 ∧ (W.drewN n).cell? ⟨B, i - 7, none⟩ = x3 ∧ (W.drewN n).cell? ⟨B, i - 2, none⟩ = x4 := h
theorem ww_int {b : Nat → Nat} {i : Nat} (h : 16 ≤ i) : IntKind.u32.wrap (IntKind.u32.wrap (IntKind.u32.wrap (((Sh.ww b (i - 16) : Nat) : Int) + ((Sh.s0 (Sh.ww b (i - 15)) : Nat) : Int)) + ((Sh.ww b (i - 7) : Nat) : Int)) + ((Sh.s1 (Sh.ww b (i - 2)) : Nat) : Int)) = ((Sh.ww b i : Nat) : Int) := by
  rw [Sh.ww_next b h, IntKind.wrap_u32', IntKind.wrap_u32', IntKind.wrap_u32']
  unfold Sh.M
  omega
/-- the words ahead of i -/
def sq (b : Nat → Nat) (i q : Nat) : Nat := if q < i then Sh.ww b q else 0
theorem sq_in {b : Nat → Nat} {i q : Nat} (h : q < i) : sq b i q = Sh.ww b q := by unfold sq; rw [if_pos h]
theorem sq_first {b : Nat → Nat} (hb : ∀ p, b p < 256) (q : Nat) : pw b 64 q = sq b 16 q := by
  unfold sq
  by_cases h : q < 16
  · rw [if_pos h, pw_all hb h, Sh.ww_low h]
  · rw [if_neg h, pw_none b (by omega)]
theorem sq_step (b : Nat → Nat) (i q : Nat) : (if q = i then Sh.ww b i else sq b i q) = sq b (i + 1) q := by
  unfold sq
  by_cases e : q = i
  · subst e; rw [if_pos rfl, if_pos (by omega)]
  · rw [if_neg e]
    by_cases c : q < i
    · rw [if_pos c, if_pos (by omega)]
    · rw [if_neg c, if_neg (by omega)]
set_option maxRecDepth 100000 in
set_option maxHeartbeats 4000000 in
theorem spread_any (b : Nat → Nat) (w : World) (hb : ∀ p, b p < 256) :
    Calls Tryz.prog 89 #[.agg (b64 b)] w fun e w' => e = .returned (.agg (a64 (Sh.ww b))) ∧ Below w.heap.size w w' := by
  have hz := zero_w64
  go_enter Tryz.func89, Tryz.ntmps89
  go_wp2_with fail
  clear hz
  have hst : SpRel w (((w.alloc (.cells (b64 b) 114)).alloc (.cells (a64 fun _ => 0) 131)).alloc (.cells (a64 fun _ => 0) 131)) b (pw b 0) := by
    have h1 : B64 (w.alloc (.cells (b64 b) 114)) w.heap.size b := heap_alloc_new _ _
    have h2 := heap_alloc_new (w.alloc (.cells (b64 b) 114)) (.cells (a64 fun _ => 0) 131)
    have h3 := heap_alloc_new ((w.alloc (.cells (b64 b) 114)).alloc (.cells (a64 fun _ => 0) 131)) (.cells (a64 fun _ => 0) 131)
    rw [World.size_alloc] at h2
    rw [World.size_alloc, World.size_alloc] at h3
    refine ⟨(h1.alloc _).alloc _, FnAt.alloc (g := fun _ => .int .u32 (0 : Nat)) h2 _, FnAt.congr (g := fun _ => .int .u32 (0 : Nat)) h3 fun q _ => by rw [pw_zero], ?_⟩
    exact (((Below.refl _ _).alloc (Nat.le_refl _) _).alloc (by simp) _).alloc (by simp; omega) _
  have HST := hide hst
  clear hst
  go_loopw [6] (fun y wr => ∃ i : Nat, i ≤ 64 ∧ y = .int .i64 i ∧ SpRel w wr b (pw b i)) (fun y _ => 64 - (intOf y).toNat)
  case atStart => exact ⟨0, by omega, rfl, HST.out⟩
  case round =>
    obtain ⟨i, hi, rfl, hrel⟩ := hrel
    have H := hide hrel
    by_cases hlt : i < 64
    · have hd : decide ((i : Int) < 64) = true := by simp; omega
      have c1 := hrel.2.2.1.cell (p := i / 4) (by omega)
      have f1 := hrel.2.2.1.free (i / 4)
      have c2 := hrel.1.cell (p := i) hlt
      have l1 := pw_lt hb i (i / 4)
      have l2 := hb i
      clear hrel
      go_wp2_with fail
      go_region
      rw [pw_int l2]
      have HN := hide ((spRel_set H.out (i / 4) (pw b i (i / 4) <<< 8 % Sh.M ||| b i)).congr fun q _ => pw_step b i q)
      go_wp2_with fail
      exact ⟨⟨i + 1, by omega, by go_num, HN.out.drewN 1⟩, by simp [intOf]; omega⟩
    · obtain rfl : i = 64 := by omega
      clear hrel
      have HN := hide (H.out.congr fun q _ => sq_first hb q)
      clear H
      go_wp2_with fail
      go_loopw [5] (fun y wr => ∃ i : Nat, 16 ≤ i ∧ i ≤ 64 ∧ y = .int .i64 i ∧ SpRel w wr b (sq b i)) (fun y _ => 64 - (intOf y).toNat)
      case atStart => exact ⟨16, by omega, by omega, rfl, HN.out⟩
      case round =>
        obtain ⟨i, hi16, hi, rfl, hrel⟩ := hrel
        have H := hide hrel
        by_cases hlt : i < 64
        · have hd : decide ((i : Int) < 64) = true := by simp; omega
          have c1 := hrel.2.2.1.cell (p := i - 16) (by omega)
          have c2 := hrel.2.2.1.cell (p := i - 15) (by omega)
          have c3 := hrel.2.2.1.cell (p := i - 7) (by omega)
          have c4 := hrel.2.2.1.cell (p := i - 2) (by omega)
          have c5 := hrel.2.2.1.cell (p := i) (by omega)
          have f5 := hrel.2.2.1.free i
          rw [sq_in (by omega)] at c1 c2 c3 c4
          have l1 := Sh.ww_lt hb (i - 16)
          have l2 := Sh.ww_lt hb (i - 15)
          have l3 := Sh.ww_lt hb (i - 7)
          have l4 := Sh.ww_lt hb (i - 2)
          clear hrel
          have hw16 : IntKind.i64.wrap ((i : Int) - 16) = (i : Int) - 16 := by rw [IntKind.wrap_i64]; omega
          have hn16 : (16 : Int) ≤ (i : Int) := by omega
          have hb16 : (i : Int) - 16 < 64 := by omega
          have ht16 : ((i : Int) - 16).toNat = i - 16 := by omega
          have hw15 : IntKind.i64.wrap ((i : Int) - 15) = (i : Int) - 15 := by rw [IntKind.wrap_i64]; omega
          have hn15 : (15 : Int) ≤ (i : Int) := by omega
          have hb15 : (i : Int) - 15 < 64 := by omega
          have ht15 : ((i : Int) - 15).toNat = i - 15 := by omega
          have hw7 : IntKind.i64.wrap ((i : Int) - 7) = (i : Int) - 7 := by rw [IntKind.wrap_i64]; omega
          have hn7 : (7 : Int) ≤ (i : Int) := by omega
          have hb7 : (i : Int) - 7 < 64 := by omega
          have ht7 : ((i : Int) - 7).toNat = i - 7 := by omega
          have hw2 : IntKind.i64.wrap ((i : Int) - 2) = (i : Int) - 2 := by rw [IntKind.wrap_i64]; omega
          have hn2 : (2 : Int) ≤ (i : Int) := by omega
          have hb2 : (i : Int) - 2 < 64 := by omega
          have ht2 : ((i : Int) - 2).toNat = i - 2 := by omega
          have hni : (0 : Int) ≤ (i : Int) := by omega
          have hbi : (i : Int) < 64 := by omega
          have hS0 : wr.cell? ⟨w.heap.size + 1 + 1, i - 16, none⟩ = some (.int .u32 (Sh.ww b (i - 16) : Nat)) ∧ wr.cell? ⟨w.heap.size + 1 + 1, i - 15, none⟩ = some (.int .u32 (Sh.ww b (i - 15) : Nat)) ∧ wr.cell? ⟨w.heap.size + 1 + 1, i - 7, none⟩ = some (.int .u32 (Sh.ww b (i - 7) : Nat)) ∧ wr.cell? ⟨w.heap.size + 1 + 1, i - 2, none⟩ = some (.int .u32 (Sh.ww b (i - 2) : Nat)) := ⟨c1, c2, c3, c4⟩
          clear c1 c2 c3 c4
          go_wp2_with fail
          go_region_held3 (fun w' => w'.cell? ⟨w.heap.size + 1 + 1, i - 16, none⟩ = some (.int .u32 (Sh.ww b (i - 16) : Nat)) ∧ w'.cell? ⟨w.heap.size + 1 + 1, i - 15, none⟩ = some (.int .u32 (Sh.ww b (i - 15) : Nat)) ∧ w'.cell? ⟨w.heap.size + 1 + 1, i - 7, none⟩ = some (.int .u32 (Sh.ww b (i - 7) : Nat)) ∧ w'.cell? ⟨w.heap.size + 1 + 1, i - 2, none⟩ = some (.int .u32 (Sh.ww b (i - 2) : Nat))) (first | (with_reducible refine s4_drew ?_; assumption) | (with_reducible refine s4_drewN ?_; assumption) | (with_reducible refine keep4 hi16 ?_; assumption))
            (first | (go_at_call 98; with_reducible refine (shifted_s0 (Sh.ww b (i - 15)) _ l2).mono ?_; rintro e w' ⟨rfl, n, rfl⟩) | (go_at_call 98; with_reducible refine (shifted_s1 (Sh.ww b (i - 2)) _ l4).mono ?_; rintro e w' ⟨rfl, n, rfl⟩))
          all_goals
            rename_i hS
            clear hS hS0
            rw [ww_int hi16]
            go_wp2_with fail
            refine ⟨⟨i + 1, by omega, by omega, by go_num, ?_⟩, by simp [intOf]; omega⟩
            exact (spRel_set (H.out.drewN _) i (Sh.ww b i)).congr fun q _ => sq_step b i q
        · obtain rfl : i = 64 := by omega
          obtain ⟨h1, h2, h3, h4⟩ := hrel
          have h3' := h3.congr (g' := fun q => .int .u32 (Sh.ww b q : Nat)) fun q hq => by rw [sq_in hq]
          have H1 := hide h2
          have H2 := hide h3'
          have H4 := hide h4
          clear h1 h2 h3 h3' h4 H
          go_wp2_with (first
            | (refine wpList_load_row rfl 131 (.tmp 3) rfl (w.heap.size + 1 + 1) rfl 131 (a64 (Sh.ww b)) (0, 0) _ H2.out Tryz.underlying131 rfl (w64_info' _) ?_)
            | (refine wpList_store_row rfl 131 (.tmp 2) (.tmp 50) rfl (w.heap.size + 1) (a64 (Sh.ww b)) rfl rfl 131 (a64 fun _ => 0) H1.out (w64_info' _) (by rw [a64, a64, fnC_size, fnC_size]) (a64_one _) ?_))
          refine bodyPost_ret (res_w64 rfl _ _ (w.heap.size + 1) _ rfl (H1.out.put _)) rfl ⟨rfl, below_setRow H4.out (by omega) _⟩
end Go.Proofs.YtlpibpkbgmcclaaGreatDoor
