/- What code.sum and code.alike answer. -/
import Derived.Test.YteiddjjakemklabCdRows
import Derived.Test.YteiddjjakemklabMem
import Derived.Deep.RegionWith
namespace Go.Proofs.Yteiddjjakemklab
open Go.RowKit
/-- the first j texts' part of the sum, at p -/
def partS (r : Nat → Nat) (l : List ByteArray) (j p : Nat) : Nat := Cd.xs j (fun i => Gf.mul (r i) (bt (l[i]?.getD ByteArray.empty) p))
theorem partS_lt (r : Nat → Nat) (l : List ByteArray) (j p : Nat) : partS r l j p < 256 := Cd.xs_lt fun _ _ => Gf.mul_lt _ _
/-- the sum of six texts of length L, by the row r -/
def sumS (r : Nat → Nat) (l : List ByteArray) (L : Nat) : ByteArray := mkS L (partS r l 6)
def SmRel (w wr : World) (r : Nat → Nat) (l : List ByteArray) (L j k : Nat) : Prop :=
  RowAt wr w.heap.size r ∧ ByAt wr (w.heap.size + 1) L (fun p => if p < k then partS r l (j + 1) p else partS r l j p) ∧ Below w.heap.size w wr
theorem smRel_step {w wr : World} {r : Nat → Nat} {l : List ByteArray} {L j k : Nat} (h : SmRel w wr r l L j k) (n : Nat) {s : ByteArray} (hs : l[j]? = some s) :
    SmRel w ((wr.drewN n).setCell ⟨w.heap.size + 1, k, none⟩ (.int .u8 (bits .xor .u8 (partS r l j k : Nat) (Gf.mul (r j) (bt s k) : Nat)))) r l L j (k + 1) := by
  obtain ⟨h1, h2, h3⟩ := h
  rw [u8_xor_nat _ _ (partS_lt _ _ _ _) (Gf.mul_lt _ _)]
  refine ⟨(h1.drewN n).other (by simp) _, ((h2.drewN n).set k _).congr fun p _ => ?_, (below_draws h3 n).setCell (by simp) _⟩
  have e : partS r l j k ^^^ Gf.mul (r j) (bt s k) = partS r l (j + 1) k := by unfold partS; rw [Cd.xs, hs]; rfl
  rw [e]
  exact step_row (f := partS r l (j + 1)) k p
set_option maxRecDepth 100000 in
set_option maxHeartbeats 4000000 in
theorem sum_any (b : Nat) (r : Nat → Nat) (a : Option Addr) (cap L : Nat) (l : List ByteArray) (w : World) (ht : TabAt w b) (hr : ∀ j, j < 6 → r j < 256) (hl : l.length = 6) (hS : StrsAt w a l) (hL : ∀ s ∈ l, s.size = L) (hLb : L ≤ 1000) :
    Calls Try.prog 25 #[.pointer (some ⟨b, 0, none⟩), .agg (rowC r), .slice a 6 cap] w fun e w' => e = .returned (.string (sumS r l L)) ∧ Below w.heap.size w w' := by
  rcases hS with hS | ⟨bs, o, rfl, hbs, hc⟩
  · rw [hS] at hl; simp at hl
  have HT := hide ht
  have HR := hide hr
  have HL := hide hL
  have HC := hide hc
  have HN := hide hl
  obtain ⟨s0, hs0⟩ : ∃ s, l[0]? = some s := ⟨l[0], List.getElem?_eq_getElem (by omega)⟩
  have hc0 : w.cell? ⟨bs, o, none⟩ = some (.string s0) := hc 0 s0 hs0
  have hz0 : s0.size = L := hL s0 (List.mem_of_getElem? hs0)
  have hmk := make_bytes L (by omega)
  have hge : ¬ (w.heap.size ≤ bs) := by omega
  clear ht hr hL hc hl hs0
  go_enter Try.func25, Try.ntmps25
  go_wp2_with fail
  clear hmk hc0 hz0
  go_loopw [18] (fun y wr => ∃ j : Nat, j ≤ 6 ∧ y = .int .i64 j ∧ SmRel w wr r l L j 0) (fun y _ => 6 - (intOf y).toNat)
  case atStart =>
    have h1 := heap_alloc_new w (.cells (rowC r) 52)
    have h2 := heap_alloc_new (w.alloc (.cells (rowC r) 52)) (.cells (byC L fun _ => 0) 5)
    rw [World.size_alloc] at h2
    refine ⟨0, by omega, rfl, RowAt.alloc (r := r) h1 _, ByAt.congr (f := fun _ => 0) h2 fun p _ => by rw [if_neg (by omega)]; rfl, ((Below.refl _ _).alloc (Nat.le_refl _) _).alloc (by simp) _⟩
  case round =>
    obtain ⟨j, hj, rfl, hrel⟩ := hrel
    by_cases hlt : j < 6
    · obtain ⟨s, hs⟩ : ∃ s, l[j]? = some s := ⟨_, List.getElem?_eq_getElem (by have := HN.out; omega)⟩
      have hz : s.size = L := HL.out s (List.mem_of_getElem? hs)
      have hcj : wr.cell? ⟨bs, o + j, none⟩ = some (.string s) := (hrel.2.2.cell (p := ⟨bs, o + j, none⟩) hbs).trans (HC.out j s hs)
      have H := hide hrel
      have HS := hide hs
      have HZ := hide hz
      clear hrel hs hz
      have hdj : decide ((j : Int) < 6) = true := by simp; omega
      go_wp2_with fail
      go_loopw [25] (fun y wr => ∃ k : Nat, k ≤ L ∧ y = .int .i64 k ∧ SmRel w wr r l L j k) (fun y _ => L - (intOf y).toNat)
      case atStart => exact ⟨0, by omega, rfl, H.out⟩
      case round =>
        clear H hcj
        obtain ⟨k, hk, rfl, hrel⟩ := hrel
        by_cases hlk : k < L
        · have c1 : wr.cell? ⟨w.heap.size + 1, k, none⟩ = some (.int .u8 (partS r l j k : Nat)) := by have := hrel.2.1.cell hlk; rwa [if_neg (by omega)] at this
          have f1 := hrel.2.1.free k
          have c2 := hrel.1.cell hlt
          have hks : k < s.size := by rw [HZ.out]; exact hlk
          have hbt := bt_lt s k
          have HB := hide (bt_eq hks)
          have HTR := hide (HT.out.below hrel.2.2 HT.out.lt)
          have H := hide hrel
          clear hrel
          have hk0 : (0 : Int) ≤ (k : Int) := Int.natCast_nonneg _
          have hkl : (k : Int) < (L : Int) := by omega
          have hks' : (k : Int) < (s.size : Int) := by omega
          have hj0 : (0 : Int) ≤ (j : Int) := Int.natCast_nonneg _
          have hj6 : (j : Int) < 6 := by omega
          go_wp2_with fail
          go_region_with (first | (go_at_call 33; rw [HB.out]; refine (times_any b (r j) (bt s k) _ (by exact HTR.out.drewN _) (HR.out j hlt) hbt).mono ?_; rintro e w1 ⟨rfl, n1, rfl⟩))
          all_goals
            go_wp2_with fail
            go_roundw
            case rel => exact ⟨k + 1, by omega, by go_num, smRel_step H.out _ HS.out⟩
            case measure => simp [intOf]; omega
        · obtain rfl : k = L := by omega
          have H2 : Hid (SmRel w wr r l k (j + 1) 0) := ⟨hrel.1, hrel.2.1.congr fun p hp => by rw [if_pos hp, if_neg (by omega)], hrel.2.2⟩
          clear hrel
          go_wp2_with fail
          go_roundw
          case rel => exact ⟨j + 1, by omega, by go_num, H2.out⟩
          case measure => simp [intOf]; omega
    · obtain rfl : j = 6 := by omega
      have h2 : ByAt wr (w.heap.size + 1) L (partS r l 6) := hrel.2.1.congr fun p _ => by rw [if_neg (by omega)]
      have hcv := bytes_string h2
      have H := hide hrel
      clear hrel h2
      go_wp2_with fail
      go_ret
      exact ⟨rfl, H.out.2.2⟩
/-- are all of one length? -/
def al (l : List ByteArray) : Bool := l.all fun s => s.size == (l[0]?.getD ByteArray.empty).size
theorem al_no {l : List ByteArray} {k : Nat} {s s0 : ByteArray} (hs : l[k]? = some s) (h0 : l[0]? = some s0) (h : s.size ≠ s0.size) : al l = false := by
  unfold al
  rw [h0]
  rw [List.all_eq_false]
  exact ⟨s, List.mem_of_getElem? hs, by simpa using h⟩
theorem al_yes {l : List ByteArray} {s0 : ByteArray} (h0 : l[0]? = some s0) (h : ∀ (k : Nat) (s : ByteArray), l[k]? = some s → s.size = s0.size) : al l = true := by
  unfold al
  rw [h0, List.all_eq_true]
  intro s hs
  obtain ⟨k, hk⟩ := List.mem_iff_getElem?.1 hs
  simpa using h k s hk
theorem al_iff {l : List ByteArray} : al l = true ↔ ∀ s ∈ l, s.size = (l[0]?.getD ByteArray.empty).size := by
  unfold al; simp [List.all_eq_true]
theorem ret_bool {a b : Bool} (h : a = b) : Ending.returned (.bool a) = .returned (.bool b) := by rw [h]
set_option maxRecDepth 100000 in
set_option maxHeartbeats 1000000 in
theorem alike_any (a : Option Addr) (n cap : Nat) (l : List ByteArray) (w : World) (hl : l.length = n) (hn : n ≤ 1000000) (hS : StrsAt w a l) :
    Calls Try.prog 23 #[.slice a n cap] w fun e w' => e = .returned (.bool (al l)) ∧ w = w' := by
  rcases hS with rfl | ⟨bs, o, rfl, hbs, hc⟩
  · obtain rfl : n = 0 := by simpa using hl.symm
    go_enter Try.func23, Try.ntmps23
    go_wp2_with fail
    go_loop [7] (fun y => y = .int .i64 0) (fun _ => 0)
    case atStart => rfl
    case round =>
      obtain rfl := hrel
      go_wp2_with fail
      go_ret
      exact ⟨rfl, rfl⟩
  · rcases Nat.eq_zero_or_pos n with rfl | hpos
    · obtain rfl : l = [] := by simpa using hl
      go_enter Try.func23, Try.ntmps23
      go_wp2_with fail
      go_loop [7] (fun y => y = .int .i64 0) (fun _ => 0)
      case atStart => rfl
      case round =>
        obtain rfl := hrel
        go_wp2_with fail
        go_ret
        exact ⟨rfl, rfl⟩
    · obtain ⟨s0, hs0⟩ : ∃ s, l[0]? = some s := ⟨l[0], List.getElem?_eq_getElem (by omega)⟩
      have hc0 : w.cell? ⟨bs, o, none⟩ = some (.string s0) := hc 0 s0 hs0
      have HC := hide hc
      have HL := hide hl
      have H0 := hide hs0
      clear hc hl hs0
      go_enter Try.func23, Try.ntmps23
      go_wp2_with fail
      go_loop [7] (fun y => ∃ k : Nat, k ≤ n ∧ y = .int .i64 k ∧ ∀ i s, i < k → l[i]? = some s → s.size = s0.size) (fun y => n - (intOf y).toNat)
      case atStart => exact ⟨0, by omega, rfl, fun _ _ h => by omega⟩
      case round =>
        obtain ⟨k, hk, rfl, hall⟩ := hrel
        have HA := hide hall
        clear hall
        by_cases hlt : k < n
        · obtain ⟨s, hs⟩ : ∃ s, l[k]? = some s := ⟨_, List.getElem?_eq_getElem (by have := HL.out; omega)⟩
          have hck := HC.out k s hs
          have HS := hide hs
          clear hs
          by_cases he : s.size = s0.size
          · have hb : ((s.size : Int) != (s0.size : Int)) = false := by simp [he]
            have hb' : (s.size != s0.size) = false := by simp [he]
            have HE := hide he
            clear he
            go_wp2_with fail
            go_round
            case rel => exact ⟨k + 1, by omega, by go_num, fun i t hi ht => by
              by_cases e : i = k
              · subst e; rw [HS.out] at ht; cases ht; exact HE.out
              · exact HA.out i t (by omega) ht⟩
            case measure => simp [intOf]; omega
          · have hb : ((s.size : Int) != (s0.size : Int)) = true := by simp; omega
            have hb' : (s.size != s0.size) = true := by simp [he]
            have HE := hide he
            clear he
            go_wp2_with fail
            go_ret
            exact ⟨ret_bool (al_no HS.out H0.out HE.out).symm, rfl⟩
        · go_wp2_with fail
          go_ret
          exact ⟨ret_bool (al_yes H0.out fun i s hs => HA.out i s (by have := (List.getElem?_eq_some_iff.1 hs).1; have := HL.out; omega) hs).symm, rfl⟩
end Go.Proofs.Yteiddjjakemklab
