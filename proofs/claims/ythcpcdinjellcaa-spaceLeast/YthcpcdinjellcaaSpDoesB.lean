/- What any call on a space and on the document's tells. -/
import Derived.Test.YthcpcdinjellcaaSpDoes
import Derived.Test.YthcpcdinjellcaaSpaceFullWalk
namespace Go.Proofs.Ythcpcdinjellcaa
open Go.RowKit
set_option linter.unusedVariables false
theorem LocsAt.keepB {w w' : World} {a : Option Addr} {l : List (Int × Int)} (h : LocsAt w a l) (hs : w.heap.size ≤ w'.heap.size) (hb : ∀ p, a = some p → p.block < w.heap.size → w'.heap[p.block]? = w.heap[p.block]?) : LocsAt w' a l := by
  rcases h with h | ⟨b, o, rfl, hlt, hc⟩
  · exact .inl h
  · refine .inr ⟨b, o, rfl, Nat.lt_of_lt_of_le hlt hs, fun i x hx => ?_⟩
    have e := hb _ rfl hlt
    have q1 : w'.cell? ⟨b, o + i * 2, none⟩ = w.cell? ⟨b, o + i * 2, none⟩ := World.cell?_of_block e
    have q2 : w'.cell? ⟨b, o + i * 2 + 1, none⟩ = w.cell? ⟨b, o + i * 2 + 1, none⟩ := World.cell?_of_block e
    exact ⟨q1.trans (hc i x hx).1, q2.trans (hc i x hx).2⟩
theorem ints_blk {w : World} {a : Option Addr} {l : List Int} (h : IntsAt w a l) : l ≠ [] → ∀ p, a = some p → p.block < w.heap.size := by
  intro hl p hp
  rcases h with h | ⟨b, o, rfl, hlt, hc⟩
  · exact absurd h hl
  · cases hp; exact hlt
theorem rAllF (rb : Nat) (v : Value) (L : List (Int × Int)) (B : Nat → Bool) (a : Option Addr) (n c : Nat) (D : List Int) (w : World) (h : Rs w rb v L) (hr : Rel B L) (hl : L.length ≤ 100000) (hDl : D.length = n) (hn : n ≤ 1000) (hD : IntsAt w a D) (hDb : D ≠ [] → ∀ p, a = some p → p.block < rb) (k : Nat) (E : Int) (hk : k < n) (hok : ∀ i, i < k → allE B D i = 0) (hE : allE B D k = E) (hE0 : E ≠ 0) :
    Calls Try.prog 25 #[.pointer (some ⟨rb, 0, none⟩), .slice a n c] w fun e w' => e = .returned (.tuple #[.slice none 0 0, .int .i64 E]) ∧ Rs w' rb v L ∧ Ru rb v w v w' := by
  refine (rAll_any rb v L B a n c D w h hr hl hDl hn hD hDb).mono fun e w' hd => ?_
  rcases hd with ⟨k', hk', hok', hne, he, hS, hu⟩ | ⟨hok', _⟩
  · have : k' = k := by
      rcases Nat.lt_trichotomy k' k with q | q | q
      · exact absurd (hok k' q) hne
      · exact q
      · exact absurd (hE ▸ hok' k q) hE0
    subst this
    rw [hE] at he
    exact ⟨he, hS, hu⟩
  · exact absurd (hE ▸ hok' k (by omega)) hE0
theorem rAllS (rb : Nat) (v : Value) (L : List (Int × Int)) (B : Nat → Bool) (a : Option Addr) (n c : Nat) (D : List Int) (w : World) (h : Rs w rb v L) (hr : Rel B L) (hl : L.length ≤ 100000) (hDl : D.length = n) (hn : n ≤ 1000) (hD : IntsAt w a D) (hDb : D ≠ [] → ∀ p, a = some p → p.block < rb) (hok : ∀ i, i < n → allE B D i = 0) :
    Calls Try.prog 25 #[.pointer (some ⟨rb, 0, none⟩), .slice a n c] w fun e w' => ∃ a' c', e = .returned (.tuple #[.slice a' n c', .int .i64 0]) ∧ LocsAt w' a' (allLs B D n) ∧ ∃ v', Rs w' rb v' (L ++ allLs B D n) ∧ Ru rb v w v' w' ∧ Rel (allB B D n) (L ++ allLs B D n) := by
  refine (rAll_any rb v L B a n c D w h hr hl hDl hn hD hDb).mono fun e w' hd => ?_
  rw [← hDl]
  rcases hd with ⟨k', hk', hok', hne, he, hS, hu⟩ | ⟨hok', a', c', he, hL, hv⟩
  · exact absurd (hok k' (by omega)) hne
  · exact ⟨a', c', he, hL, hv⟩
set_option maxRecDepth 100000 in
set_option maxHeartbeats 8000000 in
theorem does_all (w0 : World) (b rb : Nat) (B : Nat → Bool) (v : Value) (L : List (Int × Int)) (x : OpR) (w : World) (hj : Jt w0 b rb B v L w) (hr : Rel B L) (hl : L.length ≤ 90000) (ha : x.act = 3) (hop : OpIs w0 x) (h60 : x.ln ≤ 60) : Calls Try.prog 11 #[.pointer (some ⟨b, 0, none⟩), .pointer (some ⟨rb, 0, none⟩), .agg #[.int .i64 x.act, .int .i64 x.x, .int .i64 x.y, .slice x.la x.ln x.lc]] w (DoP w0 b rb L) := by
  have HR := hide hr
  have hal : Below w.heap.size w (w.alloc (.cells #[.int .i64 x.act, .int .i64 x.x, .int .i64 x.y, .slice x.la x.ln x.lc] 34)) := (Below.refl _ _).alloc (Nat.le_refl _) _
  have HJ1 := hide (hj.keep hal)
  have HOB : Hid (OB w.heap.size x (w.alloc (.cells #[.int .i64 x.act, .int .i64 x.x, .int .i64 x.y, .slice x.la x.ln x.lc] 34))) := heap_alloc_new _ _
  have hkb : w.heap.size ≠ b := by have := hj.sp.1.lt; omega
  have hrl := hj.rs.lt
  have hbl := hj.lt
  have h0b := hj.sp.2.2
  have hc0 := HOB.out.c0
  have hc3 := HOB.out.c3
  have HLEN := hide hop.len
  have HD0 := hide hop.ints
  have HDB := hide (ints_blk hop.ints)
  have HVL : Hid (∀ g, v.ownBlock = some g → g < w.heap.size) := fun g hg => (own_lt hj.rs.row hg).1
  clear hj hr hop
  obtain ⟨act, xx, xy, la, ln, lc, ll⟩ := x
  simp only at ha HOB HJ1 hc0 hc3 HLEN HD0 HDB hal h60 ⊢
  subst ha
  have HAL := hide (all_any b la ln lc ll B _ HJ1.out.sp.1 HLEN.out (by omega) (HD0.out.below HJ1.out.sp.2.1) (fun h p hp => by have := HDB.out h p hp; omega))
  have hsW : w.heap.size ≤ (w.alloc (.cells #[.int .i64 3, .int .i64 xx, .int .i64 xy, .slice la ln lc] 34)).heap.size := hal.size
  have HSW := hide hsW
  clear hal hsW
  go_enter Try.func11, Try.ntmps11
  go_wp2_with fail
  refine HAL.out.mono ?_
  rintro e w1 ⟨hu1, hd1⟩
  have HO2 := hide (HOB.out.space hu1 hkb)
  have c3 := HO2.out.c3
  have hs1 := hu1.size
  simp only at c3
  clear hc0 hc3
  rcases hd1 with ⟨k, hk, hok, hne, rfl, hS⟩ | ⟨hok, a1, c1, rfl, hL, hN, hS⟩
  · have HJ2 := hide (HJ1.out.space (HJ1.out.sp.step hS hu1) hu1)
    have HT2 := hide (rAllF rb v L B la ln lc ll w1 HJ2.out.rs HR.out (by omega) HLEN.out (by omega) (HD0.out.below HJ2.out.sp.2.1) (fun h p hp => by have := HDB.out h p hp; omega) k _ (by have := HLEN.out; omega) hok rfl hne)
    generalize allE B ll k = E at *
    clear hS hu1 hok hne HAL hs1
    go_wp2_with fail
    refine HT2.out.mono ?_
    rintro e w2 ⟨rfl, hrs, hru⟩
    have HJ3 := hide (HJ2.out.ref hrs hru)
    clear hrs hru HT2
    go_wp2_with fail
    refine (locs_same none none 0 0 0 [] w2 rfl (by omega) (.inl rfl) (.inl rfl)).mono ?_
    rintro e w3 ⟨rfl, hb3⟩
    have HJ4 := hide (HJ3.out.keep hb3)
    clear hb3
    go_wp2_with fail
    try go_ret
    exact ⟨rfl, _, _, _, HJ4.out, HR.out, by omega⟩
  · have HJ2 := hide (HJ1.out.space (HJ1.out.sp.step hS hu1) hu1)
    rw [HLEN.out] at hok hL HJ2 ⊢
    have HT2 := hide (rAllS rb v L B la ln lc ll w1 HJ2.out.rs HR.out (by omega) HLEN.out (by omega) (HD0.out.below HJ2.out.sp.2.1) (fun h p hp => by have := HDB.out h p hp; omega) hok)
    have HL1 := hide hL
    have HLL := hide (allLs_len B ll ln)
    have HN := hide hN
    generalize allLs B ll ln = M at *
    generalize allB B ll ln = C at *
    have HS1 := hide hs1
    clear hS hu1 hok HAL hL hN hs1
    go_wp2_with fail
    refine HT2.out.mono ?_
    rintro e w2 ⟨a2, c2, rfl, hL2, v', hrs, hru, hrel⟩
    have HJ3 := hide (HJ2.out.ref hrs hru)
    have HRE := hide hrel
    have HL3 : Hid (LocsAt w2 a1 M) := HL1.out.keepB hru.size fun p hp hlt => hru.blk p.block hlt (by have := HN.out p hp; have := HSW.out; omega) (fun e => by have := HVL.out _ e; have := HN.out p hp; have := HSW.out; omega)
    have HL2 := hide hL2
    clear hrs hru HT2 hL2 hrel
    go_wp2_with fail
    refine (locs_same a1 a2 c1 c2 ln M w2 HLL.out (by omega) HL3.out HL2.out).mono ?_
    rintro e w3 ⟨rfl, hb3⟩
    have HJ4 := hide (HJ3.out.keep hb3)
    clear hb3
    go_wp2_with fail
    try go_ret
    exact ⟨rfl, _, _, _, HJ4.out, HRE.out, by rw [List.length_append, HLL.out]; omega⟩
theorem does_any (w0 : World) (b rb : Nat) (B : Nat → Bool) (v : Value) (L : List (Int × Int)) (x : OpR) (w : World) (hj : Jt w0 b rb B v L w) (hr : Rel B L) (hl : L.length ≤ 90000) (hop : OpIs w0 x) (h60 : x.ln ≤ 60) : Calls Try.prog 11 #[.pointer (some ⟨b, 0, none⟩), .pointer (some ⟨rb, 0, none⟩), .agg #[.int .i64 x.act, .int .i64 x.x, .int .i64 x.y, .slice x.la x.ln x.lc]] w (DoP w0 b rb L) := by
  by_cases h0 : x.act = 0
  · exact does_take w0 b rb B v L x w hj hr hl h0
  by_cases h1 : x.act = 1
  · exact does_mark w0 b rb B v L x w hj hr hl h1
  by_cases h2 : x.act = 2
  · exact does_give w0 b rb B v L x w hj hr hl h2
  by_cases h3 : x.act = 3
  · exact does_all w0 b rb B v L x w hj hr hl h3 hop h60
  exact does_none w0 b rb B v L x w hj hr hl h0 h1 h2 h3
theorem setB_back {B : Nat → Bool} {i : Nat} (h : B i = true) : setB (setB B i false) i true = B := by
  funext q
  by_cases e : q = i
  · subst e; rw [setB_at, h]
  · rw [setB_ne e, setB_ne e]
theorem Rel.tail {B : Nat → Bool} {L : List (Int × Int)} {x : Int × Int} (h : Rel B (x :: L)) : Rel (setB B (idx x) false) L := by
  have hn := List.nodup_cons.1 h.nodup
  have hx := h.ok x List.mem_cons_self
  refine ⟨fun y hy => ?_, hn.2, fun y hy => h.ok y (List.mem_cons_of_mem _ hy)⟩
  by_cases e : y = x
  · subst e; rw [setB_at]; unfold memL; rw [decide_eq_false hn.1]
  · rw [setB_ne fun q => e (idx_inj hy hx q), h.iff y hy]; unfold memL; simp [e]
theorem Rel.cnt {L : List (Int × Int)} : ∀ {B : Nat → Bool} {d : Nat}, Rel B L → d < 12 → frN B d 48 + L.countP (fun x => x.1 == (d : Int)) = 48 := by
  induction L with
  | nil =>
    intro B d h hd
    have : frN B d 48 = 48 := frN_free fun i hi => by
      have := h.iff ((d : Int), (i : Int)) (okL_iff.2 (by simp only; omega))
      unfold memL at this
      simpa [idx] using this
    rw [this]; rfl
  | cons x L ih =>
    intro B d h hd
    have h1 := ih h.tail hd
    have hx := h.ok x List.mem_cons_self
    obtain ⟨e1, e2, e3⟩ := idx_of hx
    have hb : B (idx x) = true := by rw [h.iff x hx]; unfold memL; simp
    rw [List.countP_cons]
    by_cases e : x.1 = (d : Int)
    · have ed : x.1.toNat = d := by rw [e]; simp
      rw [ed] at e1
      have h2 := frN_set (B := setB B (idx x) false) (d := d) (m := x.2.toNat) (by rw [← e1]; exact setB_at _ _ _) e3
      rw [← e1, setB_back hb] at h2
      have : (x.1 == (d : Int)) = true := by simpa using e
      rw [this]
      simp only [if_true]
      omega
    · have : (x.1 == (d : Int)) = false := by simpa using e
      have h3 : x.1.toNat ≠ d := fun q => e (by have := okL_iff.1 hx; omega)
      rw [this, frN_congr (B := B) (C := setB B (idx x) false) fun i hi => (setB_ne (by omega)).symm]
      simpa using h1
theorem Rel.free {B : Nat → Bool} {L : List (Int × Int)} (h : Rel B L) (d : Int) : frC B d = rfC L d := by
  unfold frC rfC
  by_cases hd : okD d = true
  · rw [if_pos hd, if_pos hd]
    obtain ⟨h1, h2⟩ := okD_iff.1 hd
    have := h.cnt (d := d.toNat) (by omega)
    rw [show ((d.toNat : Nat) : Int) = d by omega] at this
    unfold cntD
    rw [List.take_length]
    omega
  · rw [if_neg hd, if_neg hd]
end Go.Proofs.Ythcpcdinjellcaa
