/- What layer 12's live calls, at values that are known. What layer 12's live answers: true. -/
import Derived.Test.YtaiafbihcfbglaaRpChoose
import Derived.Test.YtaiafbihcfbglaaRpBegins
import Derived.Test.YtaiafbihcfbglaaRpSmall
import Derived.Test.YtaiafbihcfbglaaRcLiveB
namespace Go.Proofs.Ytaiafbihcfbglaa
open Go.RowKit
set_option linter.unusedVariables false
def rB : Rc := ⟨1, 1, 0, 0, 0, [], ByteArray.empty, 0, 0, 0, ByteArray.empty, ⟨#[98]⟩, 0, 0⟩
theorem ck_B : ckR rB = 0 := ckR_ok ⟨by decide, by decide⟩ ((ckK_1 rfl).2 (one_key 98 (by decide) (by decide))) rfl
theorem fit_B : rB.fit := ⟨by decide, by decide, by decide, by decide, by decide, by decide⟩
theorem wB_size : (wR rB).size = 10 := by
  rw [wR_ok ck_B, sealS_size]
  show (sSJ ++ (numI 1 ++ (numI 1 ++ partB rB))).size + 4 = 10
  have hp : partB rB = textS ⟨#[98]⟩ := by unfold partB; rw [if_neg (by decide), if_pos (show rB.kind = 1 from rfl)]; rfl
  rw [hp, ByteArray.size_append, ByteArray.size_append, ByteArray.size_append, sSJ_size, numI_len1 (by omega) (by omega), textS_len (s := ⟨#[98]⟩) (by decide)]
  rfl
/-- two texts, the one the record of the first place, the other that of the second -/
structure AB (SA SB : ByteArray) : Prop where
  a0 : okF 0 SA
  b1 : okF 1 SB
  ra : rdC SA = rA
  rb : rdC SB = rB
  wa : wR rA = SA
  wb : wR rB = SB
  za : SA.size = 10
  zb : SB.size = 10
theorem ab_is : AB (wR rA) (wR rB) := by
  obtain ⟨e1, e2⟩ := read_back ck_A
  obtain ⟨f1, f2⟩ := read_back ck_B
  exact ⟨⟨e1, by rw [e2]; rfl⟩, ⟨f1, by rw [f2]; rfl⟩, e2, f2, rfl, rfl, wA_size, wB_size⟩
theorem AB.a_no {SA SB : ByteArray} (h : AB SA SB) {k : Nat} (hk : k ≠ 0) : ¬ okF k SA := fun q => by
  have h1 := q.2
  rw [h.ra] at h1
  have : (0 : Int) = (k : Int) := h1
  omega
theorem AB.b_no {SA SB : ByteArray} (h : AB SA SB) {k : Nat} (hk : k ≠ 1) : ¬ okF k SB := fun q => by
  have h1 := q.2
  rw [h.rb] at h1
  have : (1 : Int) = (k : Int) := h1
  omega
theorem AB.p3 {SA SB : ByteArray} (h : AB SA SB) : prefR [SA, SB, SA] = [rA, rB] := by
  unfold prefR
  simp [prefF, h.a0, h.b1, h.a_no (k := 2) (by omega), h.ra, h.rb]
theorem AB.p2 {SA SB : ByteArray} (h : AB SA SB) : prefR [SA, SB] = [rA, rB] := by
  unfold prefR
  simp [prefF, h.a0, h.b1, h.ra, h.rb]
theorem AB.p1 {SA SB : ByteArray} (h : AB SA SB) : prefR [SA] = [rA] := by
  unfold prefR
  simp [prefF, h.a0, h.ra]
theorem AB.p0 {SA SB : ByteArray} (h : AB SA SB) : prefR [SB] = [] := by
  unfold prefR
  simp [prefF, h.b_no (k := 0) (by omega)]
theorem AB.cho {SA SB : ByteArray} (h : AB SA SB) {a1 a2 a3 a4 : Option Addr} {c1 c2 c3 c4 : Nat} : choR (lgS [⟨a1, c1, [SB]⟩, ⟨a2, c2, [SA]⟩, ⟨a3, c3, [SA, SB]⟩, ⟨a4, c4, [SA, SB]⟩]) 4 = ([rA, rB], 2) := by
  generalize hgs : [(⟨a1, c1, [SB]⟩ : LG), ⟨a2, c2, [SA]⟩, ⟨a3, c3, [SA, SB]⟩, ⟨a4, c4, [SA, SB]⟩] = gs
  have g0 : gs[0]? = some ⟨a1, c1, [SB]⟩ := by rw [← hgs]; rfl
  have g1 : gs[1]? = some ⟨a2, c2, [SA]⟩ := by rw [← hgs]; rfl
  have g2 : gs[2]? = some ⟨a3, c3, [SA, SB]⟩ := by rw [← hgs]; rfl
  have g3 : gs[3]? = some ⟨a4, c4, [SA, SB]⟩ := by rw [← hgs]; rfl
  have e1 : choR (lgS gs) 1 = ([], 0) := by rw [choR_yes g0 (.inl (by show (-1 : Int) < 0; decide)), h.p0]; rfl
  have e2 : choR (lgS gs) 2 = ([rA], 1) := by rw [choR_yes g1 (.inr (by rw [e1, h.p1]; exact Nat.zero_lt_one)), h.p1]; rfl
  have e3 : choR (lgS gs) 3 = ([rA, rB], 2) := by rw [choR_yes g2 (.inr (by rw [e2, h.p2]; exact Nat.lt_succ_self 1)), h.p2]; rfl
  rw [choR_no g3 (by rw [e3]; decide) (by rw [e3, h.p2]; exact Nat.lt_irrefl 2), e3]
theorem two_of {l : List RT} {x y : Rc} (h : l.map Prod.fst = [x, y]) : ∃ a b : RT, l = [a, b] ∧ a.1 = x ∧ b.1 = y := by
  rcases l with _ | ⟨a, _ | ⟨b, _ | ⟨c, t⟩⟩⟩
  · cases h
  · cases h
  · simp only [List.map_cons, List.map_nil, List.cons.injEq, and_true] at h
    exact ⟨a, b, rfl, h.1, h.2⟩
  · cases h
theorem AB.mis1 {SA SB : ByteArray} (h : AB SA SB) {x y : RT} (hx : x.1 = rA) (hy : y.1 = rB) : misL [⟨#[120]⟩, SB] [x, y] 2 = [0] := by
  have m0 : misB [⟨#[120]⟩, SB] [x, y] 0 = true := by
    rw [mis_at (x := x) (s := ⟨#[120]⟩) rfl rfl, hx, h.wa]
    intro e
    have := congrArg ByteArray.size e
    rw [h.za] at this
    have h1 : (⟨#[120]⟩ : ByteArray).size = 1 := rfl
    omega
  have m1 : misB [⟨#[120]⟩, SB] [x, y] 1 = false := by
    cases hm : misB [⟨#[120]⟩, SB] [x, y] 1 with
    | false => rfl
    | true =>
      rw [mis_at (x := y) (s := SB) rfl rfl, hy, h.wb] at hm
      exact absurd rfl hm
  rw [misL_succ, misL_succ, if_pos m0, if_neg (by rw [m1]; decide)]
  rfl
theorem mis2 {x y : RT} : misL [] [x, y] 2 = [0, 1] := by
  rw [misL_succ, misL_succ, if_pos (mis_out (x := y) rfl (Nat.zero_le _)), if_pos (mis_out (x := x) rfl (Nat.zero_le _))]
  rfl
theorem beg1 (x y : RT) : begB [x] [x, y] = true := by simp [begB, samL]
theorem beg2 (x y : RT) : begB [x, y] [x] = false := by simp [begB]
theorem strs_new (w : World) (cs : Array Value) (l : List ByteArray) (h : ∀ (i : Nat) (s : ByteArray), l[i]? = some s → cs[i]? = some (.string s)) : StrsAt (w.alloc (.cells cs 9)) (some ⟨w.heap.size, 0, none⟩) l := by
  refine .inr ⟨w.heap.size, 0, rfl, by rw [World.size_alloc]; omega, fun i s hs => ?_⟩
  rw [cell_of_block (heap_alloc_new w _), Nat.zero_add]
  exact h i s hs
theorem fitA_of {x : RT} (h : x.1 = rA) : x.1.fit := by rw [h]; exact fit_A
theorem fitB_of {x : RT} (h : x.1 = rB) : x.1.fit := by rw [h]; exact fit_B
theorem lsA_of {x : RT} (h : x.1 = rA) : x.1.ls.length ≤ 1000000 := by rw [h]; decide
theorem lsB_of {x : RT} (h : x.1 = rB) : x.1.ls.length ≤ 1000000 := by rw [h]; decide
/-- a slice of four logs, as it is laid -/
def lgW (w : World) (SA SB : ByteArray) : World := (((((w.alloc (.cells #[.string SB] 9)).alloc (.cells #[.string SA] 9)).alloc (.cells #[.string SA, .string SB] 9)).alloc (.cells #[.string SA, .string SB] 9)).alloc (.cells #[.slice (some ⟨w.heap.size, 0, none⟩) 1 1, .slice (some ⟨w.heap.size + 1, 0, none⟩) 1 1, .slice (some ⟨w.heap.size + 1 + 1, 0, none⟩) 2 2, .slice (some ⟨w.heap.size + 1 + 1 + 1, 0, none⟩) 2 2] 22))
theorem lgW_is (w : World) (SA SB : ByteArray) : lgW w SA SB = (((((w.alloc (.cells #[.string SB] 9)).alloc (.cells #[.string SA] 9)).alloc (.cells #[.string SA, .string SB] 9)).alloc (.cells #[.string SA, .string SB] 9)).alloc (.cells #[.slice (some ⟨w.heap.size, 0, none⟩) 1 1, .slice (some ⟨w.heap.size + 1, 0, none⟩) 1 1, .slice (some ⟨w.heap.size + 1 + 1, 0, none⟩) 2 2, .slice (some ⟨w.heap.size + 1 + 1 + 1, 0, none⟩) 2 2] 22)) := rfl
theorem lgW_below (w : World) (SA SB : ByteArray) : Below w.heap.size w (lgW w SA SB) := by
  unfold lgW
  exact (((((Below.refl _ _).alloc (Nat.le_refl _) _).alloc (by simp only [World.size_alloc]; omega) _).alloc (by simp only [World.size_alloc]; omega) _).alloc (by simp only [World.size_alloc]; omega) _).alloc (by simp only [World.size_alloc]; omega) _
theorem strs_new1 (w : World) (A : ByteArray) : StrsAt (w.alloc (.cells #[.string A] 9)) (some ⟨w.heap.size, 0, none⟩) [A] := strs_new w _ _ fun i s hs => by
  match i, hs with
  | 0, hs => simpa using hs
theorem strs_new2 (w : World) (A B : ByteArray) : StrsAt (w.alloc (.cells #[.string A, .string B] 9)) (some ⟨w.heap.size, 0, none⟩) [A, B] := strs_new w _ _ fun i s hs => by
  match i, hs with
  | 0, hs => simpa using hs
  | 1, hs => simpa using hs
theorem strs_keep {w : World} {a : Option Addr} {l : List ByteArray} (h : StrsAt w a l) (o : Obj) : StrsAt (w.alloc o) a l := h.below ((Below.refl _ _).alloc (Nat.le_refl _) _)
theorem lgW_logs (w : World) (SA SB : ByteArray) : LogsAt (lgW w SA SB) (some ⟨w.heap.size + 1 + 1 + 1 + 1, 0, none⟩) [⟨some ⟨w.heap.size, 0, none⟩, 1, [SB]⟩, ⟨some ⟨w.heap.size + 1, 0, none⟩, 1, [SA]⟩, ⟨some ⟨w.heap.size + 1 + 1, 0, none⟩, 2, [SA, SB]⟩, ⟨some ⟨w.heap.size + 1 + 1 + 1, 0, none⟩, 2, [SA, SB]⟩] := by
  unfold lgW
  refine ⟨.inr ⟨w.heap.size + 1 + 1 + 1 + 1, 0, rfl, by simp only [World.size_alloc]; omega, fun i g hg => ?_⟩, fun g hg => ?_⟩
  · have hb := heap_alloc_new ((((w.alloc (.cells #[.string SB] 9)).alloc (.cells #[.string SA] 9)).alloc (.cells #[.string SA, .string SB] 9)).alloc (.cells #[.string SA, .string SB] 9)) (.cells #[.slice (some ⟨w.heap.size, 0, none⟩) 1 1, .slice (some ⟨w.heap.size + 1, 0, none⟩) 1 1, .slice (some ⟨w.heap.size + 1 + 1, 0, none⟩) 2 2, .slice (some ⟨w.heap.size + 1 + 1 + 1, 0, none⟩) 2 2] 22)
    simp only [World.size_alloc] at hb
    rw [cell_of_block hb, Nat.zero_add]
    match i, hg with
    | 0, hg => simp at hg; subst hg; rfl
    | 1, hg => simp at hg; subst hg; rfl
    | 2, hg => simp at hg; subst hg; rfl
    | 3, hg => simp at hg; subst hg; rfl
  · simp only [List.mem_cons, List.not_mem_nil, or_false] at hg
    rcases hg with rfl | rfl | rfl | rfl
    · exact strs_keep (strs_keep (strs_keep (strs_keep (strs_new1 w SB) _) _) _) _
    · have q := strs_new1 (w.alloc (.cells #[.string SB] 9)) SA
      simp only [World.size_alloc] at q
      exact strs_keep (strs_keep (strs_keep q _) _) _
    · have q := strs_new2 ((w.alloc (.cells #[.string SB] 9)).alloc (.cells #[.string SA] 9)) SA SB
      simp only [World.size_alloc] at q
      exact strs_keep (strs_keep q _) _
    · have q := strs_new2 (((w.alloc (.cells #[.string SB] 9)).alloc (.cells #[.string SA] 9)).alloc (.cells #[.string SA, .string SB] 9)) SA SB
      simp only [World.size_alloc] at q
      exact strs_keep q _
theorem ints_new (w : World) (cs : Array Value) (l : List Int) (h : ∀ (i : Nat) (s : Int), l[i]? = some s → cs[i]? = some (.int .i64 s)) : IntsAt (w.alloc (.cells cs 3)) (some ⟨w.heap.size, 0, none⟩) l := by
  refine .inr ⟨w.heap.size, 0, rfl, by rw [World.size_alloc]; omega, fun i s hs => ?_⟩
  rw [cell_of_block (heap_alloc_new w _), Nat.zero_add]
  exact h i s hs
theorem ints_new1 (w : World) (x : Int) : IntsAt (w.alloc (.cells #[.int .i64 x] 3)) (some ⟨w.heap.size, 0, none⟩) [x] := ints_new w _ _ fun i s hs => by
  match i, hs with
  | 0, hs => simpa using hs
theorem ints_new2 (w : World) (x y : Int) : IntsAt (w.alloc (.cells #[.int .i64 x, .int .i64 y] 3)) (some ⟨w.heap.size, 0, none⟩) [x, y] := ints_new w _ _ fun i s hs => by
  match i, hs with
  | 0, hs => simpa using hs
  | 1, hs => simpa using hs
theorem lv_H1 : ∀ w, Calls Try.prog 24 #[.agg #[.int .i64 0, .int .i64 1, .int .i64 0, .int .i64 0, .int .i64 0, .slice none 0 0, .string { data := #[] }, .int .i64 0, .int .i64 0, .int .i64 0, .string { data := #[] }, .string { data := #[97] }, .int .i64 0, .int .i64 0]] w fun e w' => e = .returned (.tuple #[.string (wR rA), .int .i64 0]) ∧ Below w.heap.size w w' := by
  intro w
  have q := rwrite_any rA none 0 w (.inl rfl) fit_A
  rw [ck_A] at q
  exact q
theorem lv_H2 : ∀ w, Calls Try.prog 24 #[.agg #[.int .i64 1, .int .i64 1, .int .i64 0, .int .i64 0, .int .i64 0, .slice none 0 0, .string { data := #[] }, .int .i64 0, .int .i64 0, .int .i64 0, .string { data := #[] }, .string { data := #[98] }, .int .i64 0, .int .i64 0]] w fun e w' => e = .returned (.tuple #[.string (wR rB), .int .i64 0]) ∧ Below w.heap.size w w' := by
  intro w
  have q := rwrite_any rB none 0 w (.inl rfl) fit_B
  rw [ck_B] at q
  exact q
theorem lv_H3 {SA SB : ByteArray} (HAB : Hid (AB SA SB)) : ∀ (w : World) (a : Option Addr) (c : Nat), StrsAt w a [SA, SB, SA] → Calls Try.prog 12 #[.slice a 3 c] w fun e w' => ∃ x y a' c', e = .returned (.slice a' 2 c') ∧ 2 ≤ c' ∧ (x.1 = rA ∧ y.1 = rB) ∧ RecsAt w' a' [x, y] ∧ Below w.heap.size w w' := by
  intro w a c hS
  refine (prefix_any a 3 c [SA, SB, SA] w rfl (by omega) hS (fun s hs => ?_)).mono ?_
  · have := HAB.out.za; have := HAB.out.zb
    simp at hs
    rcases hs with rfl | rfl | rfl <;> omega
  · rintro e w' ⟨l, a', c', rfl, hc, hm, hr, hb⟩
    rw [HAB.out.p3] at hm
    obtain ⟨x, y, rfl, hx, hy⟩ := two_of hm
    exact ⟨x, y, a', c', rfl, hc, ⟨hx, hy⟩, hr, hb⟩
theorem lv_H4 {SA SB : ByteArray} (HAB : Hid (AB SA SB)) : ∀ (w : World) (a a1 a2 a3 a4 : Option Addr) (c c1 c2 c3 c4 : Nat), LogsAt w a [⟨a1, c1, [SB]⟩, ⟨a2, c2, [SA]⟩, ⟨a3, c3, [SA, SB]⟩, ⟨a4, c4, [SA, SB]⟩] → Calls Try.prog 22 #[.slice a 4 c] w fun e w' => ∃ a' c', e = .returned (.tuple #[.slice a' 2 c', .int .i64 2]) ∧ Below w.heap.size w w' := by
  intro w a a1 a2 a3 a4 c c1 c2 c3 c4 hS
  refine (choose_any a c 4 _ w rfl (by omega) hS (fun g hg => ?_)).mono ?_
  · have := HAB.out.za; have := HAB.out.zb
    simp at hg
    rcases hg with rfl | rfl | rfl | rfl <;> refine ⟨by simp, fun s hs => ?_⟩ <;> simp at hs
    · rw [hs]; omega
    · rw [hs]; omega
    · rcases hs with rfl | rfl <;> omega
    · rcases hs with rfl | rfl <;> omega
  · rintro e w' ⟨x, y, rfl, l, a', c', rfl, hc, rfl, hm, hr, hb⟩
    have hq : choR (lgS [⟨a1, c1, [SB]⟩, ⟨a2, c2, [SA]⟩, ⟨a3, c3, [SA, SB]⟩, ⟨a4, c4, [SA, SB]⟩]) 4 = ([rA, rB], 2) := HAB.out.cho
    have hm2 : l.map Prod.fst = [rA, rB] := hm.trans (congrArg Prod.fst hq)
    obtain ⟨u, v, rfl, _, _⟩ := two_of hm2
    refine ⟨a', c', ?_, hb⟩
    show Ending.returned (.tuple #[.slice a' 2 c', .int .i64 (choR (lgS [⟨a1, c1, [SB]⟩, ⟨a2, c2, [SA]⟩, ⟨a3, c3, [SA, SB]⟩, ⟨a4, c4, [SA, SB]⟩]) 4).2]) = _
    rw [hq]
theorem lv_H5 {SA SB : ByteArray} (HAB : Hid (AB SA SB)) : ∀ (w : World), Calls Try.prog 22 #[.slice none 0 0] w fun e w' => ∃ a' c', e = .returned (.tuple #[.slice a' 0 c', .int .i64 (-1)]) ∧ Below w.heap.size w w' := by
  intro w
  refine (choose_any none 0 0 [] w rfl (by omega) ⟨.inl rfl, fun g hg => by simp at hg⟩ (fun g hg => by simp at hg)).mono ?_
  rintro e w' ⟨x, y, rfl, l, a', c', rfl, hc, rfl, hm, hr, hb⟩
  have hl : l = [] := by
    have : l.map Prod.fst = [] := hm
    simpa using this
  subst hl
  exact ⟨a', c', rfl, hb⟩
theorem lv_H6 {SA SB : ByteArray} (HAB : Hid (AB SA SB)) : ∀ (w : World) (x y : RT) (a : Option Addr) (c : Nat), RecsAt w a [x, y] → 2 ≤ c → (x.1 = rA ∧ y.1 = rB) → Calls Try.prog 16 #[.slice a 1 c, .slice a 2 c] w fun e w' => e = .returned (.bool true) ∧ Below w.heap.size w w' := by
  intro w x y a c hr hc hxy
  have q := pbegins_any a a c c 1 2 [x] [x, y] w rfl rfl hc (by omega) (by omega) (hr.take 1) hr (fun z hz => by
    simp at hz
    rcases hz with rfl | rfl
    · exact lsA_of hxy.1
    · exact lsB_of hxy.2)
  rw [beg1] at q
  exact q
theorem lv_H7 {SA SB : ByteArray} (HAB : Hid (AB SA SB)) : ∀ (w : World) (x y : RT) (a : Option Addr) (c : Nat), RecsAt w a [x, y] → 2 ≤ c → (x.1 = rA ∧ y.1 = rB) → Calls Try.prog 16 #[.slice a 2 c, .slice a 1 c] w fun e w' => e = .returned (.bool false) ∧ Below w.heap.size w w' := by
  intro w x y a c hr hc hxy
  have q := pbegins_any a a c c 2 1 [x, y] [x] w rfl rfl (by omega) (by omega) (by omega) hr (hr.take 1) (fun z hz => by
    simp at hz
    rcases hz with (rfl | rfl) | rfl
    · exact lsA_of hxy.1
    · exact lsB_of hxy.2
    · exact lsA_of hxy.1)
  rw [beg2] at q
  exact q
theorem lv_H8 {SA SB : ByteArray} (HAB : Hid (AB SA SB)) : ∀ (w : World) (x y : RT) (a b : Option Addr) (c d : Nat), StrsAt w b [⟨#[120]⟩, SB] → RecsAt w a [x, y] → (x.1 = rA ∧ y.1 = rB) → Calls Try.prog 20 #[.slice b 2 d, .slice a 2 c] w fun e w' => ∃ a' c', e = .returned (.slice a' 1 c') ∧ IntsAt w' a' [0] ∧ Below w.heap.size w w' := by
  intro w x y a b c d hS hr hxy
  have q := pmiss_any b a d c 2 2 [⟨#[120]⟩, SB] [x, y] w rfl rfl (by omega) (by omega) hS hr (fun z hz => by
    simp at hz
    rcases hz with rfl | rfl
    · exact fitA_of hxy.1
    · exact fitB_of hxy.2)
  rw [HAB.out.mis1 hxy.1 hxy.2] at q
  exact q.mono fun e w' ⟨a', c', h1, _, h3, h4, _⟩ => ⟨a', c', h1, h3, h4⟩
theorem lv_H9 {SA SB : ByteArray} (HAB : Hid (AB SA SB)) : ∀ (w : World) (x y : RT) (a : Option Addr) (c : Nat), RecsAt w a [x, y] → (x.1 = rA ∧ y.1 = rB) → Calls Try.prog 20 #[.slice none 0 0, .slice a 2 c] w fun e w' => ∃ a' c', e = .returned (.slice a' 2 c') ∧ IntsAt w' a' [0, 1] ∧ Below w.heap.size w w' := by
  intro w x y a c hr hxy
  have q := pmiss_any none a 0 c 0 2 [] [x, y] w rfl rfl (by omega) (by omega) (.inl rfl) hr (fun z hz => by
    simp at hz
    rcases hz with rfl | rfl
    · exact fitA_of hxy.1
    · exact fitB_of hxy.2)
  rw [mis2] at q
  exact q.mono fun e w' ⟨a', c', h1, _, h3, h4, _⟩ => ⟨a', c', h1, h3, h4⟩
end Go.Proofs.Ytaiafbihcfbglaa
namespace Go.Proofs.Ytaiafbihcfbglaa
open Go.RowKit
set_option linter.unusedVariables false
set_option maxRecDepth 100000 in
set_option maxHeartbeats 16000000 in
theorem live12_any (w : World) : Calls Try.prog 10 #[] w fun e w' => e = .returned (.bool true) ∧ Below w.heap.size w w' := by
  have H1 := hide lv_H1
  have H2 := hide lv_H2
  have HAB := hide ab_is
  generalize wR rA = SA at *
  generalize wR rB = SB at *
  have H3 := hide (lv_H3 HAB)
  have H4 := hide (lv_H4 HAB)
  have H5 := hide (lv_H5 HAB)
  have H6 := hide (lv_H6 HAB)
  have H7 := hide (lv_H7 HAB)
  have H8 := hide (lv_H8 HAB)
  have H9 := hide (lv_H9 HAB)
  clear HAB
  generalize rA = RA at *
  generalize rB = RB at *
  go_enter Try.func10, Try.ntmps10
  go_wp2_with fail
  refine (H1.out w).mono ?_
  rintro e w1 ⟨rfl, hb⟩
  have B1 := hide hb
  clear hb
  go_wp2_with fail
  refine (H2.out w1).mono ?_
  rintro e w2 ⟨rfl, hb⟩
  have B2 := hide (B1.out.trans (hb.mono B1.out.size))
  clear hb B1
  have S3 := hide (strs_new w2 #[.string SA, .string SB, .string SA] [SA, SB, SA] (fun i s hs => by match i, hs with | 0, hs => simpa using hs | 1, hs => simpa using hs | 2, hs => simpa using hs))
  have hal : Below w2.heap.size w2 (w2.alloc (.cells #[.string SA, .string SB, .string SA] 9)) := (Below.refl _ _).alloc (Nat.le_refl _) _
  have B3 := hide (B2.out.trans (hal.mono B2.out.size))
  clear hal B2
  go_wp2_with fail
  refine (H3.out _ _ _ S3.out).mono ?_
  rintro e w4 ⟨x, y, la, lc, rfl, hlc, hxy, hrec, hb⟩
  have B4 := hide (B3.out.trans (hb.mono B3.out.size))
  have HXY := hide hxy
  have HREC := hide hrec
  clear hb B3 S3 hxy hrec
  go_wp2_with fail
  rw [← lgW_is]
  have hal := lgW_below w4 SA SB
  have S5 := hide (lgW_logs w4 SA SB)
  have B5 := hide (B4.out.trans (hal.mono B4.out.size))
  have R5 := hide (HREC.out.below hal)
  clear hal B4 HREC
  generalize lgW w4 SA SB = w5 at *
  refine (H4.out w5 _ _ _ _ _ _ _ _ _ _ S5.out).mono ?_
  rintro e w6 ⟨ma, mc, rfl, hb⟩
  have B6 := hide (B5.out.trans (hb.mono B5.out.size))
  have R6 := hide (R5.out.below hb)
  clear hb B5 S5 R5
  generalize w4.heap.size = s4 at *
  go_wp2_with fail
  refine (H5.out w6).mono ?_
  rintro e w7 ⟨na, nc, rfl, hb⟩
  have B7 := hide (B6.out.trans (hb.mono B6.out.size))
  have R7 := hide (R6.out.below hb)
  clear hb B6 R6
  have h2c : (1 : Int) ≤ (lc : Int) := by omega
  have h2d : ¬ (lc : Int) < 1 := by omega
  go_wp2_with fail
  refine (H6.out w7 x y la lc R7.out (by omega) HXY.out).mono ?_
  rintro e w8 ⟨rfl, hb⟩
  have B8 := hide (B7.out.trans (hb.mono B7.out.size))
  have R8 := hide (R7.out.below hb)
  clear hb B7 R7
  go_wp2_with fail
  refine (H7.out w8 x y la lc R8.out (by omega) HXY.out).mono ?_
  rintro e w9 ⟨rfl, hb⟩
  have B9 := hide (B8.out.trans (hb.mono B8.out.size))
  have R9 := hide (R8.out.below hb)
  clear hb B8 R8
  go_wp2_with fail
  have S9 := hide (strs_new2 w9 ⟨#[120]⟩ SB)
  have hal : Below w9.heap.size w9 (w9.alloc (.cells #[.string ⟨#[120]⟩, .string SB] 9)) := (Below.refl _ _).alloc (Nat.le_refl _) _
  have B10 := hide (B9.out.trans (hal.mono B9.out.size))
  have R10 := hide (R9.out.below hal)
  clear hal B9 R9
  refine (H8.out _ x y la _ lc _ S9.out R10.out HXY.out).mono ?_
  rintro e w11 ⟨ia, ic, rfl, hi, hb⟩
  have I11 := hide hi
  have B11 := hide (B10.out.trans (hb.mono B10.out.size))
  have R11 := hide (R10.out.below hb)
  clear hi hb B10 R10 S9
  go_wp2_with fail
  have J11 := hide (ints_new1 w11 0)
  have hal : Below w11.heap.size w11 (w11.alloc (.cells #[.int .i64 0] 3)) := (Below.refl _ _).alloc (Nat.le_refl _) _
  have I12 := hide (I11.out.below hal)
  have B12 := hide (B11.out.trans (hal.mono B11.out.size))
  have R12 := hide (R11.out.below hal)
  clear hal B11 R11 I11
  refine (ints_same ia _ ic _ 1 [0] _ rfl (by omega) I12.out J11.out).mono ?_
  rintro e w13 ⟨rfl, hb⟩
  have B13 := hide (B12.out.trans (hb.mono B12.out.size))
  have R13 := hide (R12.out.below hb)
  clear hb B12 R12 I12 J11
  go_wp2_with fail
  refine (H9.out w13 x y la lc R13.out HXY.out).mono ?_
  rintro e w14 ⟨ja, jc, rfl, hi, hb⟩
  have I14 := hide hi
  have B14 := hide (B13.out.trans (hb.mono B13.out.size))
  have R14 := hide (R13.out.below hb)
  clear hi hb B13 R13
  go_wp2_with fail
  have J14 := hide (ints_new2 w14 0 1)
  have hal : Below w14.heap.size w14 (w14.alloc (.cells #[.int .i64 0, .int .i64 1] 3)) := (Below.refl _ _).alloc (Nat.le_refl _) _
  have I15 := hide (I14.out.below hal)
  have B15 := hide (B14.out.trans (hal.mono B14.out.size))
  have R15 := hide (R14.out.below hal)
  clear hal B14 R14 I14
  refine (ints_same ja _ jc _ 2 [0, 1] _ rfl (by omega) I15.out J14.out).mono ?_
  rintro e w16 ⟨rfl, hb⟩
  have B16 := hide (B15.out.trans (hb.mono B15.out.size))
  have R16 := hide (R15.out.below hb)
  clear hb B15 R15 I15 J14
  go_wp2_with fail
  try go_ret
  exact ⟨rfl, B16.out⟩
end Go.Proofs.Ytaiafbihcfbglaa
