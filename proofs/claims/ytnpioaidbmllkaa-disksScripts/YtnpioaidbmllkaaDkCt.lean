/- The disks' calls, told by what the disks have. -/
import Derived.Test.YtnpioaidbmllkaaDkSpoil
namespace Go.Proofs.Ytnpioaidbmllkaa
open Go.RowKit
set_option linter.unusedVariables false
/-- what a disk has: whether it is lost, its sectors, what waits -/
structure Ct where
  lost : Bool
  sec : Nat → ByteArray
  ws : List (Nat × ByteArray)
def cof (x : Dk) : Ct := ⟨x.lost, x.sec, x.ws⟩
def Cont (D : Nat → Dk) (C : Nat → Ct) : Prop := ∀ d, d < 12 → cof (D d) = C d
def updC (C : Nat → Ct) (d : Nat) (x : Ct) : Nat → Ct := fun e => if e = d then x else C e
theorem Cont.upd {D : Nat → Dk} {C : Nat → Ct} (h : Cont D C) (d : Nat) (x : Dk) : Cont (upd D d x) (updC C d (cof x)) := fun e he => by
  unfold updC
  by_cases c : e = d
  · subst c; rw [upd_at, if_pos rfl]
  · rw [upd_ne c, if_neg c]; exact h e he
theorem Cont.lost {D : Nat → Dk} {C : Nat → Ct} (h : Cont D C) {d : Nat} (hd : d < 12) : (D d).lost = (C d).lost := congrArg Ct.lost (h d hd)
theorem Cont.sec {D : Nat → Dk} {C : Nat → Ct} (h : Cont D C) {d : Nat} (hd : d < 12) : (D d).sec = (C d).sec := congrArg Ct.sec (h d hd)
theorem Cont.ws {D : Nat → Dk} {C : Nat → Ct} (h : Cont D C) {d : Nat} (hd : d < 12) : (D d).ws = (C d).ws := congrArg Ct.ws (h d hd)
def eLiveC (C : Nat → Ct) (d : Int) : Nat := if d < 0 ∨ 11 < d then 1 else if (C d.toNat).lost then 6 else 0
def eHaveC (C : Nat → Ct) (d n : Int) : Nat := if eLiveC C d ≠ 0 then eLiveC C d else if n < 0 ∨ 111 < n then 1 else 0
def eTakeC (C : Nat → Ct) (d n : Int) (s : ByteArray) : Nat := if eHaveC C d n ≠ 0 then eHaveC C d n else if 200 < s.size then 12 else 0
theorem Cont.eLive {D : Nat → Dk} {C : Nat → Ct} (h : Cont D C) (d : Int) : eLive D d = eLiveC C d := by
  unfold Go.Proofs.Ytnpioaidbmllkaa.eLive eLiveC
  by_cases c : d < 0 ∨ 11 < d
  · rw [if_pos c, if_pos c]
  · rw [if_neg c, if_neg c, h.lost (by omega)]
theorem Cont.eHave {D : Nat → Dk} {C : Nat → Ct} (h : Cont D C) (d n : Int) : eHave D d n = eHaveC C d n := by unfold Go.Proofs.Ytnpioaidbmllkaa.eHave eHaveC; rw [h.eLive]
theorem Cont.eTake {D : Nat → Dk} {C : Nat → Ct} (h : Cont D C) (d n : Int) (s : ByteArray) : eTake D d n s = eTakeC C d n s := by unfold Go.Proofs.Ytnpioaidbmllkaa.eTake eTakeC; rw [h.eHave]
theorem live_in {C : Nat → Ct} {d : Int} (h : eLiveC C d = 0) : 0 ≤ d ∧ d ≤ 11 ∧ (C d.toNat).lost = false := by
  unfold eLiveC at h
  by_cases c : d < 0 ∨ 11 < d
  · rw [if_pos c] at h; cases h
  · rw [if_neg c] at h
    refine ⟨by omega, by omega, ?_⟩
    cases hl : (C d.toNat).lost
    · rfl
    · rw [hl, if_pos rfl] at h; cases h
theorem have_in {C : Nat → Ct} {d n : Int} (h : eHaveC C d n = 0) : eLiveC C d = 0 ∧ 0 ≤ n ∧ n ≤ 111 := by
  unfold eHaveC at h
  by_cases c : eLiveC C d = 0
  · rw [c, if_neg (by decide)] at h
    by_cases e : n < 0 ∨ 111 < n
    · rw [if_pos e] at h; cases h
    · exact ⟨c, by omega, by omega⟩
  · rw [if_pos c] at h; exact absurd h c
theorem take_in {C : Nat → Ct} {d n : Int} {s : ByteArray} (h : eTakeC C d n s = 0) : eHaveC C d n = 0 ∧ s.size ≤ 200 := by
  unfold eTakeC at h
  by_cases c : eHaveC C d n = 0
  · rw [c, if_neg (by decide)] at h
    by_cases e : 200 < s.size
    · rw [if_pos e] at h; cases h
    · exact ⟨c, by omega⟩
  · rw [if_pos c] at h; exact absurd h c
/-- what each call does -/
def wrC (C : Nat → Ct) (d n : Int) (s : ByteArray) : Nat → Ct := if eTakeC C d n s = 0 then updC C d.toNat ⟨(C d.toNat).lost, (C d.toNat).sec, (C d.toNat).ws ++ [(n.toNat, s)]⟩ else C
def flC (C : Nat → Ct) (d : Int) : Nat → Ct := if eLiveC C d = 0 then updC C d.toNat ⟨(C d.toNat).lost, secW (C d.toNat).sec (C d.toNat).ws, []⟩ else C
def spC (C : Nat → Ct) (d n : Int) (s : ByteArray) : Nat → Ct := if eTakeC C d n s = 0 then updC C d.toNat ⟨(C d.toNat).lost, fun m => if m = n.toNat then s else (C d.toNat).sec m, without n.toNat (C d.toNat).ws⟩ else C
def agC (C : Nat → Ct) (d : Int) (l : Bool) : Nat → Ct := if d < 0 ∨ 11 < d then C else updC C d.toNat ⟨l, fun _ => ByteArray.empty, []⟩
def plcC (C : Nat → Ct) : Nat → Nat
  | 0 => 0
  | e + 1 => plcC C e + (C e).ws.length
def crC (kl tl : List Bool) (C : Nat → Ct) : Nat → Ct := fun e => ⟨(C e).lost, secC kl tl (C e).sec (plcC C e) (C e).ws, []⟩
def rdC (C : Nat → Ct) (d n : Int) : ByteArray := if eHaveC C d n = 0 then secW (C d.toNat).sec (C d.toNat).ws n.toNat else ByteArray.empty
def wtC (C : Nat → Ct) (d : Int) : Nat := if eLiveC C d = 0 then (C d.toNat).ws.length else 0
theorem Cont.plc {D : Nat → Dk} {C : Nat → Ct} (h : Cont D C) : ∀ {e : Nat}, e ≤ 12 → plc D e = plcC C e
  | 0, _ => rfl
  | e + 1, he => by unfold Go.Proofs.Ytnpioaidbmllkaa.plc plcC; rw [h.plc (by omega), h.ws (by omega)]
/-- not much waits, and no great text -/
def Few (N : Nat) (C : Nat → Ct) : Prop := ∀ d, d < 12 → (C d).ws.length ≤ N ∧ ∀ x ∈ (C d).ws, x.2.size ≤ 200
theorem plcC_few {N : Nat} {C : Nat → Ct} (h : Few N C) : ∀ {e : Nat}, e ≤ 12 → plcC C e ≤ e * N
  | 0, _ => by rw [Nat.zero_mul]; exact Nat.le_refl _
  | e + 1, he => by unfold plcC; have := plcC_few h (e := e) (by omega); have := (h e (by omega)).1; rw [Nat.succ_mul]; omega
theorem Few.upd {N M : Nat} {C : Nat → Ct} (h : Few N C) (hM : N ≤ M) (d : Nat) (x : Ct) (hx : x.ws.length ≤ M ∧ ∀ y ∈ x.ws, y.2.size ≤ 200) : Few M (updC C d x) := fun e he => by
  unfold updC
  by_cases c : e = d
  · rw [if_pos c]; exact hx
  · rw [if_neg c]; exact ⟨Nat.le_trans (h e he).1 hM, (h e he).2⟩
theorem Few.mono {N M : Nat} {C : Nat → Ct} (h : Few N C) (hM : N ≤ M) : Few M C := fun e he => ⟨Nat.le_trans (h e he).1 hM, (h e he).2⟩
theorem Few.wr {N : Nat} {C : Nat → Ct} (h : Few N C) (d n : Int) (s : ByteArray) : Few (N + 1) (wrC C d n s) := by
  unfold wrC
  split
  · next hz =>
    obtain ⟨h1, h2⟩ := take_in hz
    obtain ⟨h3, _, _⟩ := have_in h1
    obtain ⟨h4, h5, _⟩ := live_in h3
    obtain ⟨q1, q2⟩ := h d.toNat (by omega)
    refine h.upd (Nat.le_succ _) _ _ ⟨by simp only [List.length_append, List.length_cons, List.length_nil]; omega, fun y hy => ?_⟩
    rcases List.mem_append.1 hy with hy | hy
    · exact q2 y hy
    · rw [List.mem_singleton.1 hy]; exact h2
  · exact h.mono (Nat.le_succ _)
theorem Few.fl {N : Nat} {C : Nat → Ct} (h : Few N C) (d : Int) : Few N (flC C d) := by
  unfold flC
  split
  · exact h.upd (Nat.le_refl _) _ _ ⟨Nat.zero_le _, fun y hy => by cases hy⟩
  · exact h
theorem Few.sp {N : Nat} {C : Nat → Ct} (h : Few N C) (d n : Int) (s : ByteArray) : Few N (spC C d n s) := by
  unfold spC
  split
  · next hz =>
    obtain ⟨h1, h2⟩ := take_in hz
    obtain ⟨h3, _, _⟩ := have_in h1
    obtain ⟨h4, h5, _⟩ := live_in h3
    obtain ⟨q1, q2⟩ := h d.toNat (by omega)
    exact h.upd (Nat.le_refl _) _ _ ⟨Nat.le_trans (List.length_filter_le _ _) q1, fun y hy => q2 y (List.mem_filter.1 hy).1⟩
  · exact h
theorem Few.ag {N : Nat} {C : Nat → Ct} (h : Few N C) (d : Int) (l : Bool) : Few N (agC C d l) := by
  unfold agC
  split
  · exact h
  · exact h.upd (Nat.le_refl _) _ _ ⟨Nat.zero_le _, fun y hy => by cases hy⟩
theorem Few.cr {N : Nat} {C : Nat → Ct} (kl tl : List Bool) : Few N (crC kl tl C) := fun e he => ⟨Nat.zero_le _, fun y hy => by cases hy⟩
/-- a call did so, to disks in block b -/
def Did (b : Nat) (D : Nat → Dk) (w : World) (C' : Nat → Ct) (w' : World) : Prop := ∃ D', Bk w' b D' ∧ Step b D w D' w' ∧ Cont D' C'
theorem did_same {b : Nat} {D : Nat → Dk} {w w' : World} {C : Nat → Ct} (h : Bk w b D) (hC : Cont D C) (hb : Below w.heap.size w w') : Did b D w C w' := ⟨D, h.below hb, Step.of_below hb, hC⟩
theorem write_c (b : Nat) (d n : Int) (s : ByteArray) (D : Nat → Dk) (C : Nat → Ct) (w : World) (h : Bk w b D) (hC : Cont D C) (hs : s.size ≤ 9223372036854775807) {N : Nat} (hN : Few N C) (hN6 : N < 1000000) :
    Calls Try.prog 19 #[.pointer (some ⟨b, 0, none⟩), .int .i64 d, .int .i64 n, .string s] w fun e w' => e = .returned (.int .i64 (eTakeC C d n s : Nat)) ∧ Did b D w (wrC C d n s) w' := by
  unfold wrC
  by_cases hz : eTakeC C d n s = 0
  · obtain ⟨h1, h2⟩ := take_in hz
    obtain ⟨h3, h6, h7⟩ := have_in h1
    obtain ⟨h4, h5, hl⟩ := live_in h3
    obtain ⟨k, rfl⟩ : ∃ k : Nat, d = (k : Int) := ⟨d.toNat, by omega⟩
    obtain ⟨m, rfl⟩ : ∃ m : Nat, n = (m : Int) := ⟨n.toNat, by omega⟩
    have hk : k < 12 := by omega
    rw [if_pos hz, hz]
    simp only [Int.toNat_natCast] at hl ⊢
    refine (write_ok b k m s D w h hk (by omega) (by rw [hC.lost hk]; exact hl) h2 (by rw [hC.ws hk]; have := (hN k hk).1; omega)).mono ?_
    rintro e w' ⟨rfl, v', hB, hS⟩
    refine ⟨rfl, _, hB, hS, ?_⟩
    have := hC.upd k ⟨(D k).lost, (D k).sec, v', (D k).ws ++ [(m, s)]⟩
    unfold cof at this
    simp only [hC.lost hk, hC.sec hk, hC.ws hk] at this ⊢
    exact this
  · rw [if_neg hz]
    have he : eTake D d n s ≠ 0 := by rw [hC.eTake]; exact hz
    refine (write_bad b d n s D w h hs he).mono ?_
    rintro e w' ⟨rfl, rfl⟩
    exact ⟨by rw [hC.eTake], did_same h hC (Below.refl _ _)⟩
theorem spoil_c (b : Nat) (d n : Int) (s : ByteArray) (D : Nat → Dk) (C : Nat → Ct) (w : World) (h : Bk w b D) (hC : Cont D C) (hs : s.size ≤ 9223372036854775807) :
    Calls Try.prog 23 #[.pointer (some ⟨b, 0, none⟩), .int .i64 d, .int .i64 n, .string s] w fun e w' => e = .returned (.int .i64 (eTakeC C d n s : Nat)) ∧ Did b D w (spC C d n s) w' := by
  unfold spC
  by_cases hz : eTakeC C d n s = 0
  · obtain ⟨h1, h2⟩ := take_in hz
    obtain ⟨h3, h6, h7⟩ := have_in h1
    obtain ⟨h4, h5, hl⟩ := live_in h3
    obtain ⟨k, rfl⟩ : ∃ k : Nat, d = (k : Int) := ⟨d.toNat, by omega⟩
    obtain ⟨m, rfl⟩ : ∃ m : Nat, n = (m : Int) := ⟨n.toNat, by omega⟩
    have hk : k < 12 := by omega
    rw [if_pos hz, hz]
    simp only [Int.toNat_natCast] at hl ⊢
    refine (spoilB_ok b k m s D w h hk (by omega) (by rw [hC.lost hk]; exact hl) h2).mono ?_
    rintro e w' ⟨rfl, v', hB, hS⟩
    refine ⟨rfl, _, hB, hS, ?_⟩
    have := hC.upd k (spD (D k) m s v')
    unfold cof spD at this
    unfold spD
    simp only [hC.lost hk, hC.sec hk, hC.ws hk] at this ⊢
    exact this
  · rw [if_neg hz]
    have he : eTake D d n s ≠ 0 := by rw [hC.eTake]; exact hz
    refine (spoilB_bad b d n s D w h hs he).mono ?_
    rintro e w' ⟨rfl, rfl⟩
    exact ⟨by rw [hC.eTake], did_same h hC (Below.refl _ _)⟩
theorem flush_c (b : Nat) (d : Int) (D : Nat → Dk) (C : Nat → Ct) (w : World) (h : Bk w b D) (hC : Cont D C) :
    Calls Try.prog 20 #[.pointer (some ⟨b, 0, none⟩), .int .i64 d] w fun e w' => e = .returned (.int .i64 (eLiveC C d : Nat)) ∧ Did b D w (flC C d) w' := by
  unfold flC
  by_cases hz : eLiveC C d = 0
  · obtain ⟨h4, h5, hl⟩ := live_in hz
    obtain ⟨k, rfl⟩ : ∃ k : Nat, d = (k : Int) := ⟨d.toNat, by omega⟩
    have hk : k < 12 := by omega
    rw [if_pos hz, hz]
    simp only [Int.toNat_natCast] at hl ⊢
    refine (flush_ok b k D w h hk (by rw [hC.lost hk]; exact hl)).mono ?_
    rintro e w' ⟨rfl, hB, hS⟩
    refine ⟨rfl, _, hB, hS, ?_⟩
    have := hC.upd k ⟨(D k).lost, secW (D k).sec (D k).ws, .slice none 0 0, []⟩
    unfold cof at this
    simp only [hC.lost hk, hC.sec hk, hC.ws hk] at this ⊢
    exact this
  · rw [if_neg hz]
    have he : eLive D d ≠ 0 := by rw [hC.eLive]; exact hz
    refine (flush_bad b d D w h he).mono ?_
    rintro e w' ⟨rfl, rfl⟩
    exact ⟨by rw [hC.eLive], did_same h hC (Below.refl _ _)⟩
theorem lose_c (b : Nat) (d : Int) (D : Nat → Dk) (C : Nat → Ct) (w : World) (h : Bk w b D) (hC : Cont D C) :
    Calls Try.prog 24 #[.pointer (some ⟨b, 0, none⟩), .int .i64 d] w fun e w' => e = .returned (.int .i64 (eKnown d : Nat)) ∧ Did b D w (agC C d true) w' := by
  unfold agC eKnown
  by_cases hz : d < 0 ∨ 11 < d
  · rw [if_pos hz, if_pos hz]
    refine (lose_bad b d w hz).mono ?_
    rintro e w' ⟨rfl, hb⟩
    exact ⟨rfl, did_same h hC hb⟩
  · rw [if_neg hz, if_neg hz]
    obtain ⟨k, rfl⟩ : ∃ k : Nat, d = (k : Int) := ⟨d.toNat, by omega⟩
    refine (lose_ok b k D w h (by omega)).mono ?_
    rintro e w' ⟨rfl, hB, hS⟩
    exact ⟨rfl, _, hB, hS, hC.upd k dkL⟩
theorem replace_c (b : Nat) (d : Int) (D : Nat → Dk) (C : Nat → Ct) (w : World) (h : Bk w b D) (hC : Cont D C) :
    Calls Try.prog 25 #[.pointer (some ⟨b, 0, none⟩), .int .i64 d] w fun e w' => e = .returned (.int .i64 (eKnown d : Nat)) ∧ Did b D w (agC C d false) w' := by
  unfold agC eKnown
  by_cases hz : d < 0 ∨ 11 < d
  · rw [if_pos hz, if_pos hz]
    refine (replace_bad b d w hz).mono ?_
    rintro e w' ⟨rfl, hb⟩
    exact ⟨rfl, did_same h hC hb⟩
  · rw [if_neg hz, if_neg hz]
    obtain ⟨k, rfl⟩ : ∃ k : Nat, d = (k : Int) := ⟨d.toNat, by omega⟩
    refine (replace_ok b k D w h (by omega)).mono ?_
    rintro e w' ⟨rfl, hB, hS⟩
    exact ⟨rfl, _, hB, hS, hC.upd k dk0⟩
theorem crash_c (b : Nat) (D : Nat → Dk) (C : Nat → Ct) (w : World) (ka ta : Option Addr) (kn tn kc tc : Nat) (kl tl : List Bool) (h : Bk w b D) (hC : Cont D C) (hk : BoolsAt w ka kl) (ht : BoolsAt w ta tl) (hkl : kl.length = kn) (htl : tl.length = tn) (hk6 : kn ≤ 9223372036854775807) (ht6 : tn ≤ 9223372036854775807) (hkf : kl = [] ∨ ∀ a, ka = some a → ¬ Foot b D a.block) (htf : tl = [] ∨ ∀ a, ta = some a → ¬ Foot b D a.block) {N : Nat} (hN : Few N C) (hN6 : N < 800) :
    Calls Try.prog 22 #[.pointer (some ⟨b, 0, none⟩), .slice ka kn kc, .slice ta tn tc] w fun e w' => e = .returned (.int .i64 0) ∧ Did b D w (crC kl tl C) w' := by
  have hp : plc D 12 < 10000 := by rw [hC.plc (Nat.le_refl _)]; have := plcC_few hN (Nat.le_refl 12); omega
  refine (crash_any b D w ka ta kn tn kc tc kl tl h hk ht hkl htl hk6 ht6 hkf htf hp (fun d hd x hx => by rw [hC.ws hd] at hx; have := (hN d hd).2 x hx; omega)).mono ?_
  rintro e w' ⟨rfl, hB, hS⟩
  refine ⟨rfl, _, hB, hS, fun e he => ?_⟩
  unfold crD crC cof
  simp only [if_pos he, hC.lost he, hC.sec he, hC.ws he, hC.plc (Nat.le_of_lt he)]
theorem read_c (b : Nat) (d n : Int) (D : Nat → Dk) (C : Nat → Ct) (w : World) (h : Bk w b D) (hC : Cont D C) :
    Calls Try.prog 15 #[.pointer (some ⟨b, 0, none⟩), .int .i64 d, .int .i64 n] w fun e w' => e = .returned (.tuple #[.string (rdC C d n), .int .i64 (eHaveC C d n : Nat)]) ∧ Below w.heap.size w w' := by
  have hr : rdS D d n = rdC C d n := by
    unfold rdS rdC
    rw [hC.eHave]
    split
    · next hz =>
      obtain ⟨h3, h6, h7⟩ := have_in hz
      obtain ⟨h4, h5, hl⟩ := live_in h3
      rw [hC.sec (by omega), hC.ws (by omega)]
    · rfl
  refine (read_any b d n D w h).mono ?_
  rintro e w' ⟨rfl, hb⟩
  exact ⟨by rw [hr, hC.eHave], hb⟩
theorem waits_c (b : Nat) (d : Int) (D : Nat → Dk) (C : Nat → Ct) (w : World) (h : Bk w b D) (hC : Cont D C) :
    Calls Try.prog 17 #[.pointer (some ⟨b, 0, none⟩), .int .i64 d] w fun e w' => e = .returned (.int .i64 (wtC C d : Nat)) ∧ w = w' := by
  have hr : nWaits D d = wtC C d := by
    unfold nWaits wtC
    rw [hC.eLive]
    split
    · next hz =>
      obtain ⟨h4, h5, hl⟩ := live_in hz
      rw [hC.ws (by omega)]
    · rfl
  refine (waits_any b d D w h).mono ?_
  rintro e w' ⟨rfl, hb⟩
  exact ⟨by rw [hr], hb⟩
theorem thereL_congr {f g : Nat → Bool} : ∀ {k : Nat}, (∀ d, d < k → f d = g d) → thereL f k = thereL g k
  | 0, _ => rfl
  | k + 1, h => by unfold thereL; rw [h k (by omega), thereL_congr fun d hd => h d (by omega)]
def lvC (C : Nat → Ct) : List Nat := thereL (fun d => !(C d).lost) 12
theorem live_c (b : Nat) (D : Nat → Dk) (C : Nat → Ct) (w : World) (h : Bk w b D) (hC : Cont D C) :
    Calls Try.prog 13 #[.pointer (some ⟨b, 0, none⟩)] w fun e w' => ∃ v, e = .returned v ∧ NumsAt w' w.heap.size v (lvC C) ∧ Below w.heap.size w w' := by
  have hr : thereL (fun d => eLive D (d : Int) == 0) 12 = lvC C := thereL_congr fun d hd => by
    rw [hC.eLive]
    unfold eLiveC
    rw [if_neg (by omega), Int.toNat_natCast]
    cases (C d).lost <;> rfl
  rw [← hr]
  exact liveB_any b D w h
theorem copy_c (b : Nat) (D : Nat → Dk) (C : Nat → Ct) (w : World) (h : Bk w b D) (hC : Cont D C) {N : Nat} (hN : Few N C) (hN6 : N < 1000000) :
    Calls Try.prog 21 #[.pointer (some ⟨b, 0, none⟩)] w fun e w' => e = .returned (.pointer (some ⟨w.heap.size, 0, none⟩)) ∧ ∃ E, Bk w' w.heap.size E ∧ Cont E C ∧ (∀ i, Foot w.heap.size E i → w.heap.size ≤ i) ∧ Below w.heap.size w w' := by
  refine (copy_any b D w h (fun d hd => by rw [hC.ws hd]; have := (hN d hd).1; omega)).mono ?_
  rintro e w' ⟨rfl, E, hM⟩
  refine ⟨rfl, E, hM.new, fun d hd => ?_, hM.foot, hM.below⟩
  obtain ⟨h1, h2, h3⟩ := hM.like d hd
  rw [← hC d hd]
  unfold cof
  rw [h1, h2, h3]
end Go.Proofs.Ytnpioaidbmllkaa
