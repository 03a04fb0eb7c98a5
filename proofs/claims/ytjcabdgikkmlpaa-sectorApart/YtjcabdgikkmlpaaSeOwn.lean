/- Headers handed from one package to the other; what sector.taken and strings.TrimPrefix answer. -/
import Derived.Test.YtjcabdgikkmlpaaSeWriteB
import Derived.Handy
namespace Go.Proofs.Ytjcabdgikkmlpaa
open Go.RowKit
set_option linter.unusedVariables false
set_option maxRecDepth 100000 in
set_option maxHeartbeats 4000000 in
theorem own_any (h : Hd) (w : World) : Calls Try.prog 12 #[.agg (hcs h)] w fun r w' => r = .returned (.agg (hcs h)) ∧ Below w.heap.size w w' := by
  have HB : Hid (Below w.heap.size w ((w.alloc (.cells (hcs h) 25)).alloc (.cells (hcs h) 30))) := (((Below.refl _ _).alloc (Nat.le_refl _) _).alloc (by rw [World.size_alloc]; omega) _)
  obtain ⟨v, g, i, d, s, x⟩ := h
  simp only [hcs] at HB ⊢
  go_enter Try.func12, Try.ntmps12
  go_wp2_with fail
  go_returns
  exact ⟨rfl, HB.out⟩
set_option maxRecDepth 100000 in
set_option maxHeartbeats 4000000 in
theorem told_any (h : Hd) (w : World) : Calls Try.prog 18 #[.agg (hcs h)] w fun r w' => r = .returned (.agg (hcs h)) ∧ Below w.heap.size w w' := by
  have HB : Hid (Below w.heap.size w ((w.alloc (.cells (hcs h) 30)).alloc (.cells (hcs h) 25))) := (((Below.refl _ _).alloc (Nat.le_refl _) _).alloc (by rw [World.size_alloc]; omega) _)
  obtain ⟨v, g, i, d, s, x⟩ := h
  simp only [hcs] at HB ⊢
  go_enter Try.func18, Try.ntmps18
  go_wp2_with fail
  go_returns
  exact ⟨rfl, HB.out⟩
theorem sSG_list : sSG.toList = [83, 71] := by rw [ByteArray.toList_eq]; rfl
set_option maxRecDepth 100000 in
set_option maxHeartbeats 4000000 in
theorem trim_any (t : ByteArray) (w : World) (ht : t.size ≤ 1000000) : Calls Try.prog 29 #[.string t, .string sSG] w fun r w' => r = .returned (.string (trimS t)) ∧ w = w' := by
  by_cases h2 : 2 ≤ t.size
  · have q2 : decide ((2 : Int) ≤ (t.size : Int)) = true := by simp; omega
    by_cases he : t.extract 0 2 = sSG
    · have hq := str_eq he
      rw [sSG_list] at hq
      have HT : Hid (t.extract 2 t.size = trimS t) := by show _ = _; unfold trimS; rw [if_pos ⟨h2, he⟩]; rfl
      clear he
      unfold sSG
      go_enter Try.func29, Try.ntmps29
      go_wp2
      try go_ret
      exact ⟨ret_str HT.out, rfl⟩
    · have hq := str_ne he
      rw [sSG_list] at hq
      have HT : Hid (t = trimS t) := by show _ = _; unfold trimS; rw [if_neg (by simp [he])]
      clear he
      unfold sSG
      go_enter Try.func29, Try.ntmps29
      go_wp2
      try go_ret
      exact ⟨ret_str HT.out, rfl⟩
  · have q2 : decide ((2 : Int) ≤ (t.size : Int)) = false := by simp; omega
    have HT : Hid (t = trimS t) := by show _ = _; unfold trimS; rw [if_neg (by simp [h2])]
    unfold sSG
    go_enter Try.func29, Try.ntmps29
    go_wp2
    try go_ret
    exact ⟨ret_str HT.out, rfl⟩
/-- a reader: behind an error nothing is left -/
def RdX (w : World) (b : Nat) (t : TypeId) (s : ByteArray) : Prop := ∃ e, RdAt w b t s e ∧ (e ≠ 0 → s = ByteArray.empty)
theorem RdX.lt {w : World} {b : Nat} {t : TypeId} {s : ByteArray} (h : RdX w b t s) : b < w.heap.size := by obtain ⟨e, h, _⟩ := h; exact h.lt
theorem rN_nil : rN ByteArray.empty = 0 := by decide
theorem rR_nil : rR ByteArray.empty = ByteArray.empty := by decide
theorem tT_nil : tT ByteArray.empty = ByteArray.empty := by decide
theorem tR_nil : tR ByteArray.empty = ByteArray.empty := by decide
theorem rR_err {s : ByteArray} (h : rE s ≠ 0) : rR s = ByteArray.empty := by unfold rR; rw [if_neg h]
theorem tR_err {s : ByteArray} (h : tE s ≠ 0) : tR s = ByteArray.empty := by unfold tR; rw [if_neg h]
theorem rnum_x (b : Nat) (s : ByteArray) (w : World) (h : RdX w b 77 s) (hs : s.size ≤ 1000000) : Calls Try.prog 41 #[.pointer (some ⟨b, 0, none⟩)] w fun r w' => r = .returned (.int .i64 (rN s : Nat)) ∧ RdX w' b 77 (rR s) ∧ But b w w' := by
  obtain ⟨e, h, he⟩ := h
  by_cases h0 : e = 0
  · subst h0
    exact (rnum_ok b s w h hs).mono fun r w' k => ⟨k.1, ⟨_, k.2.1, rR_err⟩, k.2.2⟩
  · obtain rfl := he h0
    refine (rnum_err b _ e w h h0).mono fun r w' k => ⟨by rw [rN_nil]; exact k.1, ?_, k.2 ▸ But.refl _ _⟩
    rw [rR_nil, ← k.2]
    exact ⟨e, h, fun _ => rfl⟩
theorem rtext_x (b : Nat) (s : ByteArray) (w : World) (h : RdX w b 77 s) (hs : s.size ≤ 1000000) : Calls Try.prog 42 #[.pointer (some ⟨b, 0, none⟩)] w fun r w' => r = .returned (.string (tT s)) ∧ RdX w' b 77 (tR s) ∧ But b w w' := by
  obtain ⟨e, h, he⟩ := h
  by_cases h0 : e = 0
  · subst h0
    exact (rtext_ok b s w h hs).mono fun r w' k => ⟨k.1, ⟨_, k.2.1, tR_err⟩, k.2.2⟩
  · obtain rfl := he h0
    refine (rtext_err b _ e w h h0).mono fun r w' k => ⟨by rw [tT_nil]; exact k.1, ?_, k.2 ▸ But.refl _ _⟩
    rw [tR_nil, ← k.2]
    exact ⟨e, h, fun _ => rfl⟩
end Go.Proofs.Ytjcabdgikkmlpaa
