/- The law CodeEncodes returns true at every input, and writes nothing that was there. -/
import Derived.Test.YteiddjjakemklabCdShard
import Derived.OpenShut
namespace Go.Proofs.Yteiddjjakemklab
open Go.RowKit
def okE (l : List ByteArray) : Bool := decide (l.length = 6) && al l
def encL (l : List ByteArray) : List ByteArray := if okE l then shs l else []
def encE (l : List ByteArray) : Int := if okE l then 0 else 1
/-- what Encode and its reference leave -/
def GenE (w : World) (l : List ByteArray) (e : Ending) (w' : World) : Prop :=
  ∃ a n c, e = .returned (.tuple #[.slice a n c, .int .i64 (encE l)]) ∧ (encL l).length = n ∧ n ≤ 9 ∧ StrsAt w' a (encL l) ∧ Below w.heap.size w w'
theorem gen_none {w w' : World} {l : List ByteArray} (h : okE l = false) (hb : Below w.heap.size w w') : GenE w l (.returned noStrs) w' :=
  ⟨none, 0, 0, by unfold noStrs encE; rw [h]; rfl, by unfold encL; rw [h]; rfl, by omega, .inl (by unfold encL; rw [h]; rfl), hb⟩
theorem gen_some {w w' : World} {l : List ByteArray} {a : Option Addr} {c : Nat} {e : Ending} (h : okE l = true) (he : e = .returned (.tuple #[.slice a 9 c, .int .i64 0])) (hs : StrsAt w' a (shs l)) (hb : Below w.heap.size w w') : GenE w l e w' :=
  ⟨a, 9, c, by rw [he]; unfold encE; rw [h]; rfl, by unfold encL; rw [h]; exact shs_len l, by omega, by unfold encL; rw [h]; exact hs, hb⟩
theorem head_le {l : List ByteArray} {many : Int} (h : smallB l many 60 = true) (k : Nat) : ((l.take k)[0]?.getD ByteArray.empty).size ≤ 60 := by
  cases e : (l.take k)[0]? with
  | none => simp
  | some s =>
    have hm : s ∈ l := List.mem_of_mem_take (List.mem_of_getElem? e)
    have := (small_iff.1 h).1 s hm
    simp only [Option.getD_some]
    omega
theorem head_le' {l : List ByteArray} {many : Int} (h : smallB l many 60 = true) : (l[0]?.getD ByteArray.empty).size ≤ 60 := by
  have := head_le h l.length
  rwa [List.take_length] at this
theorem encode_gen (b : Nat) (a : Option Addr) (n cap : Nat) (l : List ByteArray) (w : World) (ht : TabAt w b) (hl : l.length = n) (hS : StrsAt w a l) (h : smallB l 12 60 = true) :
    Calls Try.prog 12 #[.pointer (some ⟨b, 0, none⟩), .slice a n cap] w (GenE w l) := by
  by_cases h6 : n = 6
  · subst h6
    by_cases hal : al l = true
    · refine (encode_any b a cap _ l w ht hl hS (al_size hal) (by have := head_le' h; omega)).mono ?_
      rintro e w' ⟨rfl, hf, hb⟩
      exact gen_some (by simp [okE, hl, hal]) rfl hf.strs hb
    · refine (encode_unlike b a cap l w hl hS (by simpa using hal)).mono ?_
      rintro e w' ⟨rfl, rfl⟩
      exact gen_none (by simp [okE, hal]) (Below.refl _ _)
  · refine (encode_many b a n cap w h6).mono ?_
    rintro e w' ⟨rfl, rfl⟩
    exact gen_none (by simp [okE]; omega) (Below.refl _ _)
theorem refEncode_gen (a : Option Addr) (n cap : Nat) (l : List ByteArray) (w : World) (hl : l.length = n) (hS : StrsAt w a l) (h : smallB l 12 60 = true) :
    Calls Try.prog 13 #[.slice a n cap] w (GenE w l) := by
  by_cases h6 : n = 6
  · subst h6
    by_cases hal : al l = true
    · refine (refEncode_any a cap _ l w hl hS (al_size hal) (by have := head_le' h; omega)).mono ?_
      rintro e w' ⟨g, c9, rfl, hs, hb⟩
      exact gen_some (by simp [okE, hl, hal]) rfl hs hb
    · refine (refEncode_unlike a cap l w hl hS (by simpa using hal)).mono ?_
      rintro e w' ⟨rfl, q, rfl⟩
      exact gen_none (by simp [okE, hal]) (below_draws (Below.refl _ _) q)
  · refine (refEncode_many a n cap w h6).mono ?_
    rintro e w' ⟨rfl, rfl⟩
    exact gen_none (by simp [okE]; omega) (Below.refl _ _)
theorem is_gen (b : Nat) (a : Option Addr) (n cap : Nat) (l : List ByteArray) (w : World) (ht : TabAt w b) (hl : l.length = n) (hS : StrsAt w a l) (hc : n ≤ cap) (h : smallB l 12 60 = true) :
    Calls Try.prog 15 #[.pointer (some ⟨b, 0, none⟩), .slice a n cap] w fun e w' => e = .returned (.bool (isB l)) ∧ Below w.heap.size w w' := by
  by_cases h9 : n = 9
  · subst h9
    exact is_nine b a cap l w ht hl hS hc (by have := head_le h 6; omega)
  · refine (is_many _ a n cap w h9).mono ?_
    rintro e w' ⟨rfl, rfl⟩
    exact ⟨ret_bool (by unfold isB; rw [decide_eq_false (by omega)]; rfl), Below.refl _ _⟩
theorem refIs_gen (a : Option Addr) (n cap : Nat) (l : List ByteArray) (w : World) (hl : l.length = n) (hS : StrsAt w a l) (hc : n ≤ cap) (h : ((l.take 6)[0]?.getD ByteArray.empty).size ≤ 1000) :
    Calls Try.prog 16 #[.slice a n cap] w fun e w' => e = .returned (.bool (isB l)) ∧ Below w.heap.size w w' := by
  by_cases h9 : n = 9
  · subst h9
    exact refIs_nine a cap l w hl hS hc h
  · refine (refIs_many a n cap w h9).mono ?_
    rintro e w' ⟨rfl, rfl⟩
    exact ⟨ret_bool (by unfold isB; rw [decide_eq_false (by omega)]; rfl), Below.refl _ _⟩
set_option maxRecDepth 100000 in
set_option maxHeartbeats 2000000 in
theorem encodes_big (a0 : Option Addr) (l0 c0 : Nat) (a1 : Option Addr) (l1 c1 : Nat) (w : World) (d s : List ByteArray) (hl0 : d.length = l0) (h0 : l0 ≤ 9223372036854775807) (hS0 : StrsAt w a0 d) (hl1 : s.length = l1) (h1 : l1 ≤ 9223372036854775807) (hS1 : StrsAt w a1 s)
    (h : smallB d 12 60 = false ∨ smallB s 12 60 = false) :
    Calls Try.prog 4 #[.slice a0 l0 c0, .slice a1 l1 c1] w fun e w' => e = .returned (.bool true) ∧ Below w.heap.size w w' := by
  have HL0 := hide hl0
  have HL1 := hide hl1
  have HS0 := hide hS0
  have HS1 := hide hS1
  rcases (show smallB d 12 60 = false ∨ (smallB d 12 60 = true ∧ smallB s 12 60 = false) by
    cases e : smallB d 12 60
    · exact .inl rfl
    · rw [e] at h; simp at h; exact .inr ⟨rfl, h⟩) with hd | ⟨hd, hs⟩
  · clear h hl0 hl1 hS0 hS1
    go_enter Try.func4, Try.ntmps4
    go_wp2_with fail
    refine (small_wide a0 l0 c0 12 60 d _ HL0.out h0 HS0.out).mono ?_
    rintro e w1 ⟨he, rfl⟩
    rw [hd] at he; subst he
    go_wp2_with fail
    refine (live_any _).mono ?_
    rintro e w2 ⟨rfl, hb2⟩
    go_wp2_with fail
    go_ret
    exact ⟨rfl, hb2⟩
  · clear h hl0 hl1 hS0 hS1
    go_enter Try.func4, Try.ntmps4
    go_wp2_with fail
    refine (small_wide a0 l0 c0 12 60 d _ HL0.out h0 HS0.out).mono ?_
    rintro e w1 ⟨he, rfl⟩
    rw [hd] at he; subst he
    go_wp2_with fail
    refine (small_wide a1 l1 c1 12 60 s _ HL1.out h1 HS1.out).mono ?_
    rintro e w1 ⟨he, rfl⟩
    rw [hs] at he; subst he
    go_wp2_with fail
    refine (live_any _).mono ?_
    rintro e w2 ⟨rfl, hb2⟩
    go_wp2_with fail
    go_ret
    exact ⟨rfl, hb2⟩
set_option maxRecDepth 100000 in
set_option maxHeartbeats 2000000 in
theorem encodes_good (a0 : Option Addr) (l0 c0 : Nat) (a1 : Option Addr) (l1 c1 : Nat) (w : World) (d s : List ByteArray) (hl0 : d.length = l0) (h0 : l0 ≤ 9223372036854775807) (hS0 : StrsAt w a0 d) (hl1 : s.length = l1) (h1 : l1 ≤ 9223372036854775807) (hS1 : StrsAt w a1 s) (hc1 : l1 ≤ c1)
    (hd : smallB d 12 60 = true) (hs : smallB s 12 60 = true) :
    Calls Try.prog 4 #[.slice a0 l0 c0, .slice a1 l1 c1] w fun e w' => e = .returned (.bool true) ∧ Below w.heap.size w w' := by
  have HL0 := hide hl0
  have HL1 := hide hl1
  have HS0 := hide hS0
  have HS1 := hide hS1
  have HD := hide hd
  have HS := hide hs
  clear hl0 hl1 hS0 hS1 hd hs
  go_enter Try.func4, Try.ntmps4
  go_wp2_with fail
  refine (small_wide a0 l0 c0 12 60 d _ HL0.out h0 HS0.out).mono ?_
  rintro e w1 ⟨he, rfl⟩
  rw [HD.out] at he; subst he
  go_wp2_with fail
  refine (small_wide a1 l1 c1 12 60 s _ HL1.out h1 HS1.out).mono ?_
  rintro e w1 ⟨he, rfl⟩
  rw [HS.out] at he; subst he
  go_wp2_with fail
  refine (new_any _).mono ?_
  rintro e w1 ⟨rfl, ht, hb1⟩
  have HT1 := hide ht
  have HB1 := hide hb1
  clear ht hb1
  go_wp2_with fail
  refine (encode_gen w.heap.size a0 l0 c0 d _ HT1.out HL0.out (HS0.out.below HB1.out) HD.out).mono ?_
  rintro e w2 ⟨x, n, c, rfl, hn, hn9, hst, hb2⟩
  have HN := hide hn
  have HX := hide hst
  have HB2 := hide (HB1.out.trans (hb2.mono HB1.out.size))
  have HT2 := hide (HT1.out.below hb2 HT1.out.lt)
  clear hn hst hb2 HB1 HT1
  go_wp2_with fail
  refine (refEncode_gen a0 l0 c0 d _ HL0.out (HS0.out.below HB2.out) HD.out).mono ?_
  rintro e w3 ⟨y, n', c', rfl, hn', hn9', hst', hb3⟩
  have HN' := hide hn'
  have HY := hide hst'
  have HX3 := hide (HX.out.below hb3)
  have HB3 := hide (HB2.out.trans (hb3.mono HB2.out.size))
  have HT3 := hide (HT2.out.below hb3 HT2.out.lt)
  clear hn' hst' hb3 HB2 HT2 HX
  go_wp2_with fail
  refine (same_any x y n n' c c' (encL d) (encL d) _ HN.out HN'.out (by omega) (by omega) HX3.out HY.out).mono ?_
  rintro e w4 ⟨he, q4, rfl⟩
  rw [decide_eq_true (rfl : encL d = encL d)] at he; subst he
  have heq : (encE d == encE d) = true := by simp
  go_wp2_with fail
  refine (is_gen w.heap.size a1 l1 c1 s _ (HT3.out.drewN q4) HL1.out ((HS1.out.below HB3.out).drewN q4) hc1 HS.out).mono ?_
  rintro e w5 ⟨rfl, hb5⟩
  have HB5 := hide ((below_draws HB3.out q4).trans (hb5.mono HB3.out.size))
  clear hb5
  go_wp2_with fail
  refine (refIs_gen a1 l1 c1 s _ HL1.out (HS1.out.below HB5.out) hc1 (by have := head_le HS.out 6; omega)).mono ?_
  rintro e w6 ⟨rfl, hb6⟩
  have HB6 := hide (HB5.out.trans (hb6.mono HB5.out.size))
  clear hb6
  have hee : (isB s == isB s) = true := by simp
  go_wp2_with fail
  refine (live_any _).mono ?_
  rintro e w7 ⟨rfl, hb7⟩
  go_wp2_with fail
  go_ret
  exact ⟨rfl, HB6.out.trans (hb7.mono HB6.out.size)⟩
theorem walkCodeEncodes (a0 : Option Addr) (l0 c0 : Nat) (a1 : Option Addr) (l1 c1 : Nat) (w : World) (w0 : Came 30 w a0 l0 c0) (w1 : Came 30 w a1 l1 c1) :
    Calls Try.prog 4 #[.slice a0 l0 c0, .slice a1 l1 c1] w fun e w' => e = .returned (.bool true) ∧ Below w.heap.size w w' := by
  obtain ⟨d, hl0, hc0, hm0, hS0⟩ := came_strs w0
  obtain ⟨s, hl1, hc1, hm1, hS1⟩ := came_strs w1
  by_cases hbig : smallB d 12 60 = false ∨ smallB s 12 60 = false
  · exact encodes_big a0 l0 c0 a1 l1 c1 w d s hl0 hm0 hS0 hl1 hm1 hS1 hbig
  · exact encodes_good a0 l0 c0 a1 l1 c1 w d s hl0 hm0 hS0 hl1 hm1 hS1 hc1 (by cases h : smallB d 12 60 <;> simp [h] at hbig ⊢) (by cases h : smallB s 12 60 <;> simp [h] at hbig ⊢)
end Go.Proofs.Yteiddjjakemklab
