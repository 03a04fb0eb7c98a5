/- ReplayOrder answers true at every input. -/
import Derived.Test.YtaiafbihcfbglaaRpLive
import Derived.Test.YtaiafbihcfbglaaRpLaws
namespace Go.Proofs.Ytaiafbihcfbglaa
open Go.RowKit
set_option linter.unusedVariables false
set_option maxRecDepth 100000 in
set_option maxHeartbeats 8000000 in
theorem order_big (a0 : Option Addr) (l0 c0 : Nat) (a1 : Option Addr) (l1 c1 : Nat) (a2 : Option Addr) (l2 c2 : Nat) (w : World) (L0 : List ByteArray) (hl0 : L0.length = l0) (z0 : l0 ≤ 9223372036854775807) (hS0 : StrsAt w a0 L0) (L1 : List ByteArray) (hl1 : L1.length = l1) (z1 : l1 ≤ 9223372036854775807) (hS1 : StrsAt w a1 L1) (L2 : List ByteArray) (hl2 : L2.length = l2) (z2 : l2 ≤ 9223372036854775807) (hS2 : StrsAt w a2 L2) (h : smallB L0 20 300 = false ∨ (smallB L0 20 300 = true ∧ smallB L1 20 300 = false) ∨ (smallB L0 20 300 = true ∧ smallB L1 20 300 = true ∧ smallB L2 20 300 = false)) : Calls Try.prog 8 #[.slice a0 l0 c0, .slice a1 l1 c1, .slice a2 l2 c2] w fun e w' => e = .returned (.bool true) ∧ Below w.heap.size w w' := by
  have HL0 := hide hl0
  have HS0 := hide hS0
  have HL1 := hide hl1
  have HS1 := hide hS1
  have HL2 := hide hl2
  have HS2 := hide hS2
  clear hl0 hS0 hl1 hS1 hl2 hS2
  rcases h with h | ⟨s0, h⟩ | ⟨s0, s1, h⟩
  · go_enter Try.func8, Try.ntmps8
    go_wp2_with fail
    refine (small_wide a0 l0 c0 20 300 L0 w HL0.out z0 HS0.out).mono ?_
    rintro e _ ⟨he, rfl⟩
    rw [h] at he; subst he
    go_wp2_with fail
    refine (live12_any w).mono ?_
    rintro e wl ⟨rfl, hbl⟩
    go_wp2_with fail
    try go_ret
    exact ⟨rfl, hbl⟩
  · go_enter Try.func8, Try.ntmps8
    go_wp2_with fail
    refine (small_wide a0 l0 c0 20 300 L0 w HL0.out z0 HS0.out).mono ?_
    rintro e _ ⟨he, rfl⟩
    rw [s0] at he; subst he
    go_wp2_with fail
    refine (small_wide a1 l1 c1 20 300 L1 w HL1.out z1 HS1.out).mono ?_
    rintro e _ ⟨he, rfl⟩
    rw [h] at he; subst he
    go_wp2_with fail
    refine (live12_any w).mono ?_
    rintro e wl ⟨rfl, hbl⟩
    go_wp2_with fail
    try go_ret
    exact ⟨rfl, hbl⟩
  · go_enter Try.func8, Try.ntmps8
    go_wp2_with fail
    refine (small_wide a0 l0 c0 20 300 L0 w HL0.out z0 HS0.out).mono ?_
    rintro e _ ⟨he, rfl⟩
    rw [s0] at he; subst he
    go_wp2_with fail
    refine (small_wide a1 l1 c1 20 300 L1 w HL1.out z1 HS1.out).mono ?_
    rintro e _ ⟨he, rfl⟩
    rw [s1] at he; subst he
    go_wp2_with fail
    refine (small_wide a2 l2 c2 20 300 L2 w HL2.out z2 HS2.out).mono ?_
    rintro e _ ⟨he, rfl⟩
    rw [h] at he; subst he
    go_wp2_with fail
    refine (live12_any w).mono ?_
    rintro e wl ⟨rfl, hbl⟩
    go_wp2_with fail
    try go_ret
    exact ⟨rfl, hbl⟩
set_option maxRecDepth 100000 in
set_option maxHeartbeats 8000000 in
theorem order_0 (a0 : Option Addr) (l0 c0 : Nat) (a1 : Option Addr) (l1 c1 : Nat) (a2 : Option Addr) (l2 c2 : Nat) (w : World) (L0 : List ByteArray) (hl0 : L0.length = l0) (z0 : l0 ≤ 9223372036854775807) (hS0 : StrsAt w a0 L0) (L1 : List ByteArray) (hl1 : L1.length = l1) (z1 : l1 ≤ 9223372036854775807) (hS1 : StrsAt w a1 L1) (L2 : List ByteArray) (hl2 : L2.length = l2) (z2 : l2 ≤ 9223372036854775807) (hS2 : StrsAt w a2 L2) (s0 : smallB L0 20 300 = true) (s1 : smallB L1 20 300 = true) (s2 : smallB L2 20 300 = true) (P Q R : List Rc) (hP : prefR L0 = P) (hQ : prefR L1 = Q) (hR : prefR L2 = R) (b1 : begR P Q = false) : Calls Try.prog 8 #[.slice a0 l0 c0, .slice a1 l1 c1, .slice a2 l2 c2] w fun e w' => e = .returned (.bool true) ∧ Below w.heap.size w w' := by
  have X0 : Hid (∀ w, StrsAt w a0 L0 → Calls Try.prog 12 #[.slice a0 l0 c0] w (PxP P w)) := fun w q => by rw [← hP]; exact px_any a0 l0 c0 L0 w hl0 z0 q (small_of s0)
  have X1 : Hid (∀ w, StrsAt w a1 L1 → Calls Try.prog 12 #[.slice a1 l1 c1] w (PxP Q w)) := fun w q => by rw [← hQ]; exact px_any a1 l1 c1 L1 w hl1 z1 q (small_of s1)
  have X2 : Hid (∀ w, StrsAt w a2 L2 → Calls Try.prog 12 #[.slice a2 l2 c2] w (PxP R w)) := fun w q => by rw [← hR]; exact px_any a2 l2 c2 L2 w hl2 z2 q (small_of s2)
  have HL0 := hide hl0
  have HS0 := hide hS0
  have HL1 := hide hl1
  have HS1 := hide hS1
  have HL2 := hide hl2
  have HS2 := hide hS2
  clear hl0 hS0 hl1 hS1 hl2 hS2
  clear hP hQ hR
  go_enter Try.func8, Try.ntmps8
  go_wp2_with fail
  refine (small_wide a0 l0 c0 20 300 L0 w HL0.out z0 HS0.out).mono ?_
  rintro e _ ⟨he, rfl⟩
  rw [s0] at he; subst he
  go_wp2_with fail
  refine (small_wide a1 l1 c1 20 300 L1 w HL1.out z1 HS1.out).mono ?_
  rintro e _ ⟨he, rfl⟩
  rw [s1] at he; subst he
  go_wp2_with fail
  refine (small_wide a2 l2 c2 20 300 L2 w HL2.out z2 HS2.out).mono ?_
  rintro e _ ⟨he, rfl⟩
  rw [s2] at he; subst he
  go_wp2_with fail
  clear s0 s1 s2
  refine (X0.out w HS0.out).mono ?_
  rintro e w1 ⟨p0, n0, k0, rfl, hr, hb⟩
  have B1 := hide hb
  have R00 := hide hr
  clear hr hb
  go_wp2_with fail
  refine (X1.out w1 (HS1.out.below B1.out)).mono ?_
  rintro e w2 ⟨p1, n1, k1, rfl, hr, hb⟩
  have B2 := hide (B1.out.trans (hb.mono B1.out.size))
  have R01 := hide (R00.out.below hb)
  have R11 := hide hr
  clear R00 B1
  clear hr hb
  go_wp2_with fail
  refine (X2.out w2 (HS2.out.below B2.out)).mono ?_
  rintro e w3 ⟨p2, n2, k2, rfl, hr, hb⟩
  have B3 := hide (B2.out.trans (hb.mono B2.out.size))
  have R02 := hide (R01.out.below hb)
  have R12 := hide (R11.out.below hb)
  have R22 := hide hr
  clear R01 R11 B2
  clear hr hb
  go_wp2_with fail
  refine (pb_any R02.out R02.out).mono ?_
  rintro e v3 ⟨he, hb⟩
  rw [begR_refl] at he; subst he
  have BB3 := hide (B3.out.trans (hb.mono B3.out.size))
  have T03 := hide (R02.out.below hb)
  have T13 := hide (R12.out.below hb)
  have T23 := hide (R22.out.below hb)
  clear hb R02 R12 R22
  go_wp2_with fail
  refine (pb_any (rowP_nil v3) T03.out).mono ?_
  rintro e v4 ⟨he, hb⟩
  rw [begR_nil] at he; subst he
  have BB4 := hide (BB3.out.trans (hb.mono BB3.out.size))
  have T04 := hide (T03.out.below hb)
  have T14 := hide (T13.out.below hb)
  have T24 := hide (T23.out.below hb)
  clear hb T03 T13 T23
  go_wp2_with fail
  refine (pb_any T04.out T14.out).mono ?_
  rintro e v5 ⟨he, hb⟩
  rw [b1] at he; subst he
  have BB5 := hide (BB4.out.trans (hb.mono BB4.out.size))
  have T05 := hide (T04.out.below hb)
  have T15 := hide (T14.out.below hb)
  have T25 := hide (T24.out.below hb)
  clear hb T04 T14 T24
  go_wp2_with fail
  refine (pb_any T05.out T15.out).mono ?_
  rintro e v6 ⟨he, hb⟩
  rw [b1] at he; subst he
  have BB6 := hide (BB5.out.trans (hb.mono BB5.out.size))
  have T06 := hide (T05.out.below hb)
  have T16 := hide (T15.out.below hb)
  have T26 := hide (T25.out.below hb)
  clear hb T05 T15 T25
  go_wp2_with fail
  refine (live12_any v6).mono ?_
  rintro e wl ⟨rfl, hbl⟩
  go_wp2_with fail
  try go_ret
  exact ⟨rfl, BB6.out.trans (hbl.mono BB6.out.size)⟩
set_option maxRecDepth 100000 in
set_option maxHeartbeats 8000000 in
theorem order_1 (a0 : Option Addr) (l0 c0 : Nat) (a1 : Option Addr) (l1 c1 : Nat) (a2 : Option Addr) (l2 c2 : Nat) (w : World) (L0 : List ByteArray) (hl0 : L0.length = l0) (z0 : l0 ≤ 9223372036854775807) (hS0 : StrsAt w a0 L0) (L1 : List ByteArray) (hl1 : L1.length = l1) (z1 : l1 ≤ 9223372036854775807) (hS1 : StrsAt w a1 L1) (L2 : List ByteArray) (hl2 : L2.length = l2) (z2 : l2 ≤ 9223372036854775807) (hS2 : StrsAt w a2 L2) (s0 : smallB L0 20 300 = true) (s1 : smallB L1 20 300 = true) (s2 : smallB L2 20 300 = true) (P Q R : List Rc) (hP : prefR L0 = P) (hQ : prefR L1 = Q) (hR : prefR L2 = R) (b1 : begR P Q = true) (b2 : begR Q P = false) (b3 : begR Q R = false) : Calls Try.prog 8 #[.slice a0 l0 c0, .slice a1 l1 c1, .slice a2 l2 c2] w fun e w' => e = .returned (.bool true) ∧ Below w.heap.size w w' := by
  have X0 : Hid (∀ w, StrsAt w a0 L0 → Calls Try.prog 12 #[.slice a0 l0 c0] w (PxP P w)) := fun w q => by rw [← hP]; exact px_any a0 l0 c0 L0 w hl0 z0 q (small_of s0)
  have X1 : Hid (∀ w, StrsAt w a1 L1 → Calls Try.prog 12 #[.slice a1 l1 c1] w (PxP Q w)) := fun w q => by rw [← hQ]; exact px_any a1 l1 c1 L1 w hl1 z1 q (small_of s1)
  have X2 : Hid (∀ w, StrsAt w a2 L2 → Calls Try.prog 12 #[.slice a2 l2 c2] w (PxP R w)) := fun w q => by rw [← hR]; exact px_any a2 l2 c2 L2 w hl2 z2 q (small_of s2)
  have HL0 := hide hl0
  have HS0 := hide hS0
  have HL1 := hide hl1
  have HS1 := hide hS1
  have HL2 := hide hl2
  have HS2 := hide hS2
  clear hl0 hS0 hl1 hS1 hl2 hS2
  clear hP hQ hR
  go_enter Try.func8, Try.ntmps8
  go_wp2_with fail
  refine (small_wide a0 l0 c0 20 300 L0 w HL0.out z0 HS0.out).mono ?_
  rintro e _ ⟨he, rfl⟩
  rw [s0] at he; subst he
  go_wp2_with fail
  refine (small_wide a1 l1 c1 20 300 L1 w HL1.out z1 HS1.out).mono ?_
  rintro e _ ⟨he, rfl⟩
  rw [s1] at he; subst he
  go_wp2_with fail
  refine (small_wide a2 l2 c2 20 300 L2 w HL2.out z2 HS2.out).mono ?_
  rintro e _ ⟨he, rfl⟩
  rw [s2] at he; subst he
  go_wp2_with fail
  clear s0 s1 s2
  refine (X0.out w HS0.out).mono ?_
  rintro e w1 ⟨p0, n0, k0, rfl, hr, hb⟩
  have B1 := hide hb
  have R00 := hide hr
  clear hr hb
  go_wp2_with fail
  refine (X1.out w1 (HS1.out.below B1.out)).mono ?_
  rintro e w2 ⟨p1, n1, k1, rfl, hr, hb⟩
  have B2 := hide (B1.out.trans (hb.mono B1.out.size))
  have R01 := hide (R00.out.below hb)
  have R11 := hide hr
  clear R00 B1
  clear hr hb
  go_wp2_with fail
  refine (X2.out w2 (HS2.out.below B2.out)).mono ?_
  rintro e w3 ⟨p2, n2, k2, rfl, hr, hb⟩
  have B3 := hide (B2.out.trans (hb.mono B2.out.size))
  have R02 := hide (R01.out.below hb)
  have R12 := hide (R11.out.below hb)
  have R22 := hide hr
  clear R01 R11 B2
  clear hr hb
  go_wp2_with fail
  refine (pb_any R02.out R02.out).mono ?_
  rintro e v3 ⟨he, hb⟩
  rw [begR_refl] at he; subst he
  have BB3 := hide (B3.out.trans (hb.mono B3.out.size))
  have T03 := hide (R02.out.below hb)
  have T13 := hide (R12.out.below hb)
  have T23 := hide (R22.out.below hb)
  clear hb R02 R12 R22
  go_wp2_with fail
  refine (pb_any (rowP_nil v3) T03.out).mono ?_
  rintro e v4 ⟨he, hb⟩
  rw [begR_nil] at he; subst he
  have BB4 := hide (BB3.out.trans (hb.mono BB3.out.size))
  have T04 := hide (T03.out.below hb)
  have T14 := hide (T13.out.below hb)
  have T24 := hide (T23.out.below hb)
  clear hb T03 T13 T23
  go_wp2_with fail
  refine (pb_any T04.out T14.out).mono ?_
  rintro e v5 ⟨he, hb⟩
  rw [b1] at he; subst he
  have BB5 := hide (BB4.out.trans (hb.mono BB4.out.size))
  have T05 := hide (T04.out.below hb)
  have T15 := hide (T14.out.below hb)
  have T25 := hide (T24.out.below hb)
  clear hb T04 T14 T24
  go_wp2_with fail
  refine (pb_any T15.out T05.out).mono ?_
  rintro e v6 ⟨he, hb⟩
  rw [b2] at he; subst he
  have BB6 := hide (BB5.out.trans (hb.mono BB5.out.size))
  have T06 := hide (T05.out.below hb)
  have T16 := hide (T15.out.below hb)
  have T26 := hide (T25.out.below hb)
  clear hb T05 T15 T25
  go_wp2_with fail
  refine (pb_any T06.out T16.out).mono ?_
  rintro e v7 ⟨he, hb⟩
  rw [b1] at he; subst he
  have BB7 := hide (BB6.out.trans (hb.mono BB6.out.size))
  have T07 := hide (T06.out.below hb)
  have T17 := hide (T16.out.below hb)
  have T27 := hide (T26.out.below hb)
  clear hb T06 T16 T26
  go_wp2_with fail
  refine (pb_any T17.out T27.out).mono ?_
  rintro e v8 ⟨he, hb⟩
  rw [b3] at he; subst he
  have BB8 := hide (BB7.out.trans (hb.mono BB7.out.size))
  have T08 := hide (T07.out.below hb)
  have T18 := hide (T17.out.below hb)
  have T28 := hide (T27.out.below hb)
  clear hb T07 T17 T27
  go_wp2_with fail
  refine (live12_any v8).mono ?_
  rintro e wl ⟨rfl, hbl⟩
  go_wp2_with fail
  try go_ret
  exact ⟨rfl, BB8.out.trans (hbl.mono BB8.out.size)⟩
set_option maxRecDepth 100000 in
set_option maxHeartbeats 8000000 in
theorem order_2 (a0 : Option Addr) (l0 c0 : Nat) (a1 : Option Addr) (l1 c1 : Nat) (a2 : Option Addr) (l2 c2 : Nat) (w : World) (L0 : List ByteArray) (hl0 : L0.length = l0) (z0 : l0 ≤ 9223372036854775807) (hS0 : StrsAt w a0 L0) (L1 : List ByteArray) (hl1 : L1.length = l1) (z1 : l1 ≤ 9223372036854775807) (hS1 : StrsAt w a1 L1) (L2 : List ByteArray) (hl2 : L2.length = l2) (z2 : l2 ≤ 9223372036854775807) (hS2 : StrsAt w a2 L2) (s0 : smallB L0 20 300 = true) (s1 : smallB L1 20 300 = true) (s2 : smallB L2 20 300 = true) (P Q R : List Rc) (hP : prefR L0 = P) (hQ : prefR L1 = Q) (hR : prefR L2 = R) (b1 : begR P Q = true) (b2 : begR Q P = false) (b3 : begR Q R = true) : Calls Try.prog 8 #[.slice a0 l0 c0, .slice a1 l1 c1, .slice a2 l2 c2] w fun e w' => e = .returned (.bool true) ∧ Below w.heap.size w w' := by
  have X0 : Hid (∀ w, StrsAt w a0 L0 → Calls Try.prog 12 #[.slice a0 l0 c0] w (PxP P w)) := fun w q => by rw [← hP]; exact px_any a0 l0 c0 L0 w hl0 z0 q (small_of s0)
  have X1 : Hid (∀ w, StrsAt w a1 L1 → Calls Try.prog 12 #[.slice a1 l1 c1] w (PxP Q w)) := fun w q => by rw [← hQ]; exact px_any a1 l1 c1 L1 w hl1 z1 q (small_of s1)
  have X2 : Hid (∀ w, StrsAt w a2 L2 → Calls Try.prog 12 #[.slice a2 l2 c2] w (PxP R w)) := fun w q => by rw [← hR]; exact px_any a2 l2 c2 L2 w hl2 z2 q (small_of s2)
  have HL0 := hide hl0
  have HS0 := hide hS0
  have HL1 := hide hl1
  have HS1 := hide hS1
  have HL2 := hide hl2
  have HS2 := hide hS2
  clear hl0 hS0 hl1 hS1 hl2 hS2
  clear hP hQ hR
  go_enter Try.func8, Try.ntmps8
  go_wp2_with fail
  refine (small_wide a0 l0 c0 20 300 L0 w HL0.out z0 HS0.out).mono ?_
  rintro e _ ⟨he, rfl⟩
  rw [s0] at he; subst he
  go_wp2_with fail
  refine (small_wide a1 l1 c1 20 300 L1 w HL1.out z1 HS1.out).mono ?_
  rintro e _ ⟨he, rfl⟩
  rw [s1] at he; subst he
  go_wp2_with fail
  refine (small_wide a2 l2 c2 20 300 L2 w HL2.out z2 HS2.out).mono ?_
  rintro e _ ⟨he, rfl⟩
  rw [s2] at he; subst he
  go_wp2_with fail
  clear s0 s1 s2
  refine (X0.out w HS0.out).mono ?_
  rintro e w1 ⟨p0, n0, k0, rfl, hr, hb⟩
  have B1 := hide hb
  have R00 := hide hr
  clear hr hb
  go_wp2_with fail
  refine (X1.out w1 (HS1.out.below B1.out)).mono ?_
  rintro e w2 ⟨p1, n1, k1, rfl, hr, hb⟩
  have B2 := hide (B1.out.trans (hb.mono B1.out.size))
  have R01 := hide (R00.out.below hb)
  have R11 := hide hr
  clear R00 B1
  clear hr hb
  go_wp2_with fail
  refine (X2.out w2 (HS2.out.below B2.out)).mono ?_
  rintro e w3 ⟨p2, n2, k2, rfl, hr, hb⟩
  have B3 := hide (B2.out.trans (hb.mono B2.out.size))
  have R02 := hide (R01.out.below hb)
  have R12 := hide (R11.out.below hb)
  have R22 := hide hr
  clear R01 R11 B2
  clear hr hb
  go_wp2_with fail
  refine (pb_any R02.out R02.out).mono ?_
  rintro e v3 ⟨he, hb⟩
  rw [begR_refl] at he; subst he
  have BB3 := hide (B3.out.trans (hb.mono B3.out.size))
  have T03 := hide (R02.out.below hb)
  have T13 := hide (R12.out.below hb)
  have T23 := hide (R22.out.below hb)
  clear hb R02 R12 R22
  go_wp2_with fail
  refine (pb_any (rowP_nil v3) T03.out).mono ?_
  rintro e v4 ⟨he, hb⟩
  rw [begR_nil] at he; subst he
  have BB4 := hide (BB3.out.trans (hb.mono BB3.out.size))
  have T04 := hide (T03.out.below hb)
  have T14 := hide (T13.out.below hb)
  have T24 := hide (T23.out.below hb)
  clear hb T03 T13 T23
  go_wp2_with fail
  refine (pb_any T04.out T14.out).mono ?_
  rintro e v5 ⟨he, hb⟩
  rw [b1] at he; subst he
  have BB5 := hide (BB4.out.trans (hb.mono BB4.out.size))
  have T05 := hide (T04.out.below hb)
  have T15 := hide (T14.out.below hb)
  have T25 := hide (T24.out.below hb)
  clear hb T04 T14 T24
  go_wp2_with fail
  refine (pb_any T15.out T05.out).mono ?_
  rintro e v6 ⟨he, hb⟩
  rw [b2] at he; subst he
  have BB6 := hide (BB5.out.trans (hb.mono BB5.out.size))
  have T06 := hide (T05.out.below hb)
  have T16 := hide (T15.out.below hb)
  have T26 := hide (T25.out.below hb)
  clear hb T05 T15 T25
  go_wp2_with fail
  refine (pb_any T06.out T16.out).mono ?_
  rintro e v7 ⟨he, hb⟩
  rw [b1] at he; subst he
  have BB7 := hide (BB6.out.trans (hb.mono BB6.out.size))
  have T07 := hide (T06.out.below hb)
  have T17 := hide (T16.out.below hb)
  have T27 := hide (T26.out.below hb)
  clear hb T06 T16 T26
  go_wp2_with fail
  refine (pb_any T17.out T27.out).mono ?_
  rintro e v8 ⟨he, hb⟩
  rw [b3] at he; subst he
  have BB8 := hide (BB7.out.trans (hb.mono BB7.out.size))
  have T08 := hide (T07.out.below hb)
  have T18 := hide (T17.out.below hb)
  have T28 := hide (T27.out.below hb)
  clear hb T07 T17 T27
  go_wp2_with fail
  refine (pb_any T08.out T28.out).mono ?_
  rintro e v9 ⟨he, hb⟩
  rw [(begR_trans b1 b3)] at he; subst he
  have BB9 := hide (BB8.out.trans (hb.mono BB8.out.size))
  have T09 := hide (T08.out.below hb)
  have T19 := hide (T18.out.below hb)
  have T29 := hide (T28.out.below hb)
  clear hb T08 T18 T28
  go_wp2_with fail
  refine (live12_any v9).mono ?_
  rintro e wl ⟨rfl, hbl⟩
  go_wp2_with fail
  try go_ret
  exact ⟨rfl, BB9.out.trans (hbl.mono BB9.out.size)⟩
set_option maxRecDepth 100000 in
set_option maxHeartbeats 8000000 in
theorem order_3 (a0 : Option Addr) (l0 c0 : Nat) (a1 : Option Addr) (l1 c1 : Nat) (a2 : Option Addr) (l2 c2 : Nat) (w : World) (L0 : List ByteArray) (hl0 : L0.length = l0) (z0 : l0 ≤ 9223372036854775807) (hS0 : StrsAt w a0 L0) (L1 : List ByteArray) (hl1 : L1.length = l1) (z1 : l1 ≤ 9223372036854775807) (hS1 : StrsAt w a1 L1) (L2 : List ByteArray) (hl2 : L2.length = l2) (z2 : l2 ≤ 9223372036854775807) (hS2 : StrsAt w a2 L2) (s0 : smallB L0 20 300 = true) (s1 : smallB L1 20 300 = true) (s2 : smallB L2 20 300 = true) (P Q R : List Rc) (hP : prefR L0 = P) (hQ : prefR L1 = Q) (hR : prefR L2 = R) (b1 : begR P Q = true) (b2 : begR Q P = true) (b3 : begR Q R = false) : Calls Try.prog 8 #[.slice a0 l0 c0, .slice a1 l1 c1, .slice a2 l2 c2] w fun e w' => e = .returned (.bool true) ∧ Below w.heap.size w w' := by
  have X0 : Hid (∀ w, StrsAt w a0 L0 → Calls Try.prog 12 #[.slice a0 l0 c0] w (PxP P w)) := fun w q => by rw [← hP]; exact px_any a0 l0 c0 L0 w hl0 z0 q (small_of s0)
  have X1 : Hid (∀ w, StrsAt w a1 L1 → Calls Try.prog 12 #[.slice a1 l1 c1] w (PxP Q w)) := fun w q => by rw [← hQ]; exact px_any a1 l1 c1 L1 w hl1 z1 q (small_of s1)
  have X2 : Hid (∀ w, StrsAt w a2 L2 → Calls Try.prog 12 #[.slice a2 l2 c2] w (PxP R w)) := fun w q => by rw [← hR]; exact px_any a2 l2 c2 L2 w hl2 z2 q (small_of s2)
  have HL0 := hide hl0
  have HS0 := hide hS0
  have HL1 := hide hl1
  have HS1 := hide hS1
  have HL2 := hide hl2
  have HS2 := hide hS2
  clear hl0 hS0 hl1 hS1 hl2 hS2
  clear hP hQ hR
  go_enter Try.func8, Try.ntmps8
  go_wp2_with fail
  refine (small_wide a0 l0 c0 20 300 L0 w HL0.out z0 HS0.out).mono ?_
  rintro e _ ⟨he, rfl⟩
  rw [s0] at he; subst he
  go_wp2_with fail
  refine (small_wide a1 l1 c1 20 300 L1 w HL1.out z1 HS1.out).mono ?_
  rintro e _ ⟨he, rfl⟩
  rw [s1] at he; subst he
  go_wp2_with fail
  refine (small_wide a2 l2 c2 20 300 L2 w HL2.out z2 HS2.out).mono ?_
  rintro e _ ⟨he, rfl⟩
  rw [s2] at he; subst he
  go_wp2_with fail
  clear s0 s1 s2
  refine (X0.out w HS0.out).mono ?_
  rintro e w1 ⟨p0, n0, k0, rfl, hr, hb⟩
  have B1 := hide hb
  have R00 := hide hr
  clear hr hb
  go_wp2_with fail
  refine (X1.out w1 (HS1.out.below B1.out)).mono ?_
  rintro e w2 ⟨p1, n1, k1, rfl, hr, hb⟩
  have B2 := hide (B1.out.trans (hb.mono B1.out.size))
  have R01 := hide (R00.out.below hb)
  have R11 := hide hr
  clear R00 B1
  clear hr hb
  go_wp2_with fail
  refine (X2.out w2 (HS2.out.below B2.out)).mono ?_
  rintro e w3 ⟨p2, n2, k2, rfl, hr, hb⟩
  have B3 := hide (B2.out.trans (hb.mono B2.out.size))
  have R02 := hide (R01.out.below hb)
  have R12 := hide (R11.out.below hb)
  have R22 := hide hr
  clear R01 R11 B2
  clear hr hb
  go_wp2_with fail
  obtain rfl : n0 = n1 := by have h1 := R02.out.len; have h2 := R12.out.len; have h3 := begR_anti b1 b2; omega
  refine (pb_any R02.out R02.out).mono ?_
  rintro e v3 ⟨he, hb⟩
  rw [begR_refl] at he; subst he
  have BB3 := hide (B3.out.trans (hb.mono B3.out.size))
  have T03 := hide (R02.out.below hb)
  have T13 := hide (R12.out.below hb)
  have T23 := hide (R22.out.below hb)
  clear hb R02 R12 R22
  go_wp2_with fail
  refine (pb_any (rowP_nil v3) T03.out).mono ?_
  rintro e v4 ⟨he, hb⟩
  rw [begR_nil] at he; subst he
  have BB4 := hide (BB3.out.trans (hb.mono BB3.out.size))
  have T04 := hide (T03.out.below hb)
  have T14 := hide (T13.out.below hb)
  have T24 := hide (T23.out.below hb)
  clear hb T03 T13 T23
  go_wp2_with fail
  refine (pb_any T04.out T14.out).mono ?_
  rintro e v5 ⟨he, hb⟩
  rw [b1] at he; subst he
  have BB5 := hide (BB4.out.trans (hb.mono BB4.out.size))
  have T05 := hide (T04.out.below hb)
  have T15 := hide (T14.out.below hb)
  have T25 := hide (T24.out.below hb)
  clear hb T04 T14 T24
  go_wp2_with fail
  refine (pb_any T15.out T05.out).mono ?_
  rintro e v6 ⟨he, hb⟩
  rw [b2] at he; subst he
  have BB6 := hide (BB5.out.trans (hb.mono BB5.out.size))
  have T06 := hide (T05.out.below hb)
  have T16 := hide (T15.out.below hb)
  have T26 := hide (T25.out.below hb)
  clear hb T05 T15 T25
  go_wp2_with fail
  refine (pb_any T06.out T16.out).mono ?_
  rintro e v7 ⟨he, hb⟩
  rw [b1] at he; subst he
  have BB7 := hide (BB6.out.trans (hb.mono BB6.out.size))
  have T07 := hide (T06.out.below hb)
  have T17 := hide (T16.out.below hb)
  have T27 := hide (T26.out.below hb)
  clear hb T06 T16 T26
  go_wp2_with fail
  refine (pb_any T17.out T27.out).mono ?_
  rintro e v8 ⟨he, hb⟩
  rw [b3] at he; subst he
  have BB8 := hide (BB7.out.trans (hb.mono BB7.out.size))
  have T08 := hide (T07.out.below hb)
  have T18 := hide (T17.out.below hb)
  have T28 := hide (T27.out.below hb)
  clear hb T07 T17 T27
  go_wp2_with fail
  refine (live12_any v8).mono ?_
  rintro e wl ⟨rfl, hbl⟩
  go_wp2_with fail
  try go_ret
  exact ⟨rfl, BB8.out.trans (hbl.mono BB8.out.size)⟩
set_option maxRecDepth 100000 in
set_option maxHeartbeats 8000000 in
theorem order_4 (a0 : Option Addr) (l0 c0 : Nat) (a1 : Option Addr) (l1 c1 : Nat) (a2 : Option Addr) (l2 c2 : Nat) (w : World) (L0 : List ByteArray) (hl0 : L0.length = l0) (z0 : l0 ≤ 9223372036854775807) (hS0 : StrsAt w a0 L0) (L1 : List ByteArray) (hl1 : L1.length = l1) (z1 : l1 ≤ 9223372036854775807) (hS1 : StrsAt w a1 L1) (L2 : List ByteArray) (hl2 : L2.length = l2) (z2 : l2 ≤ 9223372036854775807) (hS2 : StrsAt w a2 L2) (s0 : smallB L0 20 300 = true) (s1 : smallB L1 20 300 = true) (s2 : smallB L2 20 300 = true) (P Q R : List Rc) (hP : prefR L0 = P) (hQ : prefR L1 = Q) (hR : prefR L2 = R) (b1 : begR P Q = true) (b2 : begR Q P = true) (b3 : begR Q R = true) : Calls Try.prog 8 #[.slice a0 l0 c0, .slice a1 l1 c1, .slice a2 l2 c2] w fun e w' => e = .returned (.bool true) ∧ Below w.heap.size w w' := by
  have X0 : Hid (∀ w, StrsAt w a0 L0 → Calls Try.prog 12 #[.slice a0 l0 c0] w (PxP P w)) := fun w q => by rw [← hP]; exact px_any a0 l0 c0 L0 w hl0 z0 q (small_of s0)
  have X1 : Hid (∀ w, StrsAt w a1 L1 → Calls Try.prog 12 #[.slice a1 l1 c1] w (PxP Q w)) := fun w q => by rw [← hQ]; exact px_any a1 l1 c1 L1 w hl1 z1 q (small_of s1)
  have X2 : Hid (∀ w, StrsAt w a2 L2 → Calls Try.prog 12 #[.slice a2 l2 c2] w (PxP R w)) := fun w q => by rw [← hR]; exact px_any a2 l2 c2 L2 w hl2 z2 q (small_of s2)
  have HL0 := hide hl0
  have HS0 := hide hS0
  have HL1 := hide hl1
  have HS1 := hide hS1
  have HL2 := hide hl2
  have HS2 := hide hS2
  clear hl0 hS0 hl1 hS1 hl2 hS2
  clear hP hQ hR
  go_enter Try.func8, Try.ntmps8
  go_wp2_with fail
  refine (small_wide a0 l0 c0 20 300 L0 w HL0.out z0 HS0.out).mono ?_
  rintro e _ ⟨he, rfl⟩
  rw [s0] at he; subst he
  go_wp2_with fail
  refine (small_wide a1 l1 c1 20 300 L1 w HL1.out z1 HS1.out).mono ?_
  rintro e _ ⟨he, rfl⟩
  rw [s1] at he; subst he
  go_wp2_with fail
  refine (small_wide a2 l2 c2 20 300 L2 w HL2.out z2 HS2.out).mono ?_
  rintro e _ ⟨he, rfl⟩
  rw [s2] at he; subst he
  go_wp2_with fail
  clear s0 s1 s2
  refine (X0.out w HS0.out).mono ?_
  rintro e w1 ⟨p0, n0, k0, rfl, hr, hb⟩
  have B1 := hide hb
  have R00 := hide hr
  clear hr hb
  go_wp2_with fail
  refine (X1.out w1 (HS1.out.below B1.out)).mono ?_
  rintro e w2 ⟨p1, n1, k1, rfl, hr, hb⟩
  have B2 := hide (B1.out.trans (hb.mono B1.out.size))
  have R01 := hide (R00.out.below hb)
  have R11 := hide hr
  clear R00 B1
  clear hr hb
  go_wp2_with fail
  refine (X2.out w2 (HS2.out.below B2.out)).mono ?_
  rintro e w3 ⟨p2, n2, k2, rfl, hr, hb⟩
  have B3 := hide (B2.out.trans (hb.mono B2.out.size))
  have R02 := hide (R01.out.below hb)
  have R12 := hide (R11.out.below hb)
  have R22 := hide hr
  clear R01 R11 B2
  clear hr hb
  go_wp2_with fail
  obtain rfl : n0 = n1 := by have h1 := R02.out.len; have h2 := R12.out.len; have h3 := begR_anti b1 b2; omega
  refine (pb_any R02.out R02.out).mono ?_
  rintro e v3 ⟨he, hb⟩
  rw [begR_refl] at he; subst he
  have BB3 := hide (B3.out.trans (hb.mono B3.out.size))
  have T03 := hide (R02.out.below hb)
  have T13 := hide (R12.out.below hb)
  have T23 := hide (R22.out.below hb)
  clear hb R02 R12 R22
  go_wp2_with fail
  refine (pb_any (rowP_nil v3) T03.out).mono ?_
  rintro e v4 ⟨he, hb⟩
  rw [begR_nil] at he; subst he
  have BB4 := hide (BB3.out.trans (hb.mono BB3.out.size))
  have T04 := hide (T03.out.below hb)
  have T14 := hide (T13.out.below hb)
  have T24 := hide (T23.out.below hb)
  clear hb T03 T13 T23
  go_wp2_with fail
  refine (pb_any T04.out T14.out).mono ?_
  rintro e v5 ⟨he, hb⟩
  rw [b1] at he; subst he
  have BB5 := hide (BB4.out.trans (hb.mono BB4.out.size))
  have T05 := hide (T04.out.below hb)
  have T15 := hide (T14.out.below hb)
  have T25 := hide (T24.out.below hb)
  clear hb T04 T14 T24
  go_wp2_with fail
  refine (pb_any T15.out T05.out).mono ?_
  rintro e v6 ⟨he, hb⟩
  rw [b2] at he; subst he
  have BB6 := hide (BB5.out.trans (hb.mono BB5.out.size))
  have T06 := hide (T05.out.below hb)
  have T16 := hide (T15.out.below hb)
  have T26 := hide (T25.out.below hb)
  clear hb T05 T15 T25
  go_wp2_with fail
  refine (pb_any T06.out T16.out).mono ?_
  rintro e v7 ⟨he, hb⟩
  rw [b1] at he; subst he
  have BB7 := hide (BB6.out.trans (hb.mono BB6.out.size))
  have T07 := hide (T06.out.below hb)
  have T17 := hide (T16.out.below hb)
  have T27 := hide (T26.out.below hb)
  clear hb T06 T16 T26
  go_wp2_with fail
  refine (pb_any T17.out T27.out).mono ?_
  rintro e v8 ⟨he, hb⟩
  rw [b3] at he; subst he
  have BB8 := hide (BB7.out.trans (hb.mono BB7.out.size))
  have T08 := hide (T07.out.below hb)
  have T18 := hide (T17.out.below hb)
  have T28 := hide (T27.out.below hb)
  clear hb T07 T17 T27
  go_wp2_with fail
  refine (pb_any T08.out T28.out).mono ?_
  rintro e v9 ⟨he, hb⟩
  rw [(begR_trans b1 b3)] at he; subst he
  have BB9 := hide (BB8.out.trans (hb.mono BB8.out.size))
  have T09 := hide (T08.out.below hb)
  have T19 := hide (T18.out.below hb)
  have T29 := hide (T28.out.below hb)
  clear hb T08 T18 T28
  go_wp2_with fail
  refine (live12_any v9).mono ?_
  rintro e wl ⟨rfl, hbl⟩
  go_wp2_with fail
  try go_ret
  exact ⟨rfl, BB9.out.trans (hbl.mono BB9.out.size)⟩
theorem walkReplayOrder (a0 : Option Addr) (l0 c0 : Nat) (a1 : Option Addr) (l1 c1 : Nat) (a2 : Option Addr) (l2 c2 : Nat) (w : World) (h0 : Came 22 w a0 l0 c0) (h1 : Came 22 w a1 l1 c1) (h2 : Came 22 w a2 l2 c2) : Calls Try.prog 8 #[.slice a0 l0 c0, .slice a1 l1 c1, .slice a2 l2 c2] w fun e w' => e = .returned (.bool true) ∧ Below w.heap.size w w' := by
  obtain ⟨L0, hl0, _, z0, hS0⟩ := came_strs h0
  obtain ⟨L1, hl1, _, z1, hS1⟩ := came_strs h1
  obtain ⟨L2, hl2, _, z2, hS2⟩ := came_strs h2
  cases s0 : smallB L0 20 300
  · exact order_big a0 l0 c0 a1 l1 c1 a2 l2 c2 w L0 hl0 z0 hS0 L1 hl1 z1 hS1 L2 hl2 z2 hS2 (.inl s0)
  cases s1 : smallB L1 20 300
  · exact order_big a0 l0 c0 a1 l1 c1 a2 l2 c2 w L0 hl0 z0 hS0 L1 hl1 z1 hS1 L2 hl2 z2 hS2 (.inr (.inl ⟨s0, s1⟩))
  cases s2 : smallB L2 20 300
  · exact order_big a0 l0 c0 a1 l1 c1 a2 l2 c2 w L0 hl0 z0 hS0 L1 hl1 z1 hS1 L2 hl2 z2 hS2 (.inr (.inr ⟨s0, s1, s2⟩))
  cases b1 : begR (prefR L0) (prefR L1)
  · exact order_0 a0 l0 c0 a1 l1 c1 a2 l2 c2 w L0 hl0 z0 hS0 L1 hl1 z1 hS1 L2 hl2 z2 hS2 s0 s1 s2 _ _ _ rfl rfl rfl b1
  cases b2 : begR (prefR L1) (prefR L0) <;> cases b3 : begR (prefR L1) (prefR L2)
  · exact order_1 a0 l0 c0 a1 l1 c1 a2 l2 c2 w L0 hl0 z0 hS0 L1 hl1 z1 hS1 L2 hl2 z2 hS2 s0 s1 s2 _ _ _ rfl rfl rfl b1 b2 b3
  · exact order_2 a0 l0 c0 a1 l1 c1 a2 l2 c2 w L0 hl0 z0 hS0 L1 hl1 z1 hS1 L2 hl2 z2 hS2 s0 s1 s2 _ _ _ rfl rfl rfl b1 b2 b3
  · exact order_3 a0 l0 c0 a1 l1 c1 a2 l2 c2 w L0 hl0 z0 hS0 L1 hl1 z1 hS1 L2 hl2 z2 hS2 s0 s1 s2 _ _ _ rfl rfl rfl b1 b2 b3
  · exact order_4 a0 l0 c0 a1 l1 c1 a2 l2 c2 w L0 hl0 z0 hS0 L1 hl1 z1 hS1 L2 hl2 z2 hS2 s0 s1 s2 _ _ _ rfl rfl rfl b1 b2 b3
end Go.Proofs.Ytaiafbihcfbglaa
