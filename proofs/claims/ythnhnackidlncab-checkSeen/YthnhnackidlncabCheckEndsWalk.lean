/- The law CheckEnds returns true at every input, and writes nothing that was there. -/
import Derived.Test.YthnhnackidlncabCrLive
import Derived.OpenShut
namespace Go.Proofs.Ythnhnackidlncab
open Go.RowKit
theorem endS_size (s : ByteArray) (f : Nat → Nat) : (s ++ mkS 4 f).size = s.size + 4 := by rw [ByteArray.size_append, mkS_size]
theorem wf_u32 {x : Int} (h : (Lit.int .u32 x).wf = true) : 0 ≤ x ∧ x < 4294967296 := by
  simp [Lit.wf, IntKind.min, IntKind.max, IntKind.signed, IntKind.bits] at h
  omega
set_option maxRecDepth 100000 in
set_option maxHeartbeats 2000000 in
theorem walkCheckEnds (s : ByteArray) (x y : Int) (w : World) (w0 : s.data.toList.length ≤ reachBytes) (w1 : (Lit.int .u32 x).wf = true) (w2 : (Lit.int .u32 y).wf = true) :
    Calls Try.prog 7 #[.string s, .int .u32 x, .int .u32 y] w fun e w' => e = .returned (.bool true) ∧ Below w.heap.size w w' := by
  have hs : s.size ≤ reachBytes := by simpa using w0
  have hr : reachBytes < 2 ^ 47 := by decide
  have hx := wf_u32 w1
  have hy := wf_u32 w2
  clear w0 w1 w2
  obtain ⟨a, rfl⟩ : ∃ a : Nat, x = (a : Int) := ⟨x.toNat, by omega⟩
  obtain ⟨b, rfl⟩ : ∃ a : Nat, y = (a : Int) := ⟨y.toNat, by omega⟩
  have ha : a < 2 ^ 32 := by omega
  have hb : b < 2 ^ 32 := by omega
  clear hx hy
  by_cases hbig : 1000 < s.size
  · go_enter Try.func7, Try.ntmps7
    go_wp2_with fail
    refine (live_any _).mono ?_
    rintro e w1 ⟨rfl, hb⟩
    go_wp2_with fail
    go_ret
    exact ⟨rfl, hb⟩
  have hz4 : (mkS 4 (Cr.by4 a)).size = 4 := mkS_size _ _
  have hz4' : (mkS 4 (Cr.by4 b)).size = 4 := mkS_size _ _
  have hza := endS_size s (Cr.by4 a)
  have hzb := endS_size s (Cr.by4 b)
  have hE : Hid (Cr.sum (bt (s ++ mkS 4 (Cr.by4 a))) (s ++ mkS 4 (Cr.by4 a)).size = Cr.sum (bt (s ++ mkS 4 (Cr.by4 b))) (s ++ mkS 4 (Cr.by4 b)).size ↔ a = b) := by
    unfold Hid; rw [hza, hzb]; exact ends_sum ha hb
  have hcv := four_string a ha w
  have hcv2 := four_string b hb (w.alloc (.cells #[.int .u8 ((a : Int) % 256), .int .u8 ((a : Int) / 256 % 256), .int .u8 ((a : Int) / 65536 % 256), .int .u8 ((a : Int) / 16777216)] 5))
  rw [World.size_alloc] at hcv2
  go_enter Try.func7, Try.ntmps7
  go_wp2_with fail
  refine (of_any _ _ (by omega)).mono ?_
  rintro e w1 ⟨rfl, hb1⟩
  have HB1 := hide ((((Below.refl _ _).alloc (Nat.le_refl _) _).alloc (by simp) _).trans (hb1.mono (by simp; omega)))
  clear hb1 hcv hcv2
  generalize Cr.sum (bt (s ++ mkS 4 (Cr.by4 a))) (s ++ mkS 4 (Cr.by4 a)).size = X at *
  go_wp2_with fail
  refine (of_any _ _ (by omega)).mono ?_
  rintro e w2 ⟨rfl, hb2⟩
  have HB2 := hide (HB1.out.trans (hb2.mono HB1.out.size))
  clear hb2 HB1
  generalize Cr.sum (bt (s ++ mkS 4 (Cr.by4 b))) (s ++ mkS 4 (Cr.by4 b)).size = Y at *
  have heq : (((X : Int) == (Y : Int)) == ((a : Int) == (b : Int))) = true := by
    by_cases h : a = b
    · have := hE.out.2 h; subst h; subst this; simp
    · have : X ≠ Y := fun h' => h (hE.out.1 h')
      have h1 : ((X : Int) == (Y : Int)) = false := by simp; omega
      have h2 : ((a : Int) == (b : Int)) = false := by simp; omega
      rw [h1, h2]; rfl
  go_wp2_with fail
  refine (live_any _).mono ?_
  rintro e w3 ⟨rfl, hb3⟩
  have HB3 := hide (HB2.out.trans (hb3.mono HB2.out.size))
  clear hb3 HB2
  go_wp2_with fail
  go_ret
  exact ⟨rfl, HB3.out⟩
end Go.Proofs.Ythnhnackidlncab
