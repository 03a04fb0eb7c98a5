/- The law PackReads returns true at every input, and writes nothing that was there. -/
import Derived.Test.YtjjdfmgmomndlaaPkLive
import Derived.Test.YtjjdfmgmomndlaaPkRefReader
import Derived.Test.YtjjdfmgmomndlaaCame
namespace Go.Proofs.Ytjjdfmgmomndlaa
open Go.RowKit
/-- both readers tell the same -/
def TwoRd (w : World) (b c : Nat) : Prop := ∃ s s' e, RdAt w b 47 s e ∧ RdAt w c 32 s' e ∧ (e = 0 → s' = s) ∧ s.size ≤ 1000
theorem two_same {w : World} {b c : Nat} {s : ByteArray} {e : Nat} (h : RdAt w b 47 s e) (k : RdAt w c 32 s e) (hz : s.size ≤ 1000) : TwoRd w b c := ⟨s, s, e, h, k, fun _ => rfl, hz⟩
theorem two_err {w : World} {b c : Nat} {s s' : ByteArray} {e : Nat} (h : RdAt w b 47 s e) (k : RdAt w c 32 s' e) (he : e ≠ 0) (hz : s.size ≤ 1000) : TwoRd w b c := ⟨s, s', e, h, k, fun x => absurd x he, hz⟩
theorem empty_le : ByteArray.empty.size ≤ 1000 := by decide
set_option maxRecDepth 100000 in
set_option maxHeartbeats 8000000 in
theorem walkPackReads (s0 : ByteArray) (a : Option Addr) (l cap : Nat) (w : World) (w0 : s0.data.toList.length ≤ reachBytes) (w1 : Came 26 w a l cap) :
    Calls Try.prog 4 #[.string s0, .slice a l cap] w fun e w' => e = .returned (.bool true) ∧ Below w.heap.size w w' := by
  have hs : s0.size ≤ reachBytes := by simpa using w0
  have hr : reachBytes < 2 ^ 47 := by decide
  obtain ⟨ls, hl, hlc, hl63, hA⟩ := came_nums w1
  clear w0 w1
  by_cases hbig : 1000 < s0.size
  · clear hl hA
    go_enter Try.func4, Try.ntmps4
    go_wp2_with fail
    refine (live_any _).mono ?_
    rintro e w1 ⟨rfl, hb⟩
    go_wp2_with fail
    go_ret
    exact ⟨rfl, hb⟩
  by_cases hbig2 : 20 < l
  · clear hl hA
    go_enter Try.func4, Try.ntmps4
    go_wp2_with fail
    refine (live_any _).mono ?_
    rintro e w1 ⟨rfl, hb⟩
    go_wp2_with fail
    go_ret
    exact ⟨rfl, hb⟩
  have HL := hide hl
  have HA := hide hA
  have hs1 : s0.size ≤ 1000 := by omega
  clear hl hA hs hr
  go_enter Try.func4, Try.ntmps4
  go_wp2_with fail
  refine (read_any s0 w).mono ?_
  rintro e w1 ⟨b, rfl, hb, hz1, hR1, hB1⟩
  have HR1 := hide hR1
  have HB1 := hide hB1
  have HBW : Hid (w.heap.size ≤ b) := by rw [hb]; exact Nat.le_refl _
  have HZ1 := hide hz1
  clear hR1 hB1 hb hz1
  go_wp2_with fail
  have hTW : TwoRd (w1.alloc (Obj.cells #[.string s0, .int .i64 0] 32)) b w1.heap.size := two_same (HR1.out.below ((Below.refl _ _).alloc (Nat.le_refl _) _) HR1.out.lt) (heap_alloc_new _ _) hs1
  have hBL : Below w.heap.size w (w1.alloc (Obj.cells #[.string s0, .int .i64 0] 32)) := HB1.out.alloc HB1.out.size _
  have HCW : Hid (w.heap.size ≤ w1.heap.size) := HB1.out.size
  have HNE : Hid (b ≠ w1.heap.size) := by have := HZ1.out; show b ≠ w1.heap.size; omega
  generalize w1.alloc (Obj.cells #[.string s0, .int .i64 0] 32) = W at *
  generalize w1.heap.size = c at *
  have HTW := hide hTW
  have HBL := hide hBL
  clear hTW hBL HR1 HB1 HZ1
  go_loopw [7] (fun y wr => ∃ k : Nat, k ≤ l ∧ y = .int .i64 k ∧ TwoRd wr b c ∧ Below w.heap.size w wr) (fun y _ => l - (intOf y).toNat)
  case atStart => exact ⟨0, by omega, rfl, HTW.out, HBL.out⟩
  case round =>
    obtain ⟨k, hk, rfl, ⟨s, s', e, hR, hQ, hse, hz⟩, hbl⟩ := hrel
    clear HTW HBL
    have HR := hide hR
    have HQ := hide hQ
    have HSE := hide hse
    have HL' := hide hbl
    clear hR hQ hse hbl
    by_cases hlt : k < l
    · obtain ⟨x, hx⟩ : ∃ x, ls[k]? = some x := ⟨_, List.getElem?_eq_getElem (by have := HL.out; omega)⟩
      rcases HA.out with h | ⟨bs, o, rfl, hbs, hcs⟩
      · rw [h] at hx; simp at hx
      have hck := hcs k x hx
      rw [← HL'.out.cell (p := ⟨bs, o + k, none⟩) hbs] at hck
      have hd : decide ((k : Int) < (l : Int)) = true := by simp; omega
      have hdi : (k : Int) < (l : Int) := by omega
      clear hx hcs hbs
      by_cases h0 : x = 0
      · subst h0
        by_cases he : e = 0
        · subst he
          obtain rfl : s' = s := HSE.out rfl
          go_wp2_with fail
          refine (rnum_ok b s' wr HR.out (by omega)).mono ?_
          rintro e1 wa ⟨rfl, hRa, hBa⟩
          have HRa := hide hRa
          have HQa := hide (HQ.out.but hBa HNE.out.symm)
          have HBa := hide (HL'.out.trans (hBa.below HBW.out))
          clear hRa hBa hck
          go_wp2_with fail
          refine (qnum_ok c s' wa HQa.out (by omega)).mono ?_
          rintro e1 wb ⟨rfl, hQb, hBb⟩
          have HQb := hide hQb
          have HRb := hide (HRa.out.but hBb HNE.out)
          have HBb := hide (HBa.out.trans (hBb.below HCW.out))
          clear hQb hBb
          go_wp2_with fail
          exact ⟨⟨k + 1, by omega, by go_num, two_same HRb.out HQb.out (Nat.le_trans (rR_size _) hz), HBb.out⟩, by simp [intOf]; omega⟩
        · have he2 : e ≠ 0 := he
          clear he
          have HE := hide he2
          clear he2
          go_wp2_with fail
          refine (rnum_err b s e wr HR.out HE.out).mono ?_
          rintro e1 wa ⟨rfl, rfl⟩
          go_wp2_with fail
          refine (qnum_err c s' e wr HQ.out HE.out).mono ?_
          rintro e1 wb ⟨rfl, rfl⟩
          go_wp2_with fail
          exact ⟨⟨k + 1, by omega, by go_num, two_err HR.out HQ.out HE.out hz, HL'.out⟩, by simp [intOf]; omega⟩
      by_cases h1 : x = 1
      · subst h1
        by_cases he : e = 0
        · subst he
          obtain rfl : s' = s := HSE.out rfl
          go_wp2_with fail
          refine (rtext_ok b s' wr HR.out (by omega)).mono ?_
          rintro e1 wa ⟨rfl, hRa, hBa⟩
          have HRa := hide hRa
          have HQa := hide (HQ.out.but hBa HNE.out.symm)
          have HBa := hide (HL'.out.trans (hBa.below HBW.out))
          clear hRa hBa hck
          go_wp2_with fail
          refine (qtext_ok c s' wa HQa.out (by omega)).mono ?_
          rintro e1 wb ⟨rfl, hQb, hBb⟩
          have HQb := hide hQb
          have HRb := hide (HRa.out.but hBb HNE.out)
          have HBb := hide (HBa.out.trans (hBb.below HCW.out))
          clear hQb hBb
          go_wp2_with fail
          exact ⟨⟨k + 1, by omega, by go_num, two_same HRb.out HQb.out (Nat.le_trans (tR_size _) hz), HBb.out⟩, by simp [intOf]; omega⟩
        · have he2 : e ≠ 0 := he
          clear he
          have HE := hide he2
          clear he2
          go_wp2_with fail
          refine (rtext_err b s e wr HR.out HE.out).mono ?_
          rintro e1 wa ⟨rfl, rfl⟩
          go_wp2_with fail
          refine (qtext_err c s' e wr HQ.out HE.out).mono ?_
          rintro e1 wb ⟨rfl, hQb, hBb⟩
          have HQb := hide hQb
          have HRb := hide (HR.out.but hBb HNE.out)
          have HBb := hide (HL'.out.trans (hBb.below HCW.out))
          clear hQb hBb
          go_wp2_with fail
          exact ⟨⟨k + 1, by omega, by go_num, two_err HRb.out HQb.out HE.out hz, HBb.out⟩, by simp [intOf]; omega⟩
      by_cases h2 : x = 2
      · subst h2
        by_cases he : e = 0
        · subst he
          obtain rfl : s' = s := HSE.out rfl
          go_wp2_with fail
          refine (rrest_ok b s' wr HR.out).mono ?_
          rintro e1 wa ⟨rfl, hRa, hBa⟩
          have HRa := hide hRa
          have HQa := hide (HQ.out.but hBa HNE.out.symm)
          have HBa := hide (HL'.out.trans (hBa.below HBW.out))
          clear hRa hBa hck
          go_wp2_with fail
          refine (qrest_ok c s' wa HQa.out).mono ?_
          rintro e1 wb ⟨rfl, hQb, hBb⟩
          have HQb := hide hQb
          have HRb := hide (HRa.out.but hBb HNE.out)
          have HBb := hide (HBa.out.trans (hBb.below HCW.out))
          clear hQb hBb
          go_wp2_with fail
          exact ⟨⟨k + 1, by omega, by go_num, two_same HRb.out HQb.out empty_le, HBb.out⟩, by simp [intOf]; omega⟩
        · have he2 : e ≠ 0 := he
          clear he
          have HE := hide he2
          clear he2
          go_wp2_with fail
          refine (rrest_err b s e wr HR.out HE.out).mono ?_
          rintro e1 wa ⟨rfl, rfl⟩
          go_wp2_with fail
          refine (qrest_err c s' e wr HQ.out HE.out).mono ?_
          rintro e1 wb ⟨rfl, hQb, hBb⟩
          have HQb := hide hQb
          have HRb := hide (HR.out.but hBb HNE.out)
          have HBb := hide (HL'.out.trans (hBb.below HCW.out))
          clear hQb hBb
          go_wp2_with fail
          exact ⟨⟨k + 1, by omega, by go_num, two_err HRb.out HQb.out HE.out hz, HBb.out⟩, by simp [intOf]; omega⟩
      have h0' : (x == 0) = false := by simp; omega
      have h1' : (x == 1) = false := by simp; omega
      have h2' : (x == 2) = false := by simp; omega
      clear h0 h1 h2
      by_cases he : e = 0
      · subst he
        obtain rfl : s' = s := HSE.out rfl
        by_cases hem : s'.size = 0
        · obtain rfl := size_zero hem
          clear hem
          go_wp2_with fail
          refine (rend_done b wr HR.out).mono ?_
          rintro e1 wa ⟨rfl, rfl⟩
          go_wp2_with fail
          refine (qend_done c wr HQ.out).mono ?_
          rintro e1 wb ⟨rfl, rfl⟩
          go_wp2_with fail
          exact ⟨⟨k + 1, by omega, by go_num, two_same HR.out HQ.out empty_le, HL'.out⟩, by simp [intOf]; omega⟩
        · have HEM : Hid (s'.size ≠ 0) := hem
          clear hem
          go_wp2_with fail
          refine (rend_left b s' wr HR.out HEM.out).mono ?_
          rintro e1 wa ⟨rfl, hRa, hBa⟩
          have HRa := hide hRa
          have HQa := hide (HQ.out.but hBa HNE.out.symm)
          have HBa := hide (HL'.out.trans (hBa.below HBW.out))
          clear hRa hBa hck
          go_wp2_with fail
          refine (qend_left c s' wa HQa.out HEM.out).mono ?_
          rintro e1 wb ⟨rfl, hQb, hBb⟩
          have HQb := hide hQb
          have HRb := hide (HRa.out.but hBb HNE.out)
          have HBb := hide (HBa.out.trans (hBb.below HCW.out))
          clear hQb hBb
          go_wp2_with fail
          exact ⟨⟨k + 1, by omega, by go_num, two_err HRb.out HQb.out (by decide) empty_le, HBb.out⟩, by simp [intOf]; omega⟩
      · have HE : Hid (e ≠ 0) := he
        have hqe : ((e : Int) == (e : Int)) = true := by simp
        clear he
        go_wp2_with fail
        refine (rend_err b s e wr HR.out HE.out).mono ?_
        rintro e1 wa ⟨rfl, rfl⟩
        go_wp2_with fail
        refine (qend_err c s' e wr HQ.out HE.out).mono ?_
        rintro e1 wb ⟨rfl, rfl⟩
        go_wp2_with fail
        exact ⟨⟨k + 1, by omega, by go_num, two_err HR.out HQ.out HE.out hz, HL'.out⟩, by simp [intOf]; omega⟩
    · have hd : decide ((k : Int) < (l : Int)) = false := by simp; omega
      have hck : True := trivial
      by_cases he : e = 0
      · subst he
        obtain rfl : s' = s := HSE.out rfl
        by_cases hem : s'.size = 0
        · obtain rfl := size_zero hem
          clear hem
          go_wp2_with fail
          refine (rend_done b wr HR.out).mono ?_
          rintro e1 wa ⟨rfl, rfl⟩
          go_wp2_with fail
          refine (qend_done c wr HQ.out).mono ?_
          rintro e1 wb ⟨rfl, rfl⟩
          go_wp2_with fail
          refine (live_any _).mono ?_
          rintro e1 wz ⟨rfl, hbz⟩
          have HBz := hide (HL'.out.trans (hbz.mono HL'.out.size))
          clear hbz
          go_wp2_with fail
          go_ret
          exact ⟨rfl, HBz.out⟩
        · have HEM : Hid (s'.size ≠ 0) := hem
          clear hem
          go_wp2_with fail
          refine (rend_left b s' wr HR.out HEM.out).mono ?_
          rintro e1 wa ⟨rfl, hRa, hBa⟩
          have HRa := hide hRa
          have HQa := hide (HQ.out.but hBa HNE.out.symm)
          have HBa := hide (HL'.out.trans (hBa.below HBW.out))
          clear hRa hBa hck
          go_wp2_with fail
          refine (qend_left c s' wa HQa.out HEM.out).mono ?_
          rintro e1 wb ⟨rfl, hQb, hBb⟩
          have HQb := hide hQb
          have HRb := hide (HRa.out.but hBb HNE.out)
          have HBb := hide (HBa.out.trans (hBb.below HCW.out))
          clear hQb hBb
          go_wp2_with fail
          refine (live_any _).mono ?_
          rintro e1 wz ⟨rfl, hbz⟩
          have HBz := hide (HBb.out.trans (hbz.mono HBb.out.size))
          clear hbz
          go_wp2_with fail
          go_ret
          exact ⟨rfl, HBz.out⟩
      · have HE : Hid (e ≠ 0) := he
        have hqe : ((e : Int) == (e : Int)) = true := by simp
        clear he
        go_wp2_with fail
        refine (rend_err b s e wr HR.out HE.out).mono ?_
        rintro e1 wa ⟨rfl, rfl⟩
        go_wp2_with fail
        refine (qend_err c s' e wr HQ.out HE.out).mono ?_
        rintro e1 wb ⟨rfl, rfl⟩
        go_wp2_with fail
        refine (live_any _).mono ?_
        rintro e1 wz ⟨rfl, hbz⟩
        have HBz := hide (HL'.out.trans (hbz.mono HL'.out.size))
        clear hbz
        go_wp2_with fail
        go_ret
        exact ⟨rfl, HBz.out⟩
end Go.Proofs.Ytjjdfmgmomndlaa
