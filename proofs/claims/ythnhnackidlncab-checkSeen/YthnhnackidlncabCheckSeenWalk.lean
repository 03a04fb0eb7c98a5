/- The law CheckSeen returns true at every input, and writes nothing that was there. -/
import Derived.Test.YthnhnackidlncabCheckEndsWalk
import Derived.Laws.IdiomStrings
namespace Go.Proofs.Ythnhnackidlncab
open Go.RowKit
/-- bytes that lie from a block's first cell on, and may be written -/
def BsAt (w : World) (b L : Nat) (f : Nat → Nat) : Prop := b < w.heap.size ∧ ∀ p, p < L → w.cell? ⟨b, p, none⟩ = some (.int .u8 (f p : Nat)) ∧ w.frozen? ⟨b, p, none⟩ = false
theorem BsAt.congr {w : World} {b L : Nat} {f g : Nat → Nat} (h : BsAt w b L f) (e : ∀ p, p < L → f p = g p) : BsAt w b L g := ⟨h.1, fun p hp => by rw [← e p hp]; exact h.2 p hp⟩
theorem bs_new (w : World) (s : ByteArray) (cap : Nat) (t : TypeId) : BsAt (w.drew.alloc (.cells (bytesRow s cap) t ((bytesRow s cap).size, (bytesRow s cap).size + 1))) w.heap.size s.size (bt s) := by
  refine ⟨by show _ < (w.drew.alloc _).heap.size; rw [World.size_alloc]; exact Nat.lt_succ_self _, fun p hp => ⟨?_, ?_⟩⟩
  · have h := World.cell?_alloc_mark w.drew (bytesRow s cap) t ((bytesRow s cap).size, (bytesRow s cap).size + 1) p
    rw [show w.drew.heap.size = w.heap.size from rfl] at h
    rw [h, bytesRow_at s cap p hp, ← bt_eq hp]
    rfl
  · have h := World.frozen?_alloc_mark w.drew (bytesRow s cap) t (bytesRow s cap).size ((bytesRow s cap).size + 1) p
    rw [show w.drew.heap.size = w.heap.size from rfl] at h
    rw [h]
    have : s.size ≤ (bytesRow s cap).size := by unfold bytesRow; simp
    simp; omega
/-- bytes of which the first j of four were turned -/
def trn (f : Nat → Nat) (k v j p : Nat) : Nat := if k ≤ p ∧ p < k + j then f p ^^^ Cr.by4 v (p - k) else f p
theorem trn_zero (f : Nat → Nat) (k v p : Nat) : trn f k v 0 p = f p := by unfold trn; rw [if_neg (by omega)]
theorem trn_at (f : Nat → Nat) (k v j : Nat) : trn f k v j (k + j) = f (k + j) := by unfold trn; rw [if_neg (by omega)]
theorem trn_step (f : Nat → Nat) (k v j p : Nat) : (if p = k + j then f (k + j) ^^^ Cr.by4 v j else trn f k v j p) = trn f k v (j + 1) p := by
  unfold trn
  by_cases e : p = k + j
  · subst e; rw [if_pos rfl, if_pos (by omega), Nat.add_sub_cancel_left]
  · rw [if_neg e]
    by_cases c : k ≤ p ∧ p < k + j
    · rw [if_pos c, if_pos (by omega)]
    · rw [if_neg c, if_neg (by omega)]
theorem BsAt.set {w : World} {b L : Nat} {f : Nat → Nat} (h : BsAt w b L f) (q x : Nat) (hq : q < L) : BsAt (w.setCell ⟨b, q, none⟩ (.int .u8 (x : Nat))) b L (fun p => if p = q then x else f p) := by
  refine ⟨by simpa [World.setCell] using h.1, fun p hp => ⟨?_, ?_⟩⟩
  · by_cases e : p = q
    · subst e; simp only [if_pos]; exact World.cell?_setCell_same _ _ _ (h.2 p hp).1
    · simp only [if_neg e]
      rw [World.cell?_setCell_other _ _ _ _ (by simp <;> omega)]
      exact (h.2 p hp).1
  · rw [World.frozen?_setCell]; exact (h.2 p hp).2
theorem BsAt.string {w : World} {b L cap : Nat} {f : Nat → Nat} (h : BsAt w b L f) : (convert 31 9 (.slice (some ⟨b, 0, none⟩) L cap)).run Try.prog w = .ok (.string (mkS L f)) w := by
  refine run_convert_bytes_arg w 31 5 Try.underlying31 Try.underlying5 b 0 L cap _ (by simp) (fun i hi => ?_) 9 Try.underlying9
  rw [Nat.zero_add, (h.2 i hi).1]
  simp [hi]
theorem trn_lt {f : Nat → Nat} (k v j p : Nat) (hf : ∀ p, f p < 256) : trn f k v j p < 256 := by
  unfold trn; split
  · exact Nat.xor_lt_two_pow (n := 8) (hf _) (Cr.by4_lt _ _)
  · exact hf p
theorem turn_u8 {c v j : Nat} (hc : c < 256) (_ : j < 4) : bits .xor .u8 (c : Int) ((v : Int) / 2 ^ (8 * j) % 256) = ((c ^^^ Cr.by4 v j : Nat) : Int) := by
  have e : (v : Int) / 2 ^ (8 * j) % 256 = ((Cr.by4 v j : Nat) : Int) := by
    unfold Cr.by4
    rw [show (256 : Nat) ^ j = 2 ^ (8 * j) by rw [Nat.pow_mul]]
    simp
  rw [e, u8_xor_nat _ _ hc (Cr.by4_lt _ _)]
set_option maxRecDepth 100000 in
set_option maxHeartbeats 2000000 in
theorem walkCheckSeen (s : ByteArray) (n y : Int) (w : World) (w0 : s.data.toList.length ≤ reachBytes) (w1 : (Lit.int .i64 n).wf = true) (w2 : (Lit.int .u32 y).wf = true) :
    Calls Try.prog 5 #[.string s, .int .i64 n, .int .u32 y] w fun e w' => e = .returned (.bool true) ∧ Below w.heap.size w w' := by
  have hs : s.size ≤ reachBytes := by simpa using w0
  have hr : reachBytes < 2 ^ 47 := by decide
  have hy := wf_u32 w2
  clear w0 w2
  obtain ⟨v, rfl⟩ : ∃ a : Nat, y = (a : Int) := ⟨y.toNat, by omega⟩
  have hv : v < 2 ^ 32 := by omega
  clear hy
  by_cases hbig : (decide ((500 : Int) < s.size) || ((v : Int) == 0)) = true
  · clear w1
    go_enter Try.func5, Try.ntmps5
    go_wp2_with fail
    all_goals
      refine (live_any _).mono ?_
      rintro e w1 ⟨rfl, hb⟩
      go_wp2_with fail
      go_ret
      exact ⟨rfl, hb⟩
  have h1 : s.size ≤ 500 := by simp at hbig; omega
  have hv0 : v ≠ 0 := by simp at hbig; omega
  have hv0' : ((v : Int) == 0) = false := by simp; omega
  clear hbig
  have hz := sealS_size s
  by_cases hin : 0 ≤ n ∧ n ≤ (s.size : Int)
  · obtain ⟨k, rfl⟩ : ∃ k : Nat, n = (k : Int) := ⟨n.toNat, by omega⟩
    have hk : k ≤ s.size := by omega
    clear w1 hin
    go_enter Try.func5, Try.ntmps5
    go_wp2_with fail
    refine (seal_any s w (by omega)).mono ?_
    rintro e w1 ⟨rfl, hb1⟩
    have HB1 := hide hb1
    clear hb1
    have hcv := run_bytes_of_string (P := Try.prog) w1 9 31 5 (sealS s) Try.underlying9 Try.underlying31 Try.underlying5
    generalize grownCap w1 (sealS s).size 0 5 = cap at hcv
    go_wp2_with fail
    clear hcv
    have hst : BsAt ((w1.alloc (.cells (bytesRow (sealS s) cap) 5 ((bytesRow (sealS s) cap).size, (bytesRow (sealS s) cap).size + 1))).drew) w1.heap.size (s.size + 4) (trn (bt (sealS s)) k v 0) := by
      rw [← hz]; exact (bs_new w1 (sealS s) cap 5).congr fun p _ => (trn_zero _ _ _ _).symm
    have hbl : Below w.heap.size w ((w1.alloc (.cells (bytesRow (sealS s) cap) 5 ((bytesRow (sealS s) cap).size, (bytesRow (sealS s) cap).size + 1))).drew) := (HB1.out.alloc HB1.out.size _).drew
    have hbs := HB1.out.size
    generalize (w1.alloc (.cells (bytesRow (sealS s) cap) 5 ((bytesRow (sealS s) cap).size, (bytesRow (sealS s) cap).size + 1))).drew = W at *
    have HST := hide hst
    have HBL := hide hbl
    clear hst hbl HB1
    go_loopw [9] (fun y wr => ∃ j : Nat, j ≤ 4 ∧ y = .int .i64 j ∧ BsAt wr w1.heap.size (s.size + 4) (trn (bt (sealS s)) k v j) ∧ Below w.heap.size w wr) (fun y _ => 4 - (intOf y).toNat)
    case atStart => exact ⟨0, by omega, rfl, HST.out, HBL.out⟩
    case round =>
      obtain ⟨j, hj, rfl, hB, hbl⟩ := hrel
      have HB := hide hB
      have HL := hide hbl
      clear hbl
      by_cases hlt : j < 4
      · have hd : decide ((j : Int) < 4) = true := by simp; omega
        obtain ⟨hc, hf⟩ := hB.2 (k + j) (by omega)
        rw [trn_at] at hc
        clear hB
        go_wp2_with fail
        refine ⟨⟨j + 1, by omega, by go_num, ?_, HL.out.setCell hbs _⟩, by simp [intOf]; omega⟩
        rw [turn_u8 (bt_lt _ _) hlt]
        exact (HB.out.set _ _ (by omega)).congr fun p _ => trn_step _ _ _ _ _
      · clear hB
        obtain rfl : j = 4 := by omega
        have hcv := HB.out.string (cap := cap)
        have hzT : (mkS (s.size + 4) (trn (bt (sealS s)) k v 4)).size = s.size + 4 := mkS_size _ _
        have hbad : opE (mkS (s.size + 4) (trn (bt (sealS s)) k v 4)) = 5 := by
          have hlow : ∀ p, p < s.size + 4 → bt (mkS (s.size + 4) (trn (bt (sealS s)) k v 4)) p = trn (bt (sealS s)) k v 4 p := fun p hp => mkS_bt hp (trn_lt _ _ _ _ (bt_lt _))
          have := turned_not (s := s) (t := mkS (s.size + 4) (trn (bt (sealS s)) k v 4)) (i := k) (v := v) hzT hv hv0 (by omega) (fun q hq => by
            rw [hlow _ (by omega)]; unfold trn; rw [if_pos (by omega), Nat.add_sub_cancel_left]) (fun p hp => by
            by_cases h : p < s.size + 4
            · rw [hlow _ h]; unfold trn; rw [if_neg (by omega)]
            · rw [bt_out (by omega), bt_out (by omega)])
          unfold opE
          rw [if_neg (by omega), if_neg this]
        have HBad := hide hbad
        clear hbad
        generalize mkS (s.size + 4) (trn (bt (sealS s)) k v 4) = T at *
        go_wp2_with fail
        refine (open_any T wr (by omega)).mono ?_
        rw [HBad.out]
        rintro e w4 ⟨rfl, hb4⟩
        have HB4 := hide (HL.out.trans (hb4.mono HL.out.size))
        clear hb4 HL hcv
        go_wp2_with fail
        refine (live_any _).mono ?_
        rintro e w5 ⟨rfl, hb5⟩
        have HB5 := hide (HB4.out.trans (hb5.mono HB4.out.size))
        clear hb5 HB4
        go_wp2_with fail
        go_ret
        exact ⟨rfl, HB5.out⟩
  · clear w1
    rcases (show n < 0 ∨ (0 ≤ n ∧ (s.size : Int) < n) by omega) with hn | hn
    all_goals
     clear hin
     go_enter Try.func5, Try.ntmps5
     go_wp2_with fail
     refine (seal_any s w (by omega)).mono ?_
     rintro e w1 ⟨rfl, hb1⟩
     have HB1 := hide hb1
     clear hb1
     go_wp2_with fail
     all_goals
       refine (live_any _).mono ?_
       rintro e w4 ⟨rfl, hb4⟩
       have HB4 := hide (HB1.out.trans (hb4.mono HB1.out.size))
       clear hb4 HB1
       go_wp2_with fail
       go_ret
       exact ⟨rfl, HB4.out⟩
end Go.Proofs.Ythnhnackidlncab
