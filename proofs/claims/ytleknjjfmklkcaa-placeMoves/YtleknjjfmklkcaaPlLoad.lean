/- What place.Load answers, and the document's. -/
import Derived.Test.YtleknjjfmklkcaaPlVol
namespace Go.Proofs.Ytleknjjfmklkcaa
open Go.RowKit
set_option linter.unusedVariables false
set_option maxRecDepth 100000 in
set_option maxHeartbeats 4000000 in
theorem load_any (a : Option Addr) (n c : Nat) (l : List Vol) (w : World) (hl : l.length = n) (hn : n ≤ 9223372036854775807) (hS : VolsAt w a l) (hN : allN (l.map Vol.ls) ≤ 4611686018427387904) :
    Calls Try.prog 17 #[.slice a n c] w (Loaded (l.map Vol.ls) w) := by
  have HL := hide hl
  have HS := hide hS
  have hmk := make_ints 12 (by omega) w
  rw [show ((12 : Nat) : Int) = 12 from rfl] at hmk
  clear hl hS
  go_enter Try.func17, Try.ntmps17
  go_wp2_with fail
  clear hmk
  have HW0 : Hid (Below w.heap.size w (w.alloc (.cells (fnC 12 fun _ => .int .i64 0) 3)) ∧ CntAt (w.alloc (.cells (fnC 12 fun _ => .int .i64 0) 3)) w.heap.size (fun _ => 0)) := ⟨(Below.refl _ _).alloc (Nat.le_refl _) _, heap_alloc_new _ _⟩
  go_loopw [11] (fun y wr => ∃ i : Nat, i ≤ n ∧ y = .int .i64 i ∧ CntAt wr w.heap.size (fun d => ldV ((l.map Vol.ls).take i) d) ∧ Below w.heap.size w wr) (fun y _ => n - (intOf y).toNat)
  case atStart => exact ⟨0, by omega, rfl, HW0.out.2.congr fun d hd => by simp [ldV], HW0.out.1⟩
  case round =>
    obtain ⟨i, hi, rfl, hcnt, hbl⟩ := hrel
    have HC := hide hcnt
    have HB := hide hbl
    clear hcnt hbl HW0
    by_cases hlt : i < n
    · have hdi : decide ((i : Int) < (n : Int)) = true := by simp; omega
      have hii : (i : Int) < (n : Int) := by omega
      obtain ⟨x, hx⟩ : ∃ x, l[i]? = some x := ⟨_, List.getElem?_eq_getElem (by have := HL.out; omega)⟩
      rcases HS.out with q | ⟨b, o, rfl, hbs, hc⟩
      · rw [q] at hx; simp at hx
      obtain ⟨hv, his⟩ := hc i x hx
      have hv' := hv.below HB.out hbs
      have c0 := hv'.c0
      have c1 := hv'.c1
      have c2 := hv'.c2
      have c3 := hv'.c3
      have HVS : Hid ((l.map Vol.ls)[i]? = some x.ls) := by unfold Hid; rw [List.getElem?_map, hx]; rfl
      have HIS := hide his
      have n63 := his.n63
      clear hv hv' his hc hx
      obtain ⟨xid, xgen, xlen, xa, xn, xc, xls⟩ := x
      simp only at c0 c1 c2 c3 HVS n63
      have HC2 : Hid (CntAt (wr.alloc (.cells #[.int .i64 xid, .int .i64 xgen, .int .i64 xlen, .slice xa xn xc] 36)) w.heap.size (fun d => ldP (l.map Vol.ls) xls i 0 d)) := CntAt.congr (FnAt.alloc HC.out _) fun d _ => (ldP_zero _ _ _ _).symm
      have HB2 : Hid (Below w.heap.size w (wr.alloc (.cells #[.int .i64 xid, .int .i64 xgen, .int .i64 xlen, .slice xa xn xc] 36))) := HB.out.alloc HB.out.size _
      go_wp2_with fail
      go_loopw [18] (fun y wr => ∃ j : Nat, j ≤ xn ∧ y = .int .i64 j ∧ CntAt wr w.heap.size (fun d => ldP (l.map Vol.ls) xls i j d) ∧ Below w.heap.size w wr) (fun y _ => xn - (intOf y).toNat)
      case atStart => exact ⟨0, by omega, rfl, HC2.out, HB2.out⟩
      case round =>
        obtain ⟨j, hj, rfl, hcnt, hbl⟩ := hrel
        have HC3 := hide hcnt
        have HB3 := hide hbl
        clear hcnt hbl HC2 HB2
        by_cases hjl : j < xn
        · have hdj : decide ((j : Int) < (xn : Int)) = true := by simp; omega
          have hjj : (j : Int) < (xn : Int) := by omega
          obtain ⟨⟨d, sl⟩, hy⟩ : ∃ y, xls[j]? = some y := ⟨_, List.getElem?_eq_getElem (by have := HIS.out.len; simp only at this; omega)⟩
          have hloc := HIS.out.locs
          simp only at hloc
          rcases hloc with q | ⟨bl, ol, rfl, hbb, hcl⟩
          · rw [q] at hy; simp at hy
          obtain ⟨k0, k1⟩ := hcl j _ hy
          simp only at k0 k1
          have k0' := (HB3.out.cell (p := ⟨bl, ol + j * 2, none⟩) hbb).trans k0
          have k1' := (HB3.out.cell (p := ⟨bl, ol + j * 2 + 1, none⟩) hbb).trans k1
          have HY := hide hy
          have HLE := hide (fun d => ldP_le (i := i) HVS.out j d)
          clear k0 k1 hcl hy
          by_cases hd : dskB d = true
          · obtain ⟨hd0, hd12⟩ := dskB_iff.1 hd
            obtain ⟨p, rfl⟩ := Int.eq_ofNat_of_zero_le hd0
            have hp : p < 12 := by omega
            have HCA : Hid (CntAt (wr.alloc (.cells #[.int .i64 (p : Int), .int .i64 sl] 45)) w.heap.size (fun d => ldP (l.map Vol.ls) xls i j d)) := FnAt.alloc HC3.out _
            have HBA : Hid (Below w.heap.size w (wr.alloc (.cells #[.int .i64 (p : Int), .int .i64 sl] 45))) := HB3.out.alloc HB3.out.size _
            have HINC := hide (HCA.out.inc p)
            have kc := HCA.out.cell hp
            have kf : (wr.alloc (.cells #[.int .i64 (p : Int), .int .i64 sl] 45)).frozen? ⟨w.heap.size, p, none⟩ = false := FnAt.free HCA.out p
            have hle := HLE.out p
            have HEQ : Hid (∀ d : Nat, d < 12 → ldP (l.map Vol.ls) xls i j d + (if d = p then 1 else 0) = ldP (l.map Vol.ls) xls i (j + 1) d) := fun d _ => by
              rw [ldP_succ HY.out d]
              simp only
              by_cases e : d = p
              · rw [if_pos e, if_pos (by omega)]
              · rw [if_neg e, if_neg (by omega)]
            generalize hF : ldP (l.map Vol.ls) xls i j p = F at *
            clear hF
            have hwr : IntKind.i64.wrap ((F : Int) + 1) = ((F + 1 : Nat) : Int) := by
              have : ((F : Int) + 1) = ((F + 1 : Nat) : Int) := by omega
              rw [this]
              simp only [IntKind.wrap, IntKind.signed, IntKind.bits]
              simp
              omega
            have hpi : (p : Int) < 12 := by omega
            have hp0 : (0 : Int) ≤ (p : Int) := by omega
            have hlo : ¬ wr.heap.size = w.heap.size := by have := HC3.out.lt; omega
            go_wp2_with (first | (go_at_call 27; refine (isDisk_any _ _).mono ?_; rintro e w' ⟨rfl, rfl⟩; rw [hd]))
            go_roundw
            case rel => exact ⟨j + 1, by omega, by go_num, HINC.out.congr HEQ.out, HBA.out.setCell (p := ⟨w.heap.size, p, none⟩) (Nat.le_refl _) _⟩
            case measure => simp [intOf]; omega
          · have hd' : dskB d = false := by simpa using hd
            have HND : Hid (∀ q : Nat, q < 12 → ¬ d = (q : Int)) := fun q hq e => hd (dskB_iff.2 (by omega))
            clear hd
            go_wp2_with (first | (go_at_call 27; refine (isDisk_any _ _).mono ?_; rintro e w' ⟨rfl, rfl⟩; rw [hd']))
            go_roundw
            case rel => exact ⟨j + 1, by omega, by go_num, CntAt.congr (FnAt.alloc HC3.out _) fun q hq => by rw [ldP_succ HY.out q, if_neg (HND.out q hq)]; rfl, HB3.out.alloc HB3.out.size _⟩
            case measure => simp [intOf]; omega
        · have hdj : decide ((j : Int) < (xn : Int)) = false := by simp; omega
          have HE : Hid (∀ d : Nat, ldP (l.map Vol.ls) xls i j d = ldV ((l.map Vol.ls).take (i + 1)) d) := fun d => by
            have : j = xls.length := by have := HIS.out.len; simp only at this; omega
            rw [this]; exact ldP_end HVS.out d
          go_wp2_with fail
          go_roundw
          case rel => exact ⟨i + 1, by omega, by go_num, HC3.out.congr fun d _ => HE.out d, HB3.out⟩
          case measure => simp [intOf]; omega
    · have hdi : decide ((i : Int) < (n : Int)) = false := by simp; omega
      go_wp2_with fail
      try go_ret
      refine ⟨w.heap.size, rfl, Nat.le_refl _, HC.out.congr fun d _ => ?_, HB.out⟩
      rw [List.take_of_length_le (by rw [List.length_map, HL.out]; omega)]
end Go.Proofs.Ytleknjjfmklkcaa
