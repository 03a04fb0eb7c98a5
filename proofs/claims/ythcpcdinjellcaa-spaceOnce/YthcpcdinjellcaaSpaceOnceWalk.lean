/- SpaceOnce answers true at every input. -/
import Derived.Test.YthcpcdinjellcaaCameSp
import Derived.Test.YthcpcdinjellcaaSpaceMarksWalk
namespace Go.Proofs.Ythcpcdinjellcaa
open Go.RowKit
set_option linter.unusedVariables false
/-- all of some places are taken, none twice -/
def OnI (X : List (Int × Int)) (B : Nat → Bool) : Prop := X.Nodup ∧ ∀ x ∈ X, okL x = true ∧ B (idx x) = true
theorem OnI.step {X : List (Int × Int)} {B : Nat → Bool} (h : OnI X B) {d : Int} (he : tkE B d = 0) : OnI (X ++ [(d, tkN B d)]) (mkB (tkB B d) (d, tkN B d)) ∧ (∀ x ∈ X, x ≠ (d, tkN B d)) ∧ tnB (tkB B d) (d, tkN B d) = true ∧ mkE (tkB B d) (d, tkN B d) = 13 := by
  obtain ⟨t1, t2, t3⟩ := tk_ok he
  have hnew : ∀ x ∈ X, x ≠ (d, tkN B d) := fun x hx e => by
    have := (h.2 x hx).2
    rw [e, t2] at this; cases this
  have htk : tkB B d (idx (d, tkN B d)) = true := by rw [t3, setB_at]
  refine ⟨⟨?_, fun x hx => ?_⟩, hnew, ?_, ?_⟩
  · rw [List.nodup_append]
    refine ⟨h.1, by simp, fun x hx y hy e => ?_⟩
    rw [List.mem_singleton.1 hy] at e
    exact hnew x hx e
  · rcases List.mem_append.1 hx with q | q
    · exact ⟨(h.2 x q).1, mk_keeps (tk_keeps (h.2 x q).2)⟩
    · rw [List.mem_singleton.1 q]; exact ⟨t1, mk_takes t1⟩
  · unfold tnB; rw [t1, htk]; rfl
  · unfold mkE; rw [if_pos t1, htk]; rfl
theorem gv_next {X : List (Int × Int)} {B : Nat → Bool} (h : OnI X B) {k : Nat} {x : Int × Int} (hx : X[k]? = some x) : gvE (gvs B X k) x = 0 ∧ gvE (gvB (gvs B X k) x) x = 1 ∧ tnB (gvB (gvB (gvs B X k) x) x) x = false ∧ ∀ q, gvB (gvB (gvs B X k) x) x q = gvs B X (k + 1) q := by
  obtain ⟨h1, h2⟩ := h.2 x (List.mem_of_getElem? hx)
  have hk := (List.getElem?_eq_some_iff.1 hx).1
  have hb : gvs B X k (idx x) = true := by
    unfold gvs
    rw [foldl_gv, h2]
    have : (X.take k).any (hit (idx x)) = false := by
      rw [← Bool.not_eq_true, List.any_eq_true]
      rintro ⟨y, hy, hh⟩
      unfold hit at hh
      rw [Bool.and_eq_true] at hh
      have hy1 : y ∈ X := List.mem_of_mem_take hy
      have e : y = x := idx_inj hh.1 h1 (by simpa using hh.2)
      obtain ⟨j, hj, hje⟩ := List.getElem_of_mem hy
      rw [List.length_take] at hj
      have hj' : X[j]? = some y := by rw [← hje, List.getElem_take]; exact List.getElem?_eq_getElem (by omega)
      rw [e] at hj'
      have := (List.getElem?_inj (i := j) (j := k) (by omega) h.1).1 (hj'.trans hx.symm)
      omega
    rw [this]; rfl
  have hg : gvB (gvs B X k) x (idx x) = false := by unfold gvB; rw [if_pos h1, setB_at]
  refine ⟨?_, ?_, ?_, fun q => ?_⟩
  · unfold gvE; rw [h1, hb]; rfl
  · unfold gvE; rw [h1, hg]; rfl
  · unfold tnB; rw [h1]
    unfold gvB
    rw [if_pos h1, if_pos h1, setB_at]; rfl
  · rw [gvs_succ hx, gvB_is, gvB_is]
    cases gvs B X k q <;> cases hit q x <;> rfl
/-- the law's memory -/
structure OnM (w wr : World) (v : Value) (X : List (Int × Int)) (B : Nat → Bool) : Prop where
  sp : SpB w.heap.size B w wr
  row : wr.ownsRow (w.heap.size + 1) 31 2 v X.length (lcV X)
theorem OnM.step {w wr w' : World} {v : Value} {X : List (Int × Int)} {B C : Nat → Bool} (h : OnM w wr v X B) (hs : SpB w.heap.size C w w') (hu : Bu w.heap.size wr w') : OnM w w' v X C := ⟨hs, own_bu h.row hu (by omega)⟩
theorem OnM.keep {w wr w' : World} {v : Value} {X : List (Int × Int)} {B : Nat → Bool} (h : OnM w wr v X B) (hb : Below wr.heap.size wr w') : OnM w w' v X B := ⟨h.sp.keep hb, own_below h.row hb⟩
theorem OnM.push {w wr w1 : World} {v v' : Value} {X : List (Int × Int)} {B : Nat → Bool} {x : Int × Int} {o : Obj} (h : OnM w wr v X B) (hown : w1.ownsRow (w.heap.size + 1) 31 2 v' (X.length + 1) (lcV X ++ [.int .i64 x.1, .int .i64 x.2])) (hgr : (wr.alloc o).grownBy w1 v.ownBlock) : OnM w w1 v' (X ++ [x]) B := by
  have hlt := h.sp.1.lt
  have hne : ∀ k, k ≤ w.heap.size → some k ≠ v.ownBlock := fun k hk e => by have := row_base h.row e.symm; omega
  have hblk : ∀ k, k ≤ w.heap.size → w1.heap[k]? = wr.heap[k]? := fun k hk => (hgr.block k (by rw [World.size_alloc]; omega) (hne k hk)).trans (Below.heap_alloc _ _ _ (by omega))
  have hsz : wr.heap.size ≤ w1.heap.size := by have := hgr.size; rw [World.size_alloc] at this; omega
  refine ⟨⟨(hblk _ (Nat.le_refl _)).trans h.sp.1, ?_, Nat.le_refl _⟩, by rw [lcV_snoc, List.length_append]; exact hown⟩
  exact ⟨hgr.os.trans h.sp.2.1.os, hgr.tape.trans h.sp.2.1.tape, hgr.output.trans h.sp.2.1.output, Nat.le_trans h.sp.2.1.size hsz, fun k hk => (hblk k (by omega)).trans (h.sp.2.1.block k hk)⟩
theorem OnM.locs {w wr : World} {a : Option Addr} {n c : Nat} {X : List (Int × Int)} {B : Nat → Bool} (h : OnM w wr (.slice a n c) X B) (hn : X.length = n) : LocsB w.heap.size wr a X := by
  subst hn
  exact (own_locsB h.row rfl (by omega)).1
set_option maxRecDepth 100000 in
set_option maxHeartbeats 8000000 in
theorem once_is (a : Option Addr) (n c : Nat) (l : List OpR) (w : World) (hl : l.length = n) (h63 : n ≤ 9223372036854775807) (hL : OpsAt w a l) : Calls Try.prog 4 #[.slice a n c] w fun e w' => e = .returned (.bool true) ∧ Below w.heap.size w w' := by
  have HL := hide hl
  have HLC := hide hL
  clear hl hL
  by_cases h60 : 60 < n
  · have hd : decide ((60 : Int) < (n : Int)) = true := by simp; omega
    go_enter Try.func4, Try.ntmps4
    go_wp2_with fail
    refine (live_any _).mono ?_
    rintro e w1 ⟨rfl, hb⟩
    have HB1 := hide hb
    clear hb
    go_wp2_with fail
    try go_ret
    exact ⟨rfl, HB1.out⟩
  have hd : decide ((60 : Int) < (n : Int)) = false := by simp; omega
  obtain ⟨i0, hi0, hz0, hz1, hz2⟩ := info_parts loc_info
  have HI := hide hi0
  have HZ0 := hide hz0
  have HZ1 := hide hz1
  have HZ2 := hide hz2
  clear hi0 hz0 hz1 hz2
  go_enter Try.func4, Try.ntmps4
  go_wp2_with fail
  refine (newS w).mono ?_
  rintro e w1 ⟨rfl, h1⟩
  have H1 := hide h1
  clear h1
  go_wp2_with fail
  go_loopw [4, 5] (fun v y wr => ∃ (i : Nat) (X : List (Int × Int)) (B : Nat → Bool), i ≤ n ∧ y = .int .i64 i ∧ X.length ≤ i ∧ OnM w wr v X B ∧ OnI X B) (fun _ y _ => n - (intOf y).toNat)
  case atStart => exact ⟨0, [], _, by omega, rfl, by simp, ⟨H1.out, World.ownsRow_nil _ _ _ _⟩, by simp, fun x hx => by simp at hx⟩
  case round =>
    obtain ⟨i, X, B, hi, rfl, hXl, hom, hon⟩ := hrel
    have HOM := hide hom
    have HON := hide hon
    obtain ⟨av, cv, rfl, hcv, hcm⟩ := own_form hom.row
    clear hom hon H1
    by_cases hlt : i < n
    · have hdi : decide ((i : Int) < (n : Int)) = true := by simp; omega
      have hii : (i : Int) < (n : Int) := by omega
      obtain ⟨op, hop⟩ : ∃ x, l[i]? = some x := ⟨_, List.getElem?_eq_getElem (by have := HL.out; omega)⟩
      rcases HLC.out with q | ⟨bl, o, rfl, hbl, hc⟩
      · rw [q] at hop; simp at hop
      have k1 := (HOM.out.sp.2.1.cell (p := ⟨bl, o + i * 4 + 1, none⟩) hbl).trans (hc i op hop).1.c1
      clear hc hop
      generalize op.x = d at *
      by_cases hE : tkE B d = 0
      · have HTT := hide (takeS HOM.out.sp d _ 0 rfl hE)
        obtain ⟨g1, g2, g3, g4⟩ := HON.out.step hE
        have HG1 := hide g1
        have HG2 := hide g2
        have HG3 := hide g3
        have HG4 := hide g4
        clear g1 g2 g3 g4 hE
        generalize tkN B d = N at *
        generalize tkB B d = C at *
        go_wp2_with fail
        refine HTT.out.mono ?_
        rintro e w2 ⟨rfl, h2, hu2⟩
        have H2 := hide (HOM.out.step h2 hu2)
        clear h2 hu2 HTT
        have hal : Below w2.heap.size w2 (w2.alloc (.cells #[.int .i64 d, .int .i64 N] 31)) := (Below.refl _ _).alloc (Nat.le_refl _) _
        have H3 := hide (H2.out.keep hal)
        have HBX : Hid ((w2.alloc (.cells #[.int .i64 d, .int .i64 N] 31)).heap[w2.heap.size]? = some (.cells #[.int .i64 d, .int .i64 N] 31 (0, 0))) := heap_alloc_new _ _
        have hbne : w2.heap.size ≠ w.heap.size := by have := H2.out.sp.1.lt; omega
        clear hal
        go_wp2_with fail
        go_loopw [10] (fun y wq => ∃ k : Nat, k ≤ X.length ∧ y = .int .i64 k ∧ Below (w2.alloc (.cells #[.int .i64 d, .int .i64 N] 31)).heap.size (w2.alloc (.cells #[.int .i64 d, .int .i64 N] 31)) wq) (fun y _ => X.length - (intOf y).toNat)
        case atStart => exact ⟨0, by omega, rfl, Below.refl _ _⟩
        case round =>
          obtain ⟨k, hk, rfl, hbq⟩ := hrel
          have HBQ := hide hbq
          clear hbq
          by_cases hkl : k < X.length
          · have hdk : decide ((k : Int) < (X.length : Int)) = true := by simp; omega
            have hki : (k : Int) < (X.length : Int) := by omega
            have hk0 : (0 : Int) ≤ (k : Int) := by omega
            obtain ⟨⟨x, y⟩, hx⟩ : ∃ x, X[k]? = some x := ⟨_, List.getElem?_eq_getElem hkl⟩
            obtain ⟨b1, o1, rfl, hb1, e0, e1⟩ := ((H3.out.keep HBQ.out).locs rfl).1.nth hx
            simp only at e0 e1
            have hbk := (HBQ.out.block w2.heap.size (lt_of_block HBX.out)).trans HBX.out
            have m0 : wr.cell? ⟨w2.heap.size, 0, none⟩ = some (.int .i64 d) := cell_of_block hbk
            have m1 : wr.cell? ⟨w2.heap.size, 1, none⟩ = some (.int .i64 N) := cell_of_block hbk
            have hne := HG2.out (x, y) (List.mem_of_getElem? hx)
            have hne2 : ¬ (x = d ∧ y = N) := fun q => hne (by rw [q.1, q.2])
            clear hx hbk hne
            by_cases ex : x = d
            · have q1 : (x == d) = true := by simpa using ex
              have q2 : (y == N) = false := by simpa using fun e2 => hne2 ⟨ex, e2⟩
              clear ex hne2
              go_wp2_with fail
              go_quiet (fail)
              go_wp2_with fail
              all_goals exact ⟨⟨k + 1, by omega, by go_num, drawn_below HBQ.out _⟩, by simp [intOf]; omega⟩
            · have q1 : (x == d) = false := by simpa using ex
              clear ex hne2
              go_wp2_with fail
              go_quiet (fail)
              go_wp2_with fail
              all_goals exact ⟨⟨k + 1, by omega, by go_num, drawn_below HBQ.out _⟩, by simp [intOf]; omega⟩
          · have hdk : decide ((k : Int) < (X.length : Int)) = false := by simp; omega
            have H4 := hide (H3.out.keep HBQ.out)
            have HB4 : Hid (wr.heap[w2.heap.size]? = some (.cells #[.int .i64 d, .int .i64 N] 31 (0, 0))) := (HBQ.out.block w2.heap.size (lt_of_block HBX.out)).trans HBX.out
            have m0 : wr.cell? ⟨w2.heap.size, 0, none⟩ = some (.int .i64 d) := cell_of_block HB4.out
            have m1 : wr.cell? ⟨w2.heap.size, 1, none⟩ = some (.int .i64 N) := cell_of_block HB4.out
            clear HBQ H3 HBX
            go_wp2_with fail
            refine (takenS H4.out.sp d N true HG3.out).mono ?_
            rintro e w5 ⟨rfl, h5, hb5⟩
            have H5 := hide (H4.out.keep hb5)
            have HB5 : Hid (w5.heap[w2.heap.size]? = some (.cells #[.int .i64 d, .int .i64 N] 31 (0, 0))) := (hb5.block w2.heap.size (lt_of_block HB4.out)).trans HB4.out
            have m0 : w5.cell? ⟨w2.heap.size, 0, none⟩ = some (.int .i64 d) := cell_of_block HB5.out
            have m1 : w5.cell? ⟨w2.heap.size, 1, none⟩ = some (.int .i64 N) := cell_of_block HB5.out
            clear h5 hb5 H4 HB4
            go_wp2_with fail
            refine (markS H5.out.sp d N 13 HG4.out).mono ?_
            rintro e w6 ⟨rfl, h6, hu6⟩
            have H6 := hide (H5.out.step h6 hu6)
            have HB6 : Hid (w6.heap[w2.heap.size]? = some (.cells #[.int .i64 d, .int .i64 N] 31 (0, 0))) := (hu6.blk w2.heap.size (lt_of_block HB5.out) hbne).trans HB5.out
            have m0 : w6.cell? ⟨w2.heap.size, 0, none⟩ = some (.int .i64 d) := cell_of_block HB6.out
            have m1 : w6.cell? ⟨w2.heap.size, 1, none⟩ = some (.int .i64 N) := cell_of_block HB6.out
            have hsz6 : w.heap.size + 1 ≤ w6.heap.size := H6.out.sp.1.lt
            clear h6 hu6 H5 HB5
            go_wp2_with (first | (at_builtin; refine wpList_append_own _ rfl (.tmp 64) (.tmp 66) 27 rfl (w.heap.size + 1) 31 i0 (.agg #[.int .i64 0, .int .i64 0]) 2 16 Try.underlying27 HI.out HZ0.out HZ1.out HZ2.out rfl (by decide) _ _ _ rfl (H6.out.row.alloc _) ⟨w6.heap.size, 0, none⟩ 1 1 [.int .i64 d, .int .i64 N] rfl rfl (cell_two_new _ _ _ _) (by simp [Value.oneCell']) (by unfold maxLen; omega) (by omega) (by rw [World.size_alloc]; omega) ?_; intro v' w7 hown hgr hnil; clear hnil; have H7 := hide (H6.out.push (x := (d, N)) hown hgr); clear hown hgr))
            all_goals first | exact ⟨⟨i + 1, _, _, by omega, by go_num, by rw [List.length_append]; simp; omega, H7.out, HG1.out⟩, by simp [intOf]; omega⟩ | (go_roundw; (case rel => exact ⟨i + 1, _, _, by omega, by go_num, by rw [List.length_append]; simp; omega, H7.out, HG1.out⟩); (case measure => simp [intOf]; omega))
      · have hq1 : (tkE B d == 0) = false := by simpa using hE
        have hq2 : (tkE B d != 0) = true := by simpa using hE
        have HTT := hide (takeS HOM.out.sp d _ _ rfl (rfl : tkE B d = tkE B d))
        rw [tk_bad hE] at HTT
        clear hE
        generalize tkN B d = N at *
        generalize tkE B d = E at *
        go_wp2_with fail
        refine HTT.out.mono ?_
        rintro e w2 ⟨rfl, h2, hu2⟩
        have H2 := hide (HOM.out.step h2 hu2)
        clear h2 hu2 HTT
        go_wp2_with fail
        all_goals first | exact ⟨⟨i + 1, X, B, by omega, by go_num, by omega, H2.out, HON.out⟩, by simp [intOf]; omega⟩ | (go_roundw; (case rel => exact ⟨i + 1, X, B, by omega, by go_num, by omega, H2.out, HON.out⟩); (case measure => simp [intOf]; omega))
    · have hdi : decide ((i : Int) < (n : Int)) = false := by simp; omega
      have hX60 : X.length ≤ 60 := by omega
      go_wp2_with fail
      go_loopw [11] (fun y wq => ∃ k : Nat, k ≤ X.length ∧ y = .int .i64 k ∧ OnM w wq (.slice av X.length cv) X (gvs B X k)) (fun y _ => X.length - (intOf y).toNat)
      case atStart => exact ⟨0, by omega, rfl, HOM.out⟩
      case round =>
        obtain ⟨k, hk, rfl, hom⟩ := hrel
        have H2 := hide hom
        clear hom
        by_cases hkl : k < X.length
        · have hdk : decide ((k : Int) < (X.length : Int)) = true := by simp; omega
          have hki : (k : Int) < (X.length : Int) := by omega
          obtain ⟨⟨x, y⟩, hx⟩ : ∃ x, X[k]? = some x := ⟨_, List.getElem?_eq_getElem hkl⟩
          obtain ⟨b1, o1, rfl, hb1, e0, e1⟩ := (H2.out.locs rfl).1.nth hx
          have hbn := (H2.out.locs rfl).2 _ rfl
          simp only at e0 e1 hbn
          obtain ⟨v1, v2, v3, v4⟩ := gv_next HON.out hx
          have HE0 := hide e0
          have HE1 := hide e1
          have HV4 := hide v4
          have HG1 := hide (giveS H2.out.sp x y 0 v1)
          have HV2 := hide v2
          have HV3 := hide v3
          clear v1 v2 v3 v4 hx
          go_wp2_with fail
          refine HG1.out.mono ?_
          rintro e w3 ⟨rfl, h3, hu3⟩
          have H3 := hide (H2.out.step h3 hu3)
          have e0 := (hu3.cell (p := ⟨b1, o1 + k * 2, none⟩) hb1 hbn).trans HE0.out
          have e1 := (hu3.cell (p := ⟨b1, o1 + k * 2 + 1, none⟩) hb1 hbn).trans HE1.out
          have hb3 : b1 < w3.heap.size := Nat.lt_of_lt_of_le hb1 hu3.size
          have HE03 := hide e0
          have HE13 := hide e1
          clear h3 hu3 HG1 HE0 HE1
          go_wp2_with fail
          refine (giveS H3.out.sp x y 1 HV2.out).mono ?_
          rintro e w4 ⟨rfl, h4, hu4⟩
          have H4 := hide (H3.out.step h4 hu4)
          have e0 := (hu4.cell (p := ⟨b1, o1 + k * 2, none⟩) hb3 hbn).trans HE03.out
          have e1 := (hu4.cell (p := ⟨b1, o1 + k * 2 + 1, none⟩) hb3 hbn).trans HE13.out
          clear h4 hu4 HE03 HE13
          go_wp2_with fail
          refine (takenS H4.out.sp x y false HV3.out).mono ?_
          rintro e w5 ⟨rfl, h5, hb5⟩
          have H5 := hide (H4.out.keep hb5)
          have H6 : Hid (OnM w w5 (.slice (some ⟨b1, o1, none⟩) X.length cv) X (gvs B X (k + 1))) := ⟨⟨H5.out.sp.1.congr fun q _ => HV4.out q, H5.out.sp.2⟩, H5.out.row⟩
          clear h5 hb5
          go_wp2_with fail
          all_goals first | exact ⟨⟨k + 1, by omega, by go_num, H6.out⟩, by simp [intOf]; omega⟩ | (go_roundw; (case rel => exact ⟨k + 1, by omega, by go_num, H6.out⟩); (case measure => simp [intOf]; omega))
        · have hdk : decide ((k : Int) < (X.length : Int)) = false := by simp; omega
          go_wp2_with fail
          refine (live_any _).mono ?_
          rintro e w3 ⟨rfl, hb3⟩
          have H3 := hide (H2.out.sp.keep hb3)
          clear hb3
          go_wp2_with fail
          try go_ret
          exact ⟨rfl, H3.out.2.1⟩
theorem walkSpaceOnce (a : Option Addr) (n c : Nat) (w : World) (h : Came 22 w a n c) : Calls Try.prog 4 #[.slice a n c] w fun e w' => e = .returned (.bool true) ∧ Below w.heap.size w w' := by
  obtain ⟨l, h1, h2, h3⟩ := came_ops h
  exact once_is a n c l w h1 h2 h3
end Go.Proofs.Ythcpcdinjellcaa
