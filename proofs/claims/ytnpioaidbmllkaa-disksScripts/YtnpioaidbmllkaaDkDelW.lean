/- What slices.DeleteFunc answers of writes: the walk. -/
import Derived.Test.YtnpioaidbmllkaaDkDel
namespace Go.Proofs.Ytnpioaidbmllkaa
open Go.RowKit
set_option linter.unusedVariables false
def without (n : Nat) (ws : List (Nat × ByteArray)) : List (Nat × ByteArray) := ws.filter fun x => x.1 != n
theorem without_all {n : Nat} {ws : List (Nat × ByteArray)} (h : ∀ x ∈ ws, x.1 ≠ n) : without n ws = ws := by
  unfold without
  rw [List.filter_eq_self]
  intro x hx
  simpa using h x hx
theorem del_start {w wr : World} {v : Value} {L n k : Nat} {ws : List (Nat × ByteArray)} {x : Nat × ByteArray} (hr : w.ownsRow 0 72 2 v L (wtV ws)) (hb : Below w.heap.size w wr) (hx : ws[k]? = some x) (he : x.1 = n) (hn : ∀ y ∈ ws.take k, y.1 ≠ n) : DelMid w wr v L n k (k + 1) ws ws := by
  have hL := row_len hr
  have hk : k < ws.length := (List.getElem?_eq_some_iff.1 hx).1
  refine ⟨row_keep hr fun g hg => hb.block g (row_lt hr hg), Nat.le_succ _, by omega, ?_, rfl, grown_below _ hb⟩
  rw [List.take_add_one, hx, List.filter_append]
  have := without_all hn
  unfold without at this
  rw [this]
  simp [he]
theorem cell_grown {w wr : World} {r : Option Nat} (h : w.grownBy wr r) {nb : Nat} (hnb : nb < w.heap.size) (hne : some nb ≠ r) {v : Value} (hc : w.cell? ⟨nb, 0, none⟩ = some v) : wr.cell? ⟨nb, 0, none⟩ = some v :=
  (World.cell?_of_block (w := w) (a := ⟨nb, 0, none⟩) (h.block nb hnb hne)).trans hc
theorem del_end {w wr : World} {g c L n i j : Nat} {ws M : List (Nat × ByteArray)} (h : DelMid w wr (.slice (some ⟨g, 0, none⟩) L c) L n i j ws M) (hL : ws.length = L) (hj : ¬ j < L) (vs : List Value) : (wr.setCells g (i * 2) vs).ownsRow 0 72 2 (.slice (some ⟨g, 0, none⟩) i c) (without n ws).length (wtV (without n ws)) ∧ w.grownBy (wr.setCells g (i * 2) vs) (some g) := by
  have h1 := row_cut h.row (Nat.le_trans h.ij h.jL) vs
  have hd : M.take i = ws.filter fun x => x.1 != n := by have h0 := h.done; rw [show ws.take j = ws from List.take_of_length_le (by omega)] at h0; exact h0
  have hML : M.length = L := row_len h.row
  have hi := h.ij
  have hjL := h.jL
  have hw : without n ws = M.take i := hd.symm
  have hl : (without n ws).length = i := by rw [hw, List.length_take]; omega
  rw [hl, hw]
  exact ⟨h1, grown_trans h.grown (grown_sets _)⟩
set_option maxRecDepth 100000 in
set_option maxHeartbeats 2000000 in
theorem delete_any (v : Value) (L n nb : Nat) (ws : List (Nat × ByteArray)) (w : World) (hr : w.ownsRow 0 72 2 v L (wtV ws)) (hc : w.cell? ⟨nb, 0, none⟩ = some (.int .i64 (n : Int))) (hnb : nb < w.heap.size) (hne : some nb ≠ v.ownBlock) :
    Calls Try.prog 52 #[v, .func (.func 53) #[] #[.pointer (some ⟨nb, 0, none⟩)]] w fun e w' => ∃ v', e = .returned v' ∧ w'.ownsRow 0 72 2 v' (without n ws).length (wtV (without n ws)) ∧ w.grownBy w' v.ownBlock ∧ v'.ownBlock = v.ownBlock := by
  have HR := hide hr
  have HL := hide (row_len hr)
  have hL63 := row_max hr
  have HC := hide hc
  have HNE := hide hne
  have HIX := hide (index_any v L n nb ws w hr hc hnb)
  obtain ⟨a, c, rfl⟩ := row_form hr
  clear hr hc hne
  go_enter Try.func52, Try.ntmps52
  go_wp2_with fail
  refine HIX.out.mono ?_
  rintro e w1 ⟨r, rfl, hI, hb1⟩
  rcases hI with ⟨rfl, hno⟩ | ⟨k, rfl, ⟨x0, hx0, he0⟩, hno⟩
  · have HB1 := hide hb1
    have HNO := hide (without_all hno)
    clear hb1 hno
    go_wp2_with fail
    try go_ret
    refine ⟨_, rfl, ?_, grown_below _ HB1.out, rfl⟩
    rw [HNO.out, HL.out]
    exact row_keep HR.out fun g hg => HB1.out.block g (row_lt HR.out hg)
  · obtain ⟨g, cc, hv, hlc, hcm, hgl, -, -⟩ := row_at HR.out hx0
    cases hv
    have HM := hide (del_start HR.out hb1 hx0 he0 hno)
    have hk : k < L := by have := (List.getElem?_eq_some_iff.1 hx0).1; have := HL.out; omega
    have hq : ((k : Int) == -1) = false := by rw [beq_eq_false_iff_ne]; omega
    have HLC := hide hlc
    clear hb1 hx0 he0 hno hlc
    go_wp2_with fail
    go_loopw [5, 6] (fun y z wr => ∃ i j : Nat, ∃ M, y = .int .i64 i ∧ z = .int .i64 j ∧ DelMid w wr (.slice (some ⟨g, 0, none⟩) L c) L n i j ws M) (fun _ z _ => L - (intOf z).toNat)
    case atStart => exact ⟨k, k + 1, ws, rfl, by go_num, HM.out⟩
    case round =>
      obtain ⟨i, j, M, rfl, rfl, hM⟩ := hrel
      have HD := hide hM
      have hij := hM.ij
      have hjL := hM.jL
      have hgr := hM.grown.size
      clear hM HM
      by_cases hlt : j < L
      · obtain ⟨x, hx⟩ : ∃ x, ws[j]? = some x := ⟨_, List.getElem?_eq_getElem (by have := HL.out; omega)⟩
        obtain ⟨xi, hxi⟩ : ∃ x, M[i]? = some x := ⟨_, List.getElem?_eq_getElem (by have := row_len HD.out.row; omega)⟩
        obtain ⟨g', cc, hv, hlc, hcm, hgl, hr1, hr2⟩ := row_at HD.out.row (HD.out.at.trans hx)
        cases hv
        have HX := hide hx
        obtain ⟨xn, xs⟩ := x
        have hcn := cell_grown HD.out.grown hnb HNE.out HC.out
        have HCN := hide (Lib.cell?_alloc_some (.cells #[.int .i64 (xn : Int), .string xs] 72) hcn)
        have hd1 : decide ((j : Int) < (L : Int)) = true := by simp; omega
        have hdi : (j : Int) < (L : Int) := by omega
        have hni : (0 : Int) ≤ (j : Int) := by omega
        clear hx hcn hlc
        go_wp2_with fail
        refine (spoil1_any xn n nb xs _ HCN.out).mono ?_
        rintro e w2 ⟨rfl, hb2⟩
        have hbb : Below wr.heap.size wr w2 := ((Below.refl _ _).alloc (Nat.le_refl _) _).trans (hb2.mono (by rw [World.size_alloc]; omega))
        have hbx : w2.heap[wr.heap.size]? = some (.cells #[.int .i64 (xn : Int), .string xs] 72 (0, 0)) := (hb2.block _ (by rw [World.size_alloc]; omega)).trans (heap_alloc_new _ _)
        have HBB := hide hbb
        by_cases he : xn = n
        · have hq2 : (xn == n) = true := by simpa using he
          have HS := hide (HD.out.skip HX.out HL.out he hbb)
          rw [hq2]
          clear he hb2 hbb hbx hr1 hr2
          go_wp2_with fail
          exact ⟨⟨i, j + 1, M, rfl, by go_num, HS.out⟩, by simp [intOf]; omega⟩
        · have hq2 : (xn == n) = false := by simpa using he
          have HS := hide (HD.out.take HX.out HL.out he hbb)
          rw [hq2]
          obtain ⟨g', cc, hv, hlc, hcm, hgl, hr3, hr4⟩ := row_at (row_keep HD.out.row fun g hg => hbb.block g (row_lt HD.out.row hg)) hxi
          cases hv
          have hf : ∀ p, w2.frozen? ⟨g, p, none⟩ = false := by
            intro p
            obtain ⟨_, ⟨h1, _⟩ | ⟨g', cap, cur, hv, hb, hg, _⟩⟩ := row_keep HD.out.row fun g hg => hbb.block g (row_lt HD.out.row hg)
            · cases h1
            · cases hv; exact free_of_block hg
          have cx1 : w2.cell? ⟨wr.heap.size, 0, none⟩ = some (.int .i64 (xn : Int)) := cell_of_block hbx
          have cx2 : w2.cell? ⟨wr.heap.size, 1, none⟩ = some (.string xs) := cell_of_block hbx
          have hii : (i : Int) < (L : Int) := by omega
          have hf1 := hf (i * 2)
          have hf2 := hf (i * 2 + 1)
          clear he hb2 hbb hbx hr1 hr2 hf hlc
          go_wp2_with fail
          exact ⟨⟨i + 1, j + 1, _, by go_num, by go_num, HS.out⟩, by simp [intOf]; omega⟩
      · have hd1 : decide ((j : Int) < (L : Int)) = false := by simp; omega
        have hiL : i ≤ L := by omega
        have hii : (i : Int) ≤ (L : Int) := by omega
        have hLc : L ≤ c := HLC.out
        have hLci : (L : Int) ≤ (c : Int) := by omega
        have hic : (i : Int) ≤ (c : Int) := by omega
        by_cases hcc : i < c
        · obtain ⟨vs, hvs⟩ := clear_any HD.out.row hiL 0 (c - i)
          have HE := hide (del_end HD.out HL.out hlt vs)
          have hcn : ¬ c - i = 0 := by omega
          go_wp2_with fail
          all_goals try go_ret
          all_goals first | exact ⟨_, rfl, HE.out.1, HE.out.2, rfl⟩ | (exfalso; omega)
        · have hvs : (Builtin.clear_ #[48] 0 #[.slice (some ⟨g, 0, none⟩) (L - i) 0]).run Try.prog wr = .ok (.tuple #[]) wr := by
            rw [show L - i = 0 by omega]; simp [Builtin.clear_, run_underlying Try.underlying48]
          have HE := hide (del_end HD.out HL.out hlt [])
          have hcn : c - i = 0 := by omega
          go_wp2_with fail
          all_goals try go_ret
          all_goals first | exact ⟨_, rfl, HE.out.1, HE.out.2, rfl⟩ | (exfalso; omega)
end Go.Proofs.Ytnpioaidbmllkaa
