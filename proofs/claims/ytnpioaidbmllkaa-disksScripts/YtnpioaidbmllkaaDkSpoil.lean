/- What spoil and Spoil answer. -/
import Derived.Test.YtnpioaidbmllkaaDkDelW
namespace Go.Proofs.Ytnpioaidbmllkaa
open Go.RowKit
set_option linter.unusedVariables false
/-- what waits is exchanged, in its own row -/
theorem Bk.setWait {w w2 : World} {b : Nat} {D : Nat → Dk} (h : Bk w b D) {d : Nat} (hd : d < 12) {v' : Value} {l : List (Nat × ByteArray)} (hown : w2.ownsRow 0 72 2 v' l.length (wtV l)) (hgr : w.grownBy w2 (D d).wv.ownBlock) (hat : v'.ownBlock = (D d).wv.ownBlock) (hl : ∀ y ∈ l, y.1 < 112) :
    Bk (w2.setCell ⟨b, d * 114 + 113, none⟩ v') b (upd D d ⟨(D d).lost, (D d).sec, v', l⟩) ∧ Step b D w (upd D d ⟨(D d).lost, (D d).sec, v', l⟩) (w2.setCell ⟨b, d * 114 + 113, none⟩ v') := by
  have hb := h.mem.lt
  have hbb : w2.heap[b]? = w.heap[b]? := hgr.block b hb fun e => h.off d hd e.symm
  have hm2 : FnAt w2 b 53 1368 (bkV D) := by unfold FnAt; rw [hbb]; exact h.mem
  have hnb : v'.ownBlock ≠ some b := by rw [hat]; exact h.off d hd
  exact h.change hd _ ((hm2.set _ _).congr fun q _ => wait_cells _ _ q) (row_keep hown fun g hg => Below.heap_setCell _ _ _ _ fun e => hnb (by rw [hg, e])) (.inr (.inl hat))
    (fun k hk hkb hne => (Below.heap_setCell _ _ _ _ hkb).trans (hgr.block k hk hne)) hl hgr.os hgr.tape hgr.output (by show _ ≤ (w2.heap.modify _ _).size; rw [Array.size_modify]; exact hgr.size) hd
def spD (x : Dk) (n : Nat) (s : ByteArray) (v : Value) : Dk := ⟨x.lost, fun m => if m = n then s else x.sec m, v, without n x.ws⟩
theorem spoil_two {w w2 : World} {b : Nat} {D : Nat → Dk} (h : Bk w b D) {d n : Nat} (hd : d < 12) (hn : n < 112) (s : ByteArray) {v' : Value} (hown : w2.ownsRow 0 72 2 v' (without n (D d).ws).length (wtV (without n (D d).ws))) (hgr : w.grownBy w2 (D d).wv.ownBlock) (hat : v'.ownBlock = (D d).wv.ownBlock) :
    Bk ((w2.setCell ⟨b, d * 114 + 113, none⟩ v').drew.setCell ⟨b, d * 114 + 1 + n, none⟩ (.string s)) b (upd D d (spD (D d) n s v')) ∧ Step b D w (upd D d (spD (D d) n s v')) ((w2.setCell ⟨b, d * 114 + 113, none⟩ v').drew.setCell ⟨b, d * 114 + 1 + n, none⟩ (.string s)) := by
  obtain ⟨h1, s1⟩ := h.setWait hd hown hgr hat (fun y hy => h.secs d hd y (List.mem_filter.1 hy).1)
  have hbd := (Below.refl (w2.setCell ⟨b, d * 114 + 113, none⟩ v').heap.size (w2.setCell ⟨b, d * 114 + 113, none⟩ v')).drew
  obtain ⟨h2, s2⟩ := (h1.below hbd).setSec hd hn s
  rw [upd_upd, upd_at] at h2 s2
  exact ⟨h2, s1.trans ((Step.of_below hbd).trans s2)⟩
set_option maxRecDepth 100000 in
set_option maxHeartbeats 2000000 in
theorem spoilK_any (b d n : Nat) (s : ByteArray) (D : Nat → Dk) (w : World) (h : Bk w b D) (hd : d < 12) (hn : n < 112) :
    Calls Try.prog 43 #[.pointer (some ⟨b, d * 114, none⟩), .int .i64 (n : Int), .string s] w fun e w' => e = .returned (.tuple #[]) ∧ ∃ v', Bk w' b (upd D d (spD (D d) n s v')) ∧ Step b D w (upd D d (spD (D d) n s v')) w' := by
  have hbb : Below w.heap.size w (w.alloc (.cells #[.int .i64 (n : Int)] 3)) := (Below.refl _ _).alloc (Nat.le_refl _) _
  have h1 := h.below hbb
  have hc := h1.wait hd
  have H1 := hide h1
  have HBB := hide hbb
  have hcn : (w.alloc (.cells #[.int .i64 (n : Int)] 3)).cell? ⟨w.heap.size, 0, none⟩ = some (.int .i64 (n : Int)) := cell_of_block (c := #[.int .i64 (n : Int)]) (heap_alloc_new _ _)
  have hsz : w.heap.size < (w.alloc (.cells #[.int .i64 (n : Int)] 3)).heap.size := by rw [World.size_alloc]; omega
  have hne : some w.heap.size ≠ (D d).wv.ownBlock := fun e => by have := row_lt (h.rows d hd) e.symm; omega
  have HDL := hide (delete_any (D d).wv (D d).ws.length n w.heap.size (D d).ws _ (h1.rows d hd) hcn hsz hne)
  have HNE := hide hne
  have HCN := hide hcn
  have hbw := h.mem.lt
  clear h h1 hbb hcn hsz hne
  go_enter Try.func43, Try.ntmps43
  go_wp2_with fail
  refine HDL.out.mono ?_
  rintro e w2 ⟨v', rfl, hown, hgr, hat⟩
  have HT := hide (spoil_two H1.out hd hn s hown hgr hat)
  have hbe : w2.heap[b]? = _ := hgr.block b (by rw [World.size_alloc]; omega) fun e => H1.out.off d hd e.symm
  have hcw : w2.cell? ⟨b, d * 114 + 113, none⟩ = some (D d).wv := (World.cell?_of_block (a := ⟨b, d * 114 + 113, none⟩) hbe).trans (H1.out.wait hd)
  have hcs : w2.cell? ⟨b, d * 114 + 1 + n, none⟩ = some (.string ((D d).sec n)) := (World.cell?_of_block (a := ⟨b, d * 114 + 1 + n, none⟩) hbe).trans (H1.out.sector hd hn)
  have hfr : ∀ q, w2.frozen? ⟨b, q, none⟩ = false := fun q => (World.frozen?_of_block (a := ⟨b, q, none⟩) hbe).trans (H1.out.free q)
  have hf1 := hfr (d * 114 + 113)
  have hf2 := hfr (d * 114 + 1 + n)
  have hcb : w2.cell? ⟨w.heap.size, 0, none⟩ = some (.int .i64 (n : Int)) := (World.cell?_of_block (a := ⟨w.heap.size, 0, none⟩) (hgr.block w.heap.size (by rw [World.size_alloc]; omega) HNE.out)).trans HCN.out
  have h1b : (w.heap.size == b) = false := by rw [beq_eq_false_iff_ne]; omega
  have h2b : w.heap.size ≠ b := by omega
  have h3b : b ≠ w.heap.size := by omega
  have hni : (0 : Int) ≤ (n : Int) := by omega
  have hnl : (n : Int) < 112 := by omega
  obtain ⟨a9, c9, hv9⟩ := row_form hown
  subst hv9
  clear hown hgr hat hbe hfr hc
  go_wp2_with fail
  go_region
  all_goals go_wp2_with fail
  all_goals try go_end0
  all_goals exact ⟨rfl, _, HT.out.1, (Step.of_below HBB.out).trans HT.out.2⟩
set_option maxRecDepth 100000 in
set_option maxHeartbeats 2000000 in
theorem spoilB_ok (b d n : Nat) (s : ByteArray) (D : Nat → Dk) (w : World) (h : Bk w b D) (hd : d < 12) (hn : n < 112) (hl : (D d).lost = false) (hs : s.size ≤ 200) :
    Calls Try.prog 23 #[.pointer (some ⟨b, 0, none⟩), .int .i64 (d : Int), .int .i64 (n : Int), .string s] w fun e w' => e = .returned (.int .i64 0) ∧ ∃ v', Bk w' b (upd D d (spD (D d) n s v')) ∧ Step b D w (upd D d (spD (D d) n s v')) w' := by
  have hE : eTake D (d : Int) (n : Int) s = 0 := by
    have h1 : eLive D (d : Int) = 0 := by unfold eLive; rw [if_neg (by omega), Int.toNat_natCast, hl]; rfl
    have h2 : eHave D (d : Int) (n : Int) = 0 := by unfold eHave; rw [h1, if_neg (by decide), if_neg (by omega)]
    unfold eTake; rw [h2, if_neg (by decide), if_neg (by omega)]
  have hT := taking_any b (d : Int) (n : Int) s D w h (by omega)
  rw [hE, pDisk_ok, Int.toNat_natCast] at hT
  have HT := hide hT
  have HK := hide (spoilK_any b d n s D w h hd hn)
  clear h hT hE
  go_enter Try.func23, Try.ntmps23
  go_wp2_with fail
  refine HT.out.mono ?_
  rintro e w1 ⟨rfl, rfl⟩
  go_wp2_with fail
  refine HK.out.mono ?_
  rintro e w2 ⟨rfl, v', hB, hS⟩
  have HB := hide hB
  have HS := hide hS
  clear hB hS
  go_wp2_with fail
  try go_ret
  exact ⟨rfl, v', HB.out, HS.out⟩
set_option maxRecDepth 100000 in
set_option maxHeartbeats 2000000 in
theorem spoilB_bad (b : Nat) (d n : Int) (s : ByteArray) (D : Nat → Dk) (w : World) (h : Bk w b D) (hs : s.size ≤ 9223372036854775807) (he : eTake D d n s ≠ 0) :
    Calls Try.prog 23 #[.pointer (some ⟨b, 0, none⟩), .int .i64 d, .int .i64 n, .string s] w fun e w' => e = .returned (.int .i64 (eTake D d n s : Nat)) ∧ w = w' := by
  have hT := taking_any b d n s D w h hs
  rw [pDisk_bad he] at hT
  have HT := hide hT
  generalize eTake D d n s = E at *
  have hq : ((E : Int) != 0) = true := by simp; omega
  clear h hT
  go_enter Try.func23, Try.ntmps23
  go_wp2_with fail
  refine HT.out.mono ?_
  rintro e w1 ⟨rfl, rfl⟩
  go_wp2_with fail
  try go_ret
  exact ⟨rfl, rfl⟩
set_option maxRecDepth 100000 in
set_option maxHeartbeats 2000000 in
theorem spoilB_nil (d n : Int) (s : ByteArray) (w : World) : Calls Try.prog 23 #[.pointer none, .int .i64 d, .int .i64 n, .string s] w fun e w' => e = .returned (.int .i64 1) ∧ w = w' := by
  go_enter Try.func23, Try.ntmps23
  go_wp2_with fail
  refine (taking_nil d n s w).mono ?_
  rintro e w1 ⟨rfl, rfl⟩
  go_wp2_with fail
  try go_ret
  exact ⟨rfl, rfl⟩
end Go.Proofs.Ytnpioaidbmllkaa
