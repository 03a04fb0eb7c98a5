/- What the document's All answers. -/
import Derived.Test.YthcpcdinjellcaaRsGive
namespace Go.Proofs.Ythcpcdinjellcaa
open Go.RowKit
set_option linter.unusedVariables false
/-- the invariant of the rounds -/
structure RAI (w : World) (rb : Nat) (v : Value) (L : List (Int × Int)) (B : Nat → Bool) (D : List Int) (k : Nat) (vk u : Value) (W : World) : Prop where
  rs : Rs W rb vk (L ++ allLs B D k)
  ru : Ru rb v w vk W
  was : W.ownsRow (rb + 1) 31 2 v L.length (lcV L)
  out : W.ownsRow w.heap.size 31 2 u k (lcV (allLs B D k))
  apart : ∀ g, u.ownBlock = some g → vk.ownBlock ≠ some g
  rel : Rel (allB B D k) (L ++ allLs B D k)
theorem RAI.took {w W W' : World} {rb : Nat} {v : Value} {L : List (Int × Int)} {B : Nat → Bool} {D : List Int} {k : Nat} {vk v1 u : Value} {L1 : List (Int × Int)} (h : RAI w rb v L B D k vk u W) (hrb : rb < w.heap.size) (hru : Ru rb vk W v1 W') (hwas : Was rb vk (L ++ allLs B D k) W v1 L1 W') :
    Ru rb v w v1 W' ∧ W'.ownsRow (rb + 1) 31 2 v L.length (lcV L) ∧ W'.ownsRow w.heap.size 31 2 u k (lcV (allLs B D k)) ∧ ∀ g, u.ownBlock = some g → v1.ownBlock ≠ some g := by
  refine ⟨h.ru.trans hru, (hwas v L h.was fun _ _ _ => List.prefix_append _ _).1, ?_, fun g hg hv => ?_⟩
  · have ha := h.apart
    obtain ⟨hl, ⟨rfl, hz⟩ | ⟨g, cap, cur, rfl, hB, hg, hc, hm, hss, ht⟩⟩ := h.out
    · exact ⟨hl, .inl ⟨rfl, hz⟩⟩
    · exact ⟨hl, .inr ⟨g, cap, cur, rfl, hB, (hru.blk g (lt_of_block hg) (by omega) (ha g rfl)).trans hg, hc, hm, hss, ht⟩⟩
  · rcases hru.own g hv with q | q
    · exact h.apart g hg q
    · have := (own_lt h.out hg).1; omega
theorem RAI.next {w W W' : World} {rb : Nat} {v : Value} {L : List (Int × Int)} {B : Nat → Bool} {D : List Int} {k : Nat} {v1 u u' : Value} {o : Obj} (hrb : rb < w.heap.size) (hvl : ∀ g, v.ownBlock = some g → g < w.heap.size)
    (rs : Rs W rb v1 (L ++ allLs B D (k + 1))) (ru : Ru rb v w v1 W) (was : W.ownsRow (rb + 1) 31 2 v L.length (lcV L)) (out : W.ownsRow w.heap.size 31 2 u k (lcV (allLs B D k))) (apart : ∀ g, u.ownBlock = some g → v1.ownBlock ≠ some g) (rel : Rel (allB B D (k + 1)) (L ++ allLs B D (k + 1)))
    (hown : W'.ownsRow w.heap.size 31 2 u' (k + 1) (lcV (allLs B D (k + 1)))) (hgr : (W.alloc o).grownBy W' u.ownBlock) (hat : u'.ownBlock = u.ownBlock ∨ u'.ownBlock = some (W.alloc o).heap.size) : RAI w rb v L B D (k + 1) v1 u' W' := by
  have hsz : W.heap.size ≤ W'.heap.size := by have := hgr.size; rw [World.size_alloc] at this; omega
  have blk : ∀ j, j < W.heap.size → u.ownBlock ≠ some j → W'.heap[j]? = W.heap[j]? := fun j hj hn => (hgr.block j (by rw [World.size_alloc]; omega) (fun e => hn e.symm)).trans (Below.heap_alloc _ _ _ hj)
  have hub : ∀ j, j < w.heap.size → u.ownBlock ≠ some j := fun j hj e => by have := row_base out e; omega
  refine ⟨rs.keep fun j hj => ?_, ⟨hgr.os.trans ru.os, hgr.tape.trans ru.tape, hgr.output.trans ru.output, Nat.le_trans ru.size hsz, fun j hj hn hv => (blk j (Nat.lt_of_lt_of_le hj ru.size) (hub j hj)).trans (ru.blk j hj hn hv), ru.own⟩, ?_, hown, fun g hg hv => ?_, rel⟩
  · rcases hj with rfl | q
    · exact blk j rs.lt (hub j hrb)
    · exact blk j (own_lt rs.row q).1 fun e => apart j e q
  · obtain ⟨hl, ⟨rfl, hz⟩ | ⟨g, cap, cur, rfl, hB, hg, hc, hm, hss, ht⟩⟩ := was
    · exact ⟨hl, .inl ⟨rfl, hz⟩⟩
    · exact ⟨hl, .inr ⟨g, cap, cur, rfl, hB, (blk g (lt_of_block hg) (hub g (hvl g rfl))).trans hg, hc, hm, hss, ht⟩⟩
  · rcases hat with e | e
    · rw [e] at hg; exact apart g hg hv
    · rw [e] at hg; cases hg
      have := (own_lt rs.row hv).1
      rw [World.size_alloc] at this
      omega
/-- what the document's All leaves -/
def RAllP (rb : Nat) (v : Value) (L : List (Int × Int)) (B : Nat → Bool) (D : List Int) (w : World) (e : Ending) (w' : World) : Prop :=
  (∃ k, k < D.length ∧ (∀ i, i < k → allE B D i = 0) ∧ allE B D k ≠ 0 ∧ e = .returned (.tuple #[.slice none 0 0, .int .i64 (allE B D k)]) ∧ Rs w' rb v L ∧ Ru rb v w v w') ∨
  ((∀ i, i < D.length → allE B D i = 0) ∧ ∃ a c, e = .returned (.tuple #[.slice a D.length c, .int .i64 0]) ∧ LocsAt w' a (allLs B D D.length) ∧ ∃ v', Rs w' rb v' (L ++ allLs B D D.length) ∧ Ru rb v w v' w' ∧ Rel (allB B D D.length) (L ++ allLs B D D.length))
set_option maxRecDepth 100000 in
set_option maxHeartbeats 8000000 in
theorem rAll_any (rb : Nat) (v : Value) (L : List (Int × Int)) (B : Nat → Bool) (a : Option Addr) (n c : Nat) (D : List Int) (w : World) (h : Rs w rb v L) (hr : Rel B L) (hl : L.length ≤ 100000) (hDl : D.length = n) (hn : n ≤ 1000) (hD : IntsAt w a D) (hDb : D ≠ [] → ∀ p, a = some p → p.block < rb) :
    Calls Try.prog 25 #[.pointer (some ⟨rb, 0, none⟩), .slice a n c] w (RAllP rb v L B D w) := by
  have hrb := h.lt
  have HS0 := hide h
  have HDL := hide hDl
  have HD := hide hD
  have HDB := hide hDb
  have HVL : Hid (∀ g, v.ownBlock = some g → g < w.heap.size) := fun g hg => (own_lt h.row hg).1
  have HVB : Hid (∀ g, v.ownBlock = some g → rb + 1 ≤ g) := fun g hg => row_base h.row hg
  have HI0 : Hid (RAI w rb v L B D 0 v (.slice none 0 0) w) := ⟨by rw [show allLs B D 0 = [] from rfl, List.append_nil]; exact h, Ru.refl _ _ _, h.row, World.ownsRow_nil _ _ _ _, (fun g hg => by cases hg), by rw [show allLs B D 0 = [] from rfl, List.append_nil]; exact hr⟩
  obtain ⟨av, cv, hv, hcv, hcm, hL⟩ := h.form
  have HV := hide hv
  have c00 := h.c0
  obtain ⟨i0, hi0, hz0, hz1, hz2⟩ := info_parts loc_info
  have HI := hide hi0
  have HZ0 := hide hz0
  have HZ1 := hide hz1
  have HZ2 := hide hz2
  rw [hv] at c00
  clear hi0 hz0 hz1 hz2 h hr hDl hD hDb hL hv
  go_enter Try.func25, Try.ntmps25
  go_wp2_with fail
  clear c00
  go_loopw [7, 8] (fun u y wr => ∃ (k : Nat) (vk : Value), k ≤ n ∧ y = .int .i64 k ∧ (∀ i, i < k → allE B D i = 0) ∧ RAI w rb v L B D k vk u wr) (fun _ y _ => n - (intOf y).toNat)
  case atStart => exact ⟨0, v, by omega, rfl, fun i hi => by omega, HI0.out⟩
  case round =>
    obtain ⟨k, vk, hk, rfl, hok, hI⟩ := hrel
    have HOK := hide hok
    have HII := hide hI
    obtain ⟨au, cu, hu, hcu, hcum⟩ := own_form hI.out
    subst hu
    have hszr := hI.ru.size
    clear hok hI HI0
    by_cases hlt : k < n
    · have hdk : decide ((k : Int) < (n : Int)) = true := by simp; omega
      have hki : (k : Int) < (n : Int) := by omega
      rcases HD.out with q | ⟨bl, o, rfl, hbl, hc⟩
      · have := HDL.out; rw [q] at this; simp at this; omega
      have hblt := HDB.out (fun e => by have := HDL.out; rw [e] at this; simp at this; omega) _ rfl
      simp only at hblt
      have hx : D[k]? = some (D.getD k 0) := by rw [List.getD_eq_getElem?_getD, List.getElem?_eq_getElem (by have := HDL.out; omega)]; rfl
      have HKEEP : Hid (∀ W vv, Ru rb v w vv W → W.cell? ⟨bl, o + k, none⟩ = some (.int .i64 (D.getD k 0))) := fun W vv hu => (World.cell?_of_block (a := ⟨bl, o + k, none⟩) (hu.blk bl hbl (by omega) fun e => by have := HVB.out bl e; omega)).trans (hc k _ hx)
      have ck := HKEEP.out _ _ HII.out.ru
      have hlen : (L ++ allLs B D k).length ≤ 1000000 := by rw [List.length_append, allLs_len]; omega
      have HTK := hide (rTake_any rb vk (L ++ allLs B D k) (allB B D k) (D.getD k 0) wr HII.out.rs HII.out.rel hlen)
      have HREL := hide (HII.out.rel.take (D.getD k 0))
      have HXX : Hid (allX B D k = (D.getD k 0, tkN (allB B D k) (D.getD k 0))) := rfl
      have HEE : Hid (allE B D k = tkE (allB B D k) (D.getD k 0)) := rfl
      have HBB : Hid (tkB (allB B D k) (D.getD k 0) = allB B D (k + 1)) := rfl
      have HRT : Hid (rtL (allB B D k) (L ++ allLs B D k) (D.getD k 0) = if tkE (allB B D k) (D.getD k 0) = 0 then (L ++ allLs B D k) ++ [(D.getD k 0, tkN (allB B D k) (D.getD k 0))] else L ++ allLs B D k) := rfl
      rw [HBB.out] at HREL
      rw [HRT.out] at HTK HREL
      clear hc hx HRT
      generalize D.getD k 0 = d at *
      generalize tkN (allB B D k) d = N at *
      by_cases hE : tkE (allB B D k) d = 0
      · rw [hE] at HEE
        rw [if_pos hE, List.append_assoc, ← HXX.out, ← allLs_succ] at HREL
        rw [if_pos hE, List.append_assoc, ← HXX.out, ← allLs_succ, hE] at HTK
        go_wp2_with fail
        refine HTK.out.mono ?_
        rintro e w1 ⟨rfl, v1, hrs, hru, hwas⟩
        obtain ⟨t1, t2, t3, t4⟩ := HII.out.took hrb hru hwas
        have ck1 := HKEEP.out _ _ t1
        have HRS := hide hrs
        have HT1 := hide t1
        have HT2 := hide t2
        have HT3 := hide t3
        have HT4 := hide t4
        have hsz1 : w.heap.size ≤ w1.heap.size := t1.size
        have HOK2 : Hid (∀ i, i < k + 1 → allE B D i = 0) := fun i hi => by
          by_cases q : i = k
          · subst q; exact HEE.out
          · exact HOK.out i (by omega)
        clear hrs hru hwas t1 t2 t3 t4 ck
        go_wp2_with (first | (at_builtin; refine wpList_append_own_at _ rfl (.tmp 37) (.tmp 44) 27 rfl w.heap.size 31 i0 (.agg #[.int .i64 0, .int .i64 0]) 2 16 Try.underlying27 HI.out HZ0.out HZ1.out HZ2.out rfl (by decide) _ _ _ rfl (HT3.out.alloc _) ⟨w1.heap.size, 0, none⟩ 1 1 [.int .i64 d, .int .i64 N] rfl rfl (cell_two_new _ _ _ _) (by simp [Value.oneCell']) (by unfold maxLen; omega) (by omega) (by rw [World.size_alloc]; omega) ?_; intro v' w3 hown hgr hnil hat; clear hnil; have HN3 : Hid (RAI w rb v L B D (k + 1) v1 v' w3) := RAI.next hrb HVL.out HRS.out HT1.out HT2.out HT3.out HT4.out HREL.out (by rw [allLs_succ, lcV_snoc, HXX.out]; exact hown) hgr hat; clear hown hgr hat))
        all_goals first | exact ⟨⟨k + 1, _, by omega, by go_num, HOK2.out, HN3.out⟩, by simp [intOf]; omega⟩ | (go_roundw; (case rel => exact ⟨k + 1, _, by omega, by go_num, HOK2.out, HN3.out⟩); (case measure => simp [intOf]; omega))
      · have HNE := hide hE
        have hq1 : (tkE (allB B D k) d == 0) = false := by simpa using hE
        have hq2 : (tkE (allB B D k) d != 0) = true := by simpa using hE
        rw [if_neg hE] at HTK
        clear HREL
        generalize tkE (allB B D k) d = E at *
        clear hE
        go_wp2_with fail
        refine HTK.out.mono ?_
        rintro e w1 ⟨rfl, v1, hrs, hru, hwas⟩
        obtain ⟨t1, t2, t3, t4⟩ := HII.out.took hrb hru hwas
        have c1 := hrs.c0
        have f1 := hrs.f0
        obtain ⟨a1, cc1, hv1, -⟩ := hrs.form
        rw [hv1] at c1
        have HF : Hid (Rs (w1.setCell ⟨rb, 0, none⟩ v) rb v L) := by
          refine ⟨block_setCell (c := #[v1]) v hrs.box, ?_⟩
          obtain ⟨hl, ⟨rfl, hz⟩ | ⟨g, cap, cur, rfl, hB, hg, hc, hm, hss, ht⟩⟩ := t2
          · exact ⟨hl, .inl ⟨rfl, hz⟩⟩
          · exact ⟨hl, .inr ⟨g, cap, cur, rfl, hB, (Below.heap_setCell _ _ _ _ (by show g ≠ rb; omega)).trans hg, hc, hm, hss, ht⟩⟩
        have HU : Hid (Ru rb v w v (w1.setCell ⟨rb, 0, none⟩ v)) := ⟨t1.os, t1.tape, t1.output, by simpa using t1.size, fun q hq hn hv => (Below.heap_setCell _ _ _ _ (by show q ≠ rb; exact hn)).trans (t1.blk q hq hn hv), fun q hq => .inl hq⟩
        rw [HV.out] at HF HU
        clear hrs hru hwas t1 t2 t3 t4 hv1 ck
        go_wp2_with fail
        go_ret2
        refine .inl ⟨k, by rw [HDL.out]; exact hlt, HOK.out, by rw [HEE.out]; exact HNE.out, by rw [HEE.out]; rfl, ?_, ?_⟩
        · rw [HV.out]; exact HF.out
        · rw [HV.out]; exact HU.out
    · have hdk : decide ((k : Int) < (n : Int)) = false := by simp; omega
      have HK : Hid (D.length = k) := by have := HDL.out; show D.length = k; omega
      have HLC : Hid (LocsAt wr au (allLs B D k)) := (own_locsB (b := 0) (n := k) HII.out.out (allLs_len _ _ _) (by omega)).1.1
      go_wp2_with fail
      go_ret2
      refine .inr ⟨fun i hi => HOK.out i (by rw [HK.out] at hi; exact hi), au, cu, ?_, ?_, vk, ?_, HII.out.ru, ?_⟩
      · rw [HK.out]; rfl
      · rw [HK.out]; exact HLC.out
      · rw [HK.out]; exact HII.out.rs
      · rw [HK.out]; exact HII.out.rel
end Go.Proofs.Ythcpcdinjellcaa
