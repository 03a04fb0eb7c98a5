/- told: the program's needles as the reference's; it makes a row of its own. -/
import Derived.Test.YtomcdajoeakhdaaDoorNeSame
import Derived.Maps.AppendAt
namespace Go.Proofs.YtomcdajoeakhdaaDoor
open Go.RowKit
set_option linter.unusedVariables false
theorem take_nd {l : List Nd} {k : Nat} {x : Nd} (h : l[k]? = some x) : ndV (l.take (k + 1)) = ndV (l.take k) ++ [.string x.k, .string x.v] := by
  rw [List.take_add_one, h]; exact ndV_snoc _ _
theorem GR.drew {w wr : World} {e : TypeId} {size n : Nat} {v : Value} {xs : List Value} (h : GR w wr e size v n xs) : GR w wr.drew e size v n xs := h.below ⟨rfl, rfl, rfl, Nat.le_refl _, fun _ _ => rfl⟩
/-- append to a row of one's own, one operation of a drawn region -/
theorem wp_append_row {P : Program} {o : Oper} {a : Act} {w : World} {K : Act → World → Prop} {Q : Exit → Act → World → Prop} (B : Nat) (s x : Operand) (t : TypeId)
    (ho : o.op = .call { callee := .builtin .append, args := #[s, x], argTypes := #[t, t] })
    (e : TypeId) (i : TypeInfo) (z : Value) (size bytes : Nat) (ht : P.underlying t = some (.slice e)) (hi : P.info? e = some i) (hz : i.zero = some z)
    (hsize : i.size = size) (hby : i.bytes = bytes) (hzs : z.cells.size = size) (hsz : 0 < size)
    (v : Value) (n : Nat) (xs : List Value) (hs : a.eval s = v) (hown : w.ownsRow B e size v n xs)
    (ad : Addr) (m c : Nat) (news : List Value) (hx : a.eval x = .slice (some ad) m c) (hl : news.length = m * size) (hnews : ∀ j u, news[j]? = some u → w.cell? (ad.add j) = some u) (h1 : ∀ u ∈ news, u.oneCell' = true)
    (h63 : n + m ≤ maxLen) (hbytes : (n + m) * bytes ≤ 140737488355328) (hB : B ≤ w.heap.size)
    (h : ∀ v' w', w'.ownsRow B e size v' (n + m) (xs ++ news) → w.grownBy w' v.ownBlock → K (a.put o.dst v') w') : o.wp P a w K Q := by
  obtain ⟨v', w', hr, q1, q2, -, q3⟩ := run_append_own_at (P := P) w B t o.type e i z size bytes ht hi hz hsize hby hzs hsz v n xs hown ad m c news hl hnews h1 h63 hbytes hB
  unfold Oper.wp execOp
  simp only [ho, resolve, invoke, builtin, Sem.run_bind, Sem.run_pure, Result.andThen_ok, List.map_toArray, List.map_cons, List.map_nil, hs, hx, hr]
  exact h v' w' q1 q2
set_option maxRecDepth 100000 in
set_option maxHeartbeats 8000000 in
theorem ntold_any (a : Option Addr) (c n : Nat) (l : List Nd) (w : World) (hl : l.length = n) (h63 : n ≤ 100000) (h : NdsAt w a l) : Calls Tryd.prog 20 #[.slice a n c] w fun e w' => ∃ a' c', e = .returned (.slice a' n c') ∧ Below w.heap.size w w' ∧ NdsAt w' a' l := by
  obtain ⟨i0, hi0, hz0, hz1, hz2⟩ := info_parts rn_info
  have HI := hide hi0
  have HI0 := hide hz0
  have HI1 := hide hz1
  have HI2 := hide hz2
  have HL := hide hl
  have H := hide h
  clear hl h hi0 hz0 hz1 hz2
  go_enter Tryd.func20, Tryd.ntmps20
  go_wp2_with fail
  go_loopw [3, 4] (fun v y wr => ∃ k : Nat, k ≤ n ∧ y = .int .i64 k ∧ GR w wr 23 2 v k (ndV (l.take k))) (fun _ y _ => n - (intOf y).toNat)
  case atStart => exact ⟨0, by omega, rfl, GR.nil _ _ _ _ (Below.refl _ _)⟩
  case round =>
    obtain ⟨k, hk, rfl, hg⟩ := hrel
    have HG := hide hg
    clear hg
    by_cases hlt : k < n
    · have hd : decide ((k : Int) < (n : Int)) = true := by simp; omega
      have hdi : (k : Int) < (n : Int) := by omega
      have hd0 : (0 : Int) ≤ (k : Int) := by omega
      obtain ⟨x, hx⟩ : ∃ x, l[k]? = some x := ⟨_, List.getElem?_eq_getElem (by have := HL.out; omega)⟩
      rcases H.out with q | ⟨b1, o1, rfl, hb1, hc1⟩
      · have := HL.out; rw [q] at this; simp at this; omega
      have HX := hide (take_nd hx)
      have e1 := (HG.out.2.cell (p := ⟨b1, o1 + k * 2, none⟩) hb1).trans (hc1 k x hx).1
      have e2 := (HG.out.2.cell (p := ⟨b1, o1 + k * 2 + 1, none⟩) hb1).trans (hc1 k x hx).2
      have hsz2 := HG.out.2.size
      have HB1 : Hid (b1 < wr.heap.size) := Nat.lt_of_lt_of_le hb1 hsz2
      clear hx hc1
      obtain ⟨K, V⟩ := x
      simp only at e1 e2 HX
      go_wp2_with fail
      refine wp_region_noPanic ?_
      refine wp_region_held_drew (S := fun w' => w'.cell? ⟨b1, o1 + k * 2, none⟩ = some (.string K) ∧ w'.cell? ⟨b1, o1 + k * 2 + 1, none⟩ = some (.string V)) (by kernel_rfl) ⟨e1, e2⟩ (fun hHeld => ?_)
      refine wpAnyH_take (i := 0) (v := ?v1) rfl (by kernel_rfl) (by kernel_rfl) (by kernel_rfl) (fun _ _ _ h => h) (Or.inl ⟨by rfl, ?hy1⟩) hHeld ?rest1
      case hy1 => (intro w' hSw; obtain ⟨s0, s1⟩ := hSw; go_simp; try with_reducible rfl)
      try simp [Act.put]
      refine wpAnyH_take (i := 1) (v := ?v2) rfl (by kernel_rfl) (by kernel_rfl) (by kernel_rfl) (fun _ _ _ h => h) (Or.inl ⟨by rfl, ?hy2⟩) hHeld ?rest2
      case hy2 => (intro w' hSw; obtain ⟨s0, s1⟩ := hSw; go_simp; try with_reducible rfl)
      try simp [Act.put]
      refine wpAnyH_take (i := 2) (v := ?v3) rfl (by kernel_rfl) (by kernel_rfl) (by kernel_rfl) (fun _ _ _ h => h) (Or.inl ⟨by rfl, ?hy3⟩) hHeld ?rest3
      case hy3 => (intro w' hSw; obtain ⟨s0, s1⟩ := hSw; go_simp; try with_reducible rfl)
      try simp [Act.put]
      refine wpAnyH_take (i := 3) (v := ?v4) rfl (by kernel_rfl) (by kernel_rfl) (by kernel_rfl) (fun _ _ _ h => h) (Or.inl ⟨by rfl, ?hy4⟩) hHeld ?rest4
      case hy4 => (intro w' hSw; obtain ⟨s0, s1⟩ := hSw; go_simp; try with_reducible rfl)
      try simp [Act.put]
      refine wpAnyH_take (i := 4) (v := ?v5) rfl (by kernel_rfl) (by kernel_rfl) (by kernel_rfl) (fun _ _ _ h => h) (Or.inl ⟨by rfl, ?hy5⟩) hHeld ?rest5
      case hy5 => (intro w' hSw; obtain ⟨s0, s1⟩ := hSw; go_simp; try with_reducible rfl)
      try simp [Act.put]
      refine wpAnyH_take (i := 5) (v := ?v6) rfl (by kernel_rfl) (by kernel_rfl) (by kernel_rfl) (fun _ _ _ h => h) (Or.inl ⟨by rfl, ?hy6⟩) hHeld ?rest6
      case hy6 => (intro w' hSw; obtain ⟨s0, s1⟩ := hSw; go_simp; try with_reducible rfl)
      try simp [Act.put]
      refine wpAnyH_take (i := 6) (v := ?v7) rfl (by kernel_rfl) (by kernel_rfl) (by kernel_rfl) (fun _ _ _ h => h) (Or.inl ⟨by rfl, ?hy7⟩) hHeld ?rest7
      case hy7 => (intro w' hSw; obtain ⟨s0, s1⟩ := hSw; go_simp; try with_reducible rfl)
      try simp [Act.put]
      refine wpAnyH_take (i := 7) (v := ?v8) rfl (by kernel_rfl) (by kernel_rfl) (by kernel_rfl) (fun _ _ _ h => h) (Or.inl ⟨by rfl, ?hy8⟩) hHeld ?rest8
      case hy8 => (intro w' hSw; obtain ⟨s0, s1⟩ := hSw; go_simp; try with_reducible rfl)
      try simp [Act.put]
      refine wpAnyH_take (i := 8) (v := ?v9) rfl (by kernel_rfl) (by kernel_rfl) (by kernel_rfl) (fun _ _ _ h => h) (Or.inl ⟨by rfl, ?hy9⟩) hHeld ?rest9
      case hy9 => (intro w' hSw; obtain ⟨s0, s1⟩ := hSw; go_simp; try with_reducible rfl)
      try simp [Act.put]
      refine wpAnyH_take (i := 9) (v := ?v10) rfl (by kernel_rfl) (by kernel_rfl) (by kernel_rfl) (fun _ _ _ h => h) (Or.inl ⟨by rfl, ?hy10⟩) hHeld ?rest10
      case hy10 => (intro w' hSw; obtain ⟨s0, s1⟩ := hSw; go_simp; try with_reducible rfl)
      try simp [Act.put]
      refine wpAnyH_take (i := 10) (v := ?v11) rfl (by kernel_rfl) (by kernel_rfl) (by kernel_rfl) (fun _ _ _ h => h) (Or.inl ⟨by rfl, ?hy11⟩) hHeld ?rest11
      case hy11 => (intro w' hSw; obtain ⟨s0, s1⟩ := hSw; go_simp; try with_reducible rfl)
      try simp [Act.put]
      refine wpAnyH_take (i := 11) (v := ?v12) rfl (by kernel_rfl) (by kernel_rfl) (by kernel_rfl) (fun _ _ _ h => h) (Or.inl ⟨by rfl, ?hy12⟩) hHeld ?rest12
      case hy12 => (intro w' hSw; obtain ⟨s0, s1⟩ := hSw; go_simp; try with_reducible rfl)
      try simp [Act.put]
      refine wpAnyH_ready (rs := [12]) (by kernel_rfl) (by simp) ?_
      refine AllReadyH.cons rfl (fun K0 hK => ?_) AllReadyH.nil
      go_simp
      have hal : Below wr.heap.size wr (wr.alloc (.cells #[.string K, .string V] 23)).drew := ((Below.refl _ _).alloc (Nat.le_refl _) _).drew
      refine hK.out _ _ ⟨(hal.cell (p := ⟨b1, o1 + k * 2, none⟩) HB1.out).trans e1, (hal.cell (p := ⟨b1, o1 + k * 2 + 1, none⟩) HB1.out).trans e2⟩ (fun hHeld => ?_)
      clear hK K0
      try simp [Act.put]
      refine wpAnyH_ready (rs := [13]) (by kernel_rfl) (by simp) ?_
      refine AllReadyH.cons rfl (fun K0 hK => ?_) AllReadyH.nil
      rw [if_pos (by simp [Region.wanted])]
      refine wp_append_row w.heap.size (.tmp 11) (.tmp 23) 42 rfl 23 i0 (.agg #[.string ByteArray.empty, .string ByteArray.empty]) 2 32 Tryd.underlying42 HI.out HI0.out HI1.out HI2.out rfl (by decide) u3 k (ndV (l.take k)) (by simp [Act.eval]) (own_below HG.out.1 hal) ⟨wr.heap.size, 0, none⟩ 1 1 [.string K, .string V] (by simp [Act.eval]) rfl (cell_two_new _ _ _ _) (by simp [Value.oneCell']) (by unfold maxLen; omega) (by omega) (Nat.le_trans hsz2 hal.size) ?_
      intro v' w3 hown hgr
      have HN3 := hide (HG.out.step (o := .cells #[.string K, .string V] 23) hown ⟨hgr.os, hgr.tape, hgr.output, hgr.size, hgr.block⟩)
      clear hown hgr
      have hbl3 : w3.heap[b1]? = wr.heap[b1]? := (HN3.out.2.block b1 hb1).trans (HG.out.2.block b1 hb1).symm
      refine hK.out _ _ ⟨(World.cell?_of_block (a := ⟨b1, o1 + k * 2, none⟩) hbl3).trans e1, (World.cell?_of_block (a := ⟨b1, o1 + k * 2 + 1, none⟩) hbl3).trans e2⟩ (fun hHeld => ?_)
      clear hbl3
      clear hK K0
      try simp [Act.put]
      refine wpAnyH_take (i := 14) (v := ?v20) rfl (by kernel_rfl) (by kernel_rfl) (by kernel_rfl) (fun _ _ _ h => h) (Or.inl ⟨by rfl, ?hy20⟩) hHeld ?rest20
      case hy20 => (intro w' hSw; go_simp; try with_reducible rfl)
      try simp [Act.put]
      refine wpAnyH_done (by kernel_rfl) (NoPanic.normal ?_) _
      go_wp2_with fail
      rw [← HX.out] at HN3
      all_goals first | exact ⟨⟨k + 1, by omega, by go_num, HN3.out⟩, by simp [intOf]; omega⟩ | (go_roundw; (case rel => exact ⟨k + 1, by omega, by go_num, HN3.out⟩); (case measure => simp [intOf]; omega))
    · have hd : decide ((k : Int) < (n : Int)) = false := by simp; omega
      have hkn : k = n := by omega
      have hgr : GR w wr 23 2 u3 l.length (ndV l) := by
        have := HG.out
        rw [hkn, ← HL.out, List.take_length] at this
        exact this
      obtain ⟨a', c', rfl, _, hnd⟩ := hgr.nds
      rw [HL.out] at *
      have HND := hide hnd
      have HB := hide HG.out.2
      clear hnd hgr HG
      go_wp2_with fail
      try go_ret
      first | exact ⟨a', c', rfl, HB.out, HND.out⟩ | exact ⟨HB.out, HND.out⟩ | exact ⟨a', ⟨c', rfl⟩, HB.out, HND.out⟩
end Go.Proofs.YtomcdajoeakhdaaDoor
