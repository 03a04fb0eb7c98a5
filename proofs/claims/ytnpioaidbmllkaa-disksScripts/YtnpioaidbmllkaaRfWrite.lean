/- What the document's Write answers. -/
import Derived.Test.YtnpioaidbmllkaaRfRead
import Derived.Maps.AppendAt
import Derived.Deep.RegionHeld3
namespace Go.Proofs.Ytnpioaidbmllkaa
open Go.RowKit
set_option linter.unusedVariables false
/-- append to a row of one's own, as an operation, with where the row lies then -/
theorem wp_append_at {P : Program} {o : Oper} {a : Act} {w : World} {K : Act → World → Prop} {Q : Exit → Act → World → Prop} (s x : Operand) (t : TypeId)
    (ho : o.op = .call { callee := .builtin .append, args := #[s, x], argTypes := #[t, t] })
    (e : TypeId) (i : TypeInfo) (z : Value) (size bytes : Nat) (ht : P.underlying t = some (.slice e)) (hi : P.info? e = some i) (hz : i.zero = some z)
    (hsize : i.size = size) (hby : i.bytes = bytes) (hzs : z.cells.size = size) (hsz : 0 < size)
    (v : Value) (n : Nat) (xs : List Value) (hs : a.eval s = v) (hown : w.ownsRow 0 e size v n xs)
    (ad : Addr) (m c : Nat) (news : List Value) (hx : a.eval x = .slice (some ad) m c) (hl : news.length = m * size) (hnews : ∀ j u, news[j]? = some u → w.cell? (ad.add j) = some u) (h1 : ∀ u ∈ news, u.oneCell' = true)
    (h63 : n + m ≤ maxLen) (hbytes : (n + m) * bytes ≤ 140737488355328)
    (h : ∀ v' w', w'.ownsRow 0 e size v' (n + m) (xs ++ news) → w.grownBy w' v.ownBlock → (v'.ownBlock = v.ownBlock ∨ v'.ownBlock = some w.heap.size) → K (a.put o.dst v') w') : o.wp P a w K Q := by
  obtain ⟨v', w', hr, q1, q2, -, q3⟩ := run_append_own_at (P := P) w 0 t o.type e i z size bytes ht hi hz hsize hby hzs hsz v n xs hown ad m c news hl hnews h1 h63 hbytes (Nat.zero_le _)
  unfold Oper.wp execOp
  simp only [ho, resolve, invoke, builtin, Sem.run_bind, Sem.run_pure, Result.andThen_ok, List.map_toArray, List.map_cons, List.map_nil, hs, hx, hr]
  exact h v' w' q1 q2 q3
/-- a call did so, to the document's disks in block rb -/
def DidR (rb : Nat) (v : Value) (R : Nat → Rk) (w : World) (C' : Nat → Ct) (w' : World) : Prop := ∃ R', RB w' rb v 12 R' ∧ RStep rb v 12 R w R' w' ∧ ContR R' C'
theorem didR_same {rb : Nat} {v : Value} {R : Nat → Rk} {w w' : World} {C : Nat → Ct} (h : RB w rb v 12 R) (hC : ContR R C) (hb : Below w.heap.size w w') : DidR rb v R w C w' := ⟨R, h.below hb, RStep.of_below hb, hC⟩
theorem rwr_info : (Try.prog.info? 69).map (fun i => (i.zero, i.size, i.bytes)) = some (some (.agg #[.int .i64 0, .string ByteArray.empty]), 2, 24) := by kernel_rfl
theorem drew_below (w : World) : Below w.heap.size w w.drew := ⟨rfl, rfl, rfl, Nat.le_refl _, fun _ _ => rfl⟩
/-- two cells that a region reads -/
def S2 (rb gd k : Nat) (v p : Value) (w : World) : Prop := w.cell? ⟨rb, 0, none⟩ = some v ∧ w.cell? ⟨gd, k, none⟩ = some p
theorem S2.keep {rb gd k : Nat} {v p : Value} {w w' : World} (h : S2 rb gd k v p w) (hs : ∀ q, q = rb ∨ q = gd → w'.heap[q]? = w.heap[q]?) : S2 rb gd k v p w' :=
  ⟨(World.cell?_of_block (w := w) (a := ⟨rb, 0, none⟩) (hs _ (.inl rfl))).trans h.1, (World.cell?_of_block (w := w) (a := ⟨gd, k, none⟩) (hs _ (.inr rfl))).trans h.2⟩
theorem rPush {w W1 w3 : World} {rb : Nat} {v : Value} {R : Nat → Rk} (h : RB w rb v 12 R) {k m pp L : Nat} {wv v' : Value} (hk : k < 12) (hm : m < 112) (s : ByteArray) (hpp : (R k).p = pp) (hwv : (R k).wv = wv) (hL : (R k).ct.ws.length = L) (hW1 : Below w.heap.size w W1) (hown : w3.ownsRow 0 69 2 v' (L + 1) (wtV (R k).ct.ws ++ [.int .i64 (m : Int), .string s])) (hgr : W1.grownBy w3 wv.ownBlock) (hat : v'.ownBlock = wv.ownBlock ∨ v'.ownBlock = some W1.heap.size) :
    RB (w3.setCell ⟨pp, 1, none⟩ v') rb v 12 (updR R k (rWait (R k) v' ((R k).ct.ws ++ [(m, s)]))) ∧ RStep rb v 12 R w (updR R k (rWait (R k) v' ((R k).ct.ws ++ [(m, s)]))) (w3.setCell ⟨pp, 1, none⟩ v') := by
  subst hpp hwv hL
  refine h.setWait hk v' ((R k).ct.ws ++ [(m, s)]) (fun y hy => ?_) ?_ (grown_trans (grown_below _ hW1) hgr) (fun q hq => ?_)
  · rcases List.mem_append.1 hy with hy | hy
    · exact (h.dk k hk).wsl y hy
    · rw [List.mem_singleton.1 hy]; exact hm
  · rw [List.length_append, wtV_app]; exact hown
  · rcases hat with e | e
    · exact .inl (by rw [← e]; exact hq)
    · rw [e] at hq; cases hq; exact .inr hW1.size
set_option maxRecDepth 100000 in
set_option maxHeartbeats 4000000 in
theorem rWrite_any (rb : Nat) (v : Value) (R : Nat → Rk) (C : Nat → Ct) (d n : Int) (s : ByteArray) (w : World) (h : RB w rb v 12 R) (hC : ContR R C) (hs : s.size ≤ 9223372036854775807) {N : Nat} (hN : Few N C) (hN6 : N < 1000000) :
    Calls Try.prog 26 #[.pointer (some ⟨rb, 0, none⟩), .int .i64 d, .int .i64 n, .string s] w fun e w' => e = .returned (.int .i64 (eTakeC C d n s : Nat)) ∧ DidR rb v R w (wrC C d n s) w' := by
  have HK := hide (rCheck_any rb v R C d n s w h hC hs)
  unfold wrC
  by_cases hz : eTakeC C d n s = 0
  · obtain ⟨h1, h2⟩ := take_in hz
    obtain ⟨h3, h6, h7⟩ := have_in h1
    obtain ⟨h4, h5, hl⟩ := live_in h3
    obtain ⟨k, rfl⟩ : ∃ k : Nat, d = (k : Int) := ⟨d.toNat, by omega⟩
    obtain ⟨m, rfl⟩ : ∃ m : Nat, n = (m : Int) := ⟨n.toNat, by omega⟩
    have hk : k < 12 := by omega
    rw [hz] at HK ⊢
    rw [if_pos rfl]
    simp only [Int.toNat_natCast]
    have H := hide h
    have HC := hide hC
    have hCk := hC k hk
    have hlen : (R k).ct.ws.length < 1000000 := by rw [hCk]; have := (hN k hk).1; omega
    obtain ⟨gd, cap, hv, hc12, hcm, cB, cP, -⟩ := h.at hk
    have hdk := h.dk k hk
    have hS : S2 rb gd k v (.pointer (some ⟨(R k).p, 0, none⟩)) w := ⟨cB, cP⟩
    have hc1 := hdk.c1
    have HROW := hide hdk.row
    have hf1 := hdk.fr 1
    have HDK := hide hdk
    have HCK := hide hCk
    obtain ⟨a9, c9, hv9⟩ := row_form hdk.row
    have HV9 := hide hv9
    obtain ⟨i0, hi0, hz0, hz1, hz2⟩ := info_parts rwr_info
    have HI := hide hi0
    have HI0 := hide hz0
    have HI1 := hide hz1
    have HI2 := hide hz2
    have g2 : (k : Int) < 12 := by omega
    have g3 : (0 : Int) ≤ (k : Int) := by omega
    have HRB : Hid (rb < w.heap.size) := lt_of_block h.blk
    have HGD : Hid (gd < w.heap.size) := row_lt h.row (by rw [hv]; rfl)
    have HPP : Hid ((R k).p < w.heap.size) := lt_of_block hdk.blk
    have hwb : ∀ q, q = rb ∨ q = gd ∨ q = (R k).p → (R k).wv.ownBlock ≠ some q := by
      intro q hq hx
      rcases hq with rfl | rfl | rfl
      · exact (h.a2 k hk _ (.inr (.inr hx))).1 rfl
      · exact (h.a2 k hk _ (.inr (.inr hx))).2 (by rw [hv]; rfl)
      · exact hdk.d2 hx
    have HWB := hide hwb
    have HPN : Hid (∀ q, q = rb ∨ q = gd → q ≠ (R k).p) := fun q hq hx => by
      rcases hq with rfl | rfl
      · exact (h.a2 k hk _ (.inl hx)).1 rfl
      · exact (h.a2 k hk _ (.inl hx)).2 (by rw [hv]; rfl)
    have HM : Hid (m < 112) := by show m < 112; omega
    subst hv
    clear h hC h3 h6 h7 h4 h5 hl hz hdk hCk hi0 hz0 hz1 hz2 cB cP hv9 h1 hwb
    generalize hpp : (R k).p = pp at *
    generalize hwv : (R k).wv = wv at *
    generalize hLL : (R k).ct.ws.length = L at *
    have HWV := hide hwv
    have HPE := hide hpp
    have HLL := hide hLL
    clear hwv hpp hLL
    go_enter Try.func26, Try.ntmps26
    go_wp2_with fail
    refine HK.out.mono ?_
    rintro e w1 ⟨rfl, rfl⟩
    go_wp2_with fail
    refine wp_region_noPanic ?_
    refine wp_region_held_drew (S := S2 rb gd k (.slice (some ⟨gd, 0, none⟩) 12 cap) (.pointer (some ⟨pp, 0, none⟩))) (by kernel_rfl) hS (fun hHeld => ?_)
    refine wpAnyH_take (i := 0) (v := ?v1) rfl (by kernel_rfl) (by kernel_rfl) (by kernel_rfl) (fun _ _ _ h => h) (Or.inl ⟨by rfl, ?hy1⟩) hHeld ?rest1
    case hy1 => (intro w' hSw; obtain ⟨s1, s2⟩ := hSw; go_simp; try with_reducible rfl)
    try simp [Act.put]
    refine wpAnyH_take (i := 1) (v := ?v2) rfl (by kernel_rfl) (by kernel_rfl) (by kernel_rfl) (fun _ _ _ h => h) (Or.inl ⟨by rfl, ?hy2⟩) hHeld ?rest2
    case hy2 => (intro w' hSw; obtain ⟨s1, s2⟩ := hSw; go_simp; try with_reducible rfl)
    try simp [Act.put]
    refine wpAnyH_take (i := 2) (v := ?v3) rfl (by kernel_rfl) (by kernel_rfl) (by kernel_rfl) (fun _ _ _ h => h) (Or.inl ⟨by rfl, ?hy3⟩) hHeld ?rest3
    case hy3 => (intro w' hSw; obtain ⟨s1, s2⟩ := hSw; go_simp; try with_reducible rfl)
    try simp [Act.put]
    refine wpAnyH_take (i := 3) (v := ?v4) rfl (by kernel_rfl) (by kernel_rfl) (by kernel_rfl) (fun _ _ _ h => h) (Or.inl ⟨by rfl, ?hy4⟩) hHeld ?rest4
    case hy4 => (intro w' hSw; obtain ⟨s1, s2⟩ := hSw; go_simp; try with_reducible rfl)
    try simp [Act.put]
    refine wpAnyH_take (i := 4) (v := ?v5) rfl (by kernel_rfl) (by kernel_rfl) (by kernel_rfl) (fun _ _ _ h => h) (Or.inl ⟨by rfl, ?hy5⟩) hHeld ?rest5
    case hy5 => (intro w' hSw; obtain ⟨s1, s2⟩ := hSw; go_simp; try with_reducible rfl)
    try simp [Act.put]
    refine wpAnyH_take (i := 5) (v := ?v6) rfl (by kernel_rfl) (by kernel_rfl) (by kernel_rfl) (fun _ _ _ h => h) (Or.inl ⟨by rfl, ?hy6⟩) hHeld ?rest6
    case hy6 => (intro w' hSw; obtain ⟨s1, s2⟩ := hSw; go_simp; try with_reducible rfl)
    try simp [Act.put]
    refine wpAnyH_take (i := 6) (v := ?v7) rfl (by kernel_rfl) (by kernel_rfl) (by kernel_rfl) (fun _ _ _ h => h) (Or.inl ⟨by rfl, ?hy7⟩) hHeld ?rest7
    case hy7 => (intro w' hSw; obtain ⟨s1, s2⟩ := hSw; go_simp; try with_reducible rfl)
    try simp [Act.put]
    refine wpAnyH_take (i := 7) (v := ?v8) rfl (by kernel_rfl) (by kernel_rfl) (by kernel_rfl) (fun _ _ _ h => h) (Or.inl ⟨by rfl, ?hy8⟩) hHeld ?rest8
    case hy8 => (intro w' hSw; obtain ⟨s1, s2⟩ := hSw; go_simp; try with_reducible rfl)
    try simp [Act.put]
    refine wpAnyH_take (i := 8) (v := ?v9) rfl (by kernel_rfl) (by kernel_rfl) (by kernel_rfl) (fun _ _ _ h => h) (Or.inl ⟨by rfl, ?hy9⟩) hHeld ?rest9
    case hy9 => (intro w' hSw; obtain ⟨s1, s2⟩ := hSw; go_simp; try with_reducible rfl)
    try simp [Act.put]
    refine wpAnyH_take (i := 9) (v := ?v10) rfl (by kernel_rfl) (by kernel_rfl) (by kernel_rfl) (fun _ _ _ h => h) (Or.inl ⟨by rfl, ?hy10⟩) hHeld ?rest10
    case hy10 => (intro w' hSw; obtain ⟨s1, s2⟩ := hSw; go_simp; try with_reducible rfl)
    try simp [Act.put]
    refine wpAnyH_take (i := 10) (v := ?v11) rfl (by kernel_rfl) (by kernel_rfl) (by kernel_rfl) (fun _ _ _ h => h) (Or.inl ⟨by rfl, ?hy11⟩) hHeld ?rest11
    case hy11 => (intro w' hSw; obtain ⟨s1, s2⟩ := hSw; go_simp; try with_reducible rfl)
    try simp [Act.put]
    refine wpAnyH_take (i := 11) (v := ?v12) rfl (by kernel_rfl) (by kernel_rfl) (by kernel_rfl) (fun _ _ _ h => h) (Or.inl ⟨by rfl, ?hy12⟩) hHeld ?rest12
    case hy12 => (intro w' hSw; obtain ⟨s1, s2⟩ := hSw; go_simp; try with_reducible rfl)
    try simp [Act.put]
    refine wpAnyH_take (i := 12) (v := ?v13) rfl (by kernel_rfl) (by kernel_rfl) (by kernel_rfl) (fun _ _ _ h => h) (Or.inl ⟨by rfl, ?hy13⟩) hHeld ?rest13
    case hy13 => (intro w' hSw; obtain ⟨s1, s2⟩ := hSw; go_simp; try with_reducible rfl)
    try simp [Act.put]
    refine wpAnyH_take (i := 13) (v := ?v14) rfl (by kernel_rfl) (by kernel_rfl) (by kernel_rfl) (fun _ _ _ h => h) (Or.inl ⟨by rfl, ?hy14⟩) hHeld ?rest14
    case hy14 => (intro w' hSw; obtain ⟨s1, s2⟩ := hSw; go_simp; try with_reducible rfl)
    try simp [Act.put]
    refine wpAnyH_take (i := 14) (v := ?v15) rfl (by kernel_rfl) (by kernel_rfl) (by kernel_rfl) (fun _ _ _ h => h) (Or.inl ⟨by rfl, ?hy15⟩) hHeld ?rest15
    case hy15 => (intro w' hSw; obtain ⟨s1, s2⟩ := hSw; go_simp; try with_reducible rfl)
    try simp [Act.put]
    refine wpAnyH_take (i := 15) (v := ?v16) rfl (by kernel_rfl) (by kernel_rfl) (by kernel_rfl) (fun _ _ _ h => h) (Or.inl ⟨by rfl, ?hy16⟩) hHeld ?rest16
    case hy16 => (intro w' hSw; obtain ⟨s1, s2⟩ := hSw; go_simp; try with_reducible rfl)
    try simp [Act.put]
    refine wpAnyH_take (i := 17) (v := ?v17) rfl (by kernel_rfl) (by kernel_rfl) (by kernel_rfl) (fun _ _ _ h => h) (Or.inl ⟨by rfl, ?hy17⟩) hHeld ?rest17
    case hy17 => (intro w' hSw; obtain ⟨s1, s2⟩ := hSw; go_simp; try with_reducible rfl)
    try simp [Act.put]
    refine wpAnyH_take (i := 18) (v := ?v18) rfl (by kernel_rfl) (by kernel_rfl) (by kernel_rfl) (fun _ _ _ h => h) (Or.inl ⟨by rfl, ?hy18⟩) hHeld ?rest18
    case hy18 => (intro w' hSw; obtain ⟨s1, s2⟩ := hSw; go_simp; try with_reducible rfl)
    try simp [Act.put]
    refine wpAnyH_take (i := 19) (v := ?v19) rfl (by kernel_rfl) (by kernel_rfl) (by kernel_rfl) (fun _ _ _ h => h) (Or.inl ⟨by rfl, ?hy19⟩) hHeld ?rest19
    case hy19 => (intro w' hSw; obtain ⟨s1, s2⟩ := hSw; go_simp; try with_reducible rfl)
    try simp [Act.put]
    have hW1 : Below w.heap.size w (w.drew.alloc (.cells #[.int .i64 (m : Int), .string s] 69)) := (drew_below w).alloc (Nat.le_refl _) _
    have hcW : (w.drew.alloc (.cells #[.int .i64 (m : Int), .string s] 69)).cell? ⟨pp, 1, none⟩ = some wv := Lib.cell?_alloc_some _ hc1
    have hcV : (w.alloc (.cells #[.int .i64 (m : Int), .string s] 69)).cell? ⟨pp, 1, none⟩ = some wv := Lib.cell?_alloc_some _ hc1
    have HSW : Hid (S2 rb gd k (.slice (some ⟨gd, 0, none⟩) 12 cap) (.pointer (some ⟨pp, 0, none⟩)) (w.drew.alloc (.cells #[.int .i64 (m : Int), .string s] 69))) := hS.keep fun q hq => by
      rcases hq with rfl | rfl
      · exact hW1.block _ HRB.out
      · exact hW1.block _ HGD.out
    have HW1 := hide hW1
    clear hW1
    refine wpAnyH_ready (rs := [16, 20]) (by kernel_rfl) (by simp) ?_
    refine AllReadyH.cons rfl (fun K hK => ?first) (AllReadyH.cons rfl (fun K hK => ?second) AllReadyH.nil)
    case first =>
      go_simp
      refine hK.out _ _ hS (fun hHeld => ?_)
      clear hK K
      try simp [Act.put]
      refine wpAnyH_ready (rs := [20]) (by kernel_rfl) (by simp) ?_
      refine AllReadyH.cons rfl (fun K hK => ?_) AllReadyH.nil
      go_simp
      refine hK.out _ _ HSW.out (fun hHeld => ?_)
      clear hK K
      try simp [Act.put]
      refine wpAnyH_ready (rs := [21]) (by kernel_rfl) (by simp) ?_
      refine AllReadyH.cons rfl (fun K hK => ?_) AllReadyH.nil
      rw [if_pos (by simp [Region.wanted])]
      refine wp_append_at (.tmp 33) (.tmp 37) 59 rfl 69 i0 (.agg #[.int .i64 0, .string ByteArray.empty]) 2 24 Try.underlying59 HI.out HI0.out HI1.out HI2.out rfl (by decide) wv L (wtV (R k).ct.ws) (by simp [Act.eval]) (row_keep HROW.out fun g hg => HW1.out.block g (row_lt HROW.out hg)) ⟨w.heap.size, 0, none⟩ 1 1 [.int .i64 (m : Int), .string s] (by simp [Act.eval]) rfl (two_new w.drew _ _ _) (by simp [Value.oneCell']) (by unfold maxLen; omega) (by omega) ?_
      intro v' w3 hown hgr hat
      obtain ⟨b9, d9, hv8⟩ := row_form hown
      subst hv8
      have HN := hide (rPush H.out hk HM.out s HPE.out HWV.out HLL.out HW1.out hown hgr hat)
      have hS3 : S2 rb gd k (.slice (some ⟨gd, 0, none⟩) 12 cap) (.pointer (some ⟨pp, 0, none⟩)) w3 := HSW.out.keep fun q hq => hgr.block q (Nat.lt_of_lt_of_le (by rcases hq with rfl | rfl; exact HRB.out; exact HGD.out) HW1.out.size) (fun e' => HWB.out q (hq.imp id .inl) e'.symm)
      have hpb : w3.heap[pp]? = w.heap[pp]? := (hgr.block pp (Nat.lt_of_lt_of_le HPP.out HW1.out.size) (fun e' => HWB.out pp (.inr (.inr rfl)) e'.symm)).trans (HW1.out.block pp HPP.out)
      have hcc : w3.cell? ⟨pp, 1, none⟩ = some wv := (World.cell?_of_block (w := w) (a := ⟨pp, 1, none⟩) hpb).trans hc1
      have hff : w3.frozen? ⟨pp, 1, none⟩ = false := (World.frozen?_of_block (w := w) (a := ⟨pp, 1, none⟩) hpb).trans hf1
      have hne : ∀ q, q = rb ∨ q = gd → (w3.setCell ⟨pp, 1, none⟩ (.slice b9 (L + 1) d9)).heap[q]? = w3.heap[q]? := fun q hq => Below.heap_setCell _ _ _ _ (HPN.out q hq)
      have HS4 := hide (hS3.keep hne)
      clear hown hgr hat hpb hne
      refine hK.out _ _ hS3 (fun hHeld => ?_)
      clear hK K
      try simp [Act.put]
      refine wpAnyH_take (i := 22) (v := ?v101) rfl (by kernel_rfl) (by kernel_rfl) (by kernel_rfl) (fun _ _ _ h => h) (Or.inl ⟨by rfl, ?hy101⟩) hHeld ?rest101
      case hy101 => (intro w' hSw; obtain ⟨s1, s2⟩ := hSw; go_simp; try with_reducible rfl)
      try simp [Act.put]
      refine wpAnyH_take (i := 23) (v := ?v102) rfl (by kernel_rfl) (by kernel_rfl) (by kernel_rfl) (fun _ _ _ h => h) (Or.inl ⟨by rfl, ?hy102⟩) hHeld ?rest102
      case hy102 => (intro w' hSw; obtain ⟨s1, s2⟩ := hSw; go_simp; try with_reducible rfl)
      try simp [Act.put]
      refine wpAnyH_ready (rs := [24]) (by kernel_rfl) (by simp) ?_
      refine AllReadyH.cons rfl (fun K hK => ?_) AllReadyH.nil
      go_simp
      refine hK.out _ _ HS4.out (fun hHeld => ?_)
      clear hK K
      try simp [Act.put]
      refine wpAnyH_done (by kernel_rfl) (NoPanic.normal ?_) _
      generalize w3.setCell ⟨pp, 1, none⟩ (.slice b9 (L + 1) d9) = W4 at *
      clear hcc hff hS3 hHeld
      go_wp2_with fail
      try go_ret
      exact ⟨rfl, _, HN.out.1, HN.out.2, by rw [← HCK.out]; exact HC.out.upd k _⟩
    case second =>
      go_simp
      refine hK.out _ _ HSW.out (fun hHeld => ?_)
      clear hK K
      try simp [Act.put]
      refine wpAnyH_ready (rs := [16]) (by kernel_rfl) (by simp) ?_
      refine AllReadyH.cons rfl (fun K hK => ?_) AllReadyH.nil
      go_simp
      refine hK.out _ _ HSW.out (fun hHeld => ?_)
      clear hK K
      try simp [Act.put]
      refine wpAnyH_ready (rs := [21]) (by kernel_rfl) (by simp) ?_
      refine AllReadyH.cons rfl (fun K hK => ?_) AllReadyH.nil
      rw [if_pos (by simp [Region.wanted])]
      refine wp_append_at (.tmp 33) (.tmp 37) 59 rfl 69 i0 (.agg #[.int .i64 0, .string ByteArray.empty]) 2 24 Try.underlying59 HI.out HI0.out HI1.out HI2.out rfl (by decide) wv L (wtV (R k).ct.ws) (by simp [Act.eval]) (row_keep HROW.out fun g hg => HW1.out.block g (row_lt HROW.out hg)) ⟨w.heap.size, 0, none⟩ 1 1 [.int .i64 (m : Int), .string s] (by simp [Act.eval]) rfl (two_new w.drew _ _ _) (by simp [Value.oneCell']) (by unfold maxLen; omega) (by omega) ?_
      intro v' w3 hown hgr hat
      obtain ⟨b9, d9, hv8⟩ := row_form hown
      subst hv8
      have HN := hide (rPush H.out hk HM.out s HPE.out HWV.out HLL.out HW1.out hown hgr hat)
      have hS3 : S2 rb gd k (.slice (some ⟨gd, 0, none⟩) 12 cap) (.pointer (some ⟨pp, 0, none⟩)) w3 := HSW.out.keep fun q hq => hgr.block q (Nat.lt_of_lt_of_le (by rcases hq with rfl | rfl; exact HRB.out; exact HGD.out) HW1.out.size) (fun e' => HWB.out q (hq.imp id .inl) e'.symm)
      have hpb : w3.heap[pp]? = w.heap[pp]? := (hgr.block pp (Nat.lt_of_lt_of_le HPP.out HW1.out.size) (fun e' => HWB.out pp (.inr (.inr rfl)) e'.symm)).trans (HW1.out.block pp HPP.out)
      have hcc : w3.cell? ⟨pp, 1, none⟩ = some wv := (World.cell?_of_block (w := w) (a := ⟨pp, 1, none⟩) hpb).trans hc1
      have hff : w3.frozen? ⟨pp, 1, none⟩ = false := (World.frozen?_of_block (w := w) (a := ⟨pp, 1, none⟩) hpb).trans hf1
      have hne : ∀ q, q = rb ∨ q = gd → (w3.setCell ⟨pp, 1, none⟩ (.slice b9 (L + 1) d9)).heap[q]? = w3.heap[q]? := fun q hq => Below.heap_setCell _ _ _ _ (HPN.out q hq)
      have HS4 := hide (hS3.keep hne)
      clear hown hgr hat hpb hne
      refine hK.out _ _ hS3 (fun hHeld => ?_)
      clear hK K
      try simp [Act.put]
      refine wpAnyH_take (i := 22) (v := ?v201) rfl (by kernel_rfl) (by kernel_rfl) (by kernel_rfl) (fun _ _ _ h => h) (Or.inl ⟨by rfl, ?hy201⟩) hHeld ?rest201
      case hy201 => (intro w' hSw; obtain ⟨s1, s2⟩ := hSw; go_simp; try with_reducible rfl)
      try simp [Act.put]
      refine wpAnyH_take (i := 23) (v := ?v202) rfl (by kernel_rfl) (by kernel_rfl) (by kernel_rfl) (fun _ _ _ h => h) (Or.inl ⟨by rfl, ?hy202⟩) hHeld ?rest202
      case hy202 => (intro w' hSw; obtain ⟨s1, s2⟩ := hSw; go_simp; try with_reducible rfl)
      try simp [Act.put]
      refine wpAnyH_ready (rs := [24]) (by kernel_rfl) (by simp) ?_
      refine AllReadyH.cons rfl (fun K hK => ?_) AllReadyH.nil
      go_simp
      refine hK.out _ _ HS4.out (fun hHeld => ?_)
      clear hK K
      try simp [Act.put]
      refine wpAnyH_done (by kernel_rfl) (NoPanic.normal ?_) _
      generalize w3.setCell ⟨pp, 1, none⟩ (.slice b9 (L + 1) d9) = W4 at *
      clear hcc hff hS3 hHeld
      go_wp2_with fail
      try go_ret
      exact ⟨rfl, _, HN.out.1, HN.out.2, by rw [← HCK.out]; exact HC.out.upd k _⟩
  · rw [if_neg hz]
    have HD : Hid (DidR rb v R w C w) := didR_same h hC (Below.refl _ _)
    clear h hC
    generalize eTakeC C d n s = E at *
    have hq : ((E : Int) == 0) = false := by rw [beq_eq_false_iff_ne]; omega
    go_enter Try.func26, Try.ntmps26
    go_wp2_with fail
    refine HK.out.mono ?_
    rintro e w1 ⟨rfl, rfl⟩
    go_wp2_with fail
    try go_ret
    exact ⟨rfl, HD.out⟩
end Go.Proofs.Ytnpioaidbmllkaa
