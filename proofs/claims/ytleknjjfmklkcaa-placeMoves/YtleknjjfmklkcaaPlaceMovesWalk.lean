/- PlaceMoves answers true at every input. -/
import Derived.Test.YtleknjjfmklkcaaPlVR
import Derived.Lib.QuietBelow
namespace Go.Proofs.Ytleknjjfmklkcaa
open Go.RowKit
set_option linter.unusedVariables false
theorem live_q (W : World) (d : Nat) (os : Array Obj) : Calls Try.prog 9 #[] (Go.Sort.grow (redrawn W d) os) fun e w'' => e = .returned (.bool true) ∧ ∃ p : Regrown, w'' = Go.Sort.grow (redrawn W p.d) p.os := (live_any _).regrown_of
/-- what counts are, of places of which one was moved from m to x, or none yet -/
def MvR (b : Bool) (m x : Int) (N W : Int → Nat) : Prop := (∀ d, N d + (if b = true ∧ d = m then 1 else 0) = W d + (if b = true ∧ d = x then 1 else 0)) ∧ (b = false → W m = 0)
theorem MvR.start (m x : Int) : MvR false m x (fun _ => 0) (fun _ => 0) := ⟨fun d => by simp, fun _ => rfl⟩
theorem MvR.congr {b : Bool} {m x : Int} {N N' W W' : Int → Nat} (h : MvR b m x N W) (e1 : ∀ d, N d = N' d) (e2 : ∀ d, W d = W' d) : MvR b m x N' W' := by
  obtain rfl : N = N' := funext e1
  obtain rfl : W = W' := funext e2
  exact h
theorem MvR.move {m x : Int} {N W : Int → Nat} (h : MvR false m x N W) : MvR true m x (fun d => N d + (if x = d then 1 else 0)) (fun d => W d + (if m = d then 1 else 0)) := by
  refine ⟨fun d => ?_, fun h => by cases h⟩
  have := h.1 d
  simp at this ⊢
  simp only [eq_comm (a := d)]
  omega
theorem MvR.keep {b : Bool} {m x e : Int} {N W : Int → Nat} (h : MvR b m x N W) (hn : b = false → e ≠ m) : MvR b m x (fun d => N d + (if e = d then 1 else 0)) (fun d => W d + (if e = d then 1 else 0)) := by
  refine ⟨fun d => ?_, fun hb => ?_⟩
  · have := h.1 d
    simp only
    omega
  · simp only
    rw [h.2 hb, if_neg (hn hb)]
set_option maxRecDepth 100000 in
set_option maxHeartbeats 8000000 in
theorem moves_is (a al : Option Addr) (n c nl cl : Nat) (l : List Int) (vs : List Vol) (w : World) (hl : vs.length = n) (hn : n ≤ 9223372036854775807) (hS : VolsAt w a vs) (hN : n ≤ 30 → allN (vs.map Vol.ls) ≤ 4611686018427387904) (hll : l.length = nl) (hnl : nl ≤ 9223372036854775807) (hSl : IntsAt w al l) :
    Calls Try.prog 7 #[.slice a n c, .slice al nl cl] w fun e w' => e = .returned (.bool true) ∧ Below w.heap.size w w' := by
  have HL := hide hl
  have HS := hide hS
  have HLL := hide hll
  have HSl := hide hSl
  have HNN := hide hN
  clear hl hS hll hSl hN
  by_cases h1 : 30 < n
  · have hd : decide ((30 : Int) < (n : Int)) = true := by simp; omega
    go_enter Try.func7, Try.ntmps7
    go_wp2_with fail
    refine (live_any _).mono ?_
    rintro e w1 ⟨rfl, hb⟩
    have HB1 := hide hb
    clear hb
    go_wp2_with fail
    try go_ret
    exact ⟨rfl, HB1.out⟩
  have hd : decide ((30 : Int) < (n : Int)) = false := by simp; omega
  by_cases h2 : 12 < nl
  · have hd2 : decide ((12 : Int) < (nl : Int)) = true := by simp; omega
    go_enter Try.func7, Try.ntmps7
    go_wp2_with fail
    refine (live_any _).mono ?_
    rintro e w1 ⟨rfl, hb⟩
    have HB1 := hide hb
    clear hb
    go_wp2_with fail
    try go_ret
    exact ⟨rfl, HB1.out⟩
  have hd2 : decide ((12 : Int) < (nl : Int)) = false := by simp; omega
  have HALL := hide (HNN.out (by omega))
  clear HNN
  by_cases hU' : evU (vs.map Vol.ls) l = false
  · have HE := hide (even_any a al n c nl cl l vs w HL.out hn HS.out HALL.out HLL.out hnl HSl.out)
    unfold Evened at HE
    rw [hU'] at HE
    clear hU'
    go_enter Try.func7, Try.ntmps7
    go_wp2_with fail
    refine HE.out.mono ?_
    rintro e w1 ⟨rfl, hb1⟩
    have HB1 := hide hb1
    clear hb1
    go_wp2_with fail
    refine (live_any _).mono ?_
    rintro e w2 ⟨rfl, hb⟩
    have HB2 : Hid (Below w.heap.size w w2) := HB1.out.trans (hb.mono HB1.out.size)
    clear hb
    go_wp2_with fail
    try go_ret
    exact ⟨rfl, HB2.out⟩
  have hU : evU (vs.map Vol.ls) l = true := by simpa using hU'
  clear hU'
  have hB : evB l = true := by
    cases h : evB l with
    | true => rfl
    | false => unfold evU at hU; rw [h] at hU; simp at hU
  obtain ⟨hlv, hl0⟩ := evB_parts hB
  have hM : evM (vs.map Vol.ls) l = mostT (ldV (vs.map Vol.ls)) l l.length := by unfold evM; rw [hB]; rfl
  have hX : evL (vs.map Vol.ls) l = leastT (ldV (vs.map Vol.ls)) l l.length := by unfold evL; rw [hB]; rfl
  have hUU : ldV (vs.map Vol.ls) (evL (vs.map Vol.ls) l) + 2 ≤ ldV (vs.map Vol.ls) (evM (vs.map Vol.ls) l) := by
    rw [hM, hX]
    unfold evU at hU
    rw [if_pos hB] at hU
    simpa using hU
  obtain ⟨i1, hi1, em⟩ := mostT_in (ldV (vs.map Vol.ls)) (l := l) (by omega) l.length
  obtain ⟨i2, hi2, ex⟩ := leastT_in (ldV (vs.map Vol.ls)) (l := l) (by omega) l.length
  have lm := live_at hlv hi1
  have lx := live_at hlv hi2
  rw [← em, ← hM] at lm
  rw [← ex, ← hX] at lx
  have HE := hide (even_any a al n c nl cl l vs w HL.out hn HS.out HALL.out HLL.out hnl HSl.out)
  unfold Evened at HE
  rw [hU] at HE
  clear hU em ex hM hX hi1 hi2 hB hlv hl0
  generalize evM (vs.map Vol.ls) l = M at *
  generalize evL (vs.map Vol.ls) l = X at *
  obtain ⟨m, rfl⟩ := Int.eq_ofNat_of_zero_le lm.1
  obtain ⟨x, rfl⟩ := Int.eq_ofNat_of_zero_le lx.1
  have hm12 : m < 12 := by omega
  have hx12 : x < 12 := by omega
  have hmx : m ≠ x := fun e => by rw [e] at hUU; omega
  have HUU := hide hUU
  clear lm lx hUU
  have p1 : decide ((m : Int) < 0) = false := by simp
  have p2 : decide ((11 : Int) < (m : Int)) = false := by simp; omega
  have p3 : decide ((x : Int) < 0) = false := by simp
  have p4 : decide ((11 : Int) < (x : Int)) = false := by simp; omega
  obtain ⟨iL, hiL, hL0, hL1, hL2⟩ := info_parts loc_info
  obtain ⟨iV, hiV, hV0, hV1, hV2⟩ := info_parts vol_info
  have HIL := hide hiL
  have HL0 := hide hL0
  have HL1 := hide hL1
  have HL2 := hide hL2
  have HIV := hide hiV
  have HV0 := hide hV0
  have HV1 := hide hV1
  have HV2 := hide hV2
  clear hiL hL0 hL1 hL2 hiV hV0 hV1 hV2
  go_enter Try.func7, Try.ntmps7
  go_wp2_with fail
  refine HE.out.mono ?_
  rintro e w0 ⟨rfl, hb0⟩
  have HB0 := hide hb0
  clear hb0
  go_wp2_with fail
  refine (load_any a n c vs _ HL.out hn (HS.out.below HB0.out) HALL.out).mono ?_
  rintro e w1 ⟨g, rfl, -, hc1, hb1⟩
  have HB1 : Hid (Below w.heap.size w w1) := HB0.out.trans (hb1.mono HB0.out.size)
  have HC1 := hide hc1
  have HS1 := hide (HS.out.below HB1.out)
  clear hb1 hc1 HB0
  go_wp2_with fail
  go_loopw [9, 10, 11] (fun v u y wr => ∃ (i : Nat) (ns : List Vol) (b : Bool), i ≤ n ∧ y = .int .i64 i ∧ u = .bool b ∧ ns.length = i ∧ (∀ y ∈ ns, y.n ≤ 30) ∧ VR w1 wr v ns ∧ MvR b m x (ldV (ns.map Vol.ls)) (ldV ((vs.map Vol.ls).take i))) (fun _ _ y _ => n - (intOf y).toNat)
  case atStart => exact ⟨0, [], false, by omega, rfl, rfl, rfl, fun y hy => by simp at hy, VR.nil (Below.refl _ _), (MvR.start _ _).congr (fun d => by simp [ldV]) (fun d => by simp [ldV])⟩
  case round =>
    obtain ⟨i, ns, b, hi, rfl, rfl, hnl', h30, hvr, hmv⟩ := hrel
    obtain ⟨wo, hwo⟩ : ∃ wo, wo = wr := ⟨_, rfl⟩
    subst hwo
    have HNL := hide hnl'
    have H30 := hide h30
    have HVR := hide hvr
    have HMV := hide hmv
    have HBr := hide hvr.row.2
    clear hnl' h30 hvr hmv
    by_cases hlt : i < n
    · have hdi : decide ((i : Int) < (n : Int)) = true := by simp; omega
      have hii : (i : Int) < (n : Int) := by omega
      obtain ⟨xv, hxv⟩ : ∃ x, vs[i]? = some x := ⟨_, List.getElem?_eq_getElem (by have := HL.out; omega)⟩
      rcases HS1.out with q | ⟨bb, o, rfl, hbs, hc⟩
      · rw [q] at hxv; simp at hxv
      obtain ⟨hv, his⟩ := hc i xv hxv
      have hbs' : bb < wo.heap.size := Nat.lt_of_lt_of_le hbs HBr.out.size
      have hv' := hv.below HBr.out hbs
      have c0 := hv'.c0
      have c1 := hv'.c1
      have c2 := hv'.c2
      have c3 := hv'.c3
      have HVS : Hid ((vs.map Vol.ls)[i]? = some xv.ls) := by unfold Hid; rw [List.getElem?_map, hxv]; rfl
      have HIS := hide (his.below HBr.out)
      have n63 := his.n63
      clear hv hv' his hc hxv
      obtain ⟨xid, xgen, xlen, xa, xn, xc, xls⟩ := xv
      simp only at c0 c1 c2 c3 HVS n63
      by_cases h3 : 30 < xn
      · have hd3 : decide ((30 : Int) < (xn : Int)) = true := by simp; omega
        go_wp2_with fail
        refine (live_any _).mono ?_
        rintro e w2 ⟨rfl, hb⟩
        have HB2 : Hid (Below w.heap.size w w2) := (HB1.out.trans (HBr.out.mono HB1.out.size)).trans (hb.mono (Nat.le_trans HB1.out.size HBr.out.size))
        clear hb
        go_wp2_with fail
        try go_ret
        exact ⟨rfl, HB2.out⟩
      · have hd3 : decide ((30 : Int) < (xn : Int)) = false := by simp; omega
        have HC3 := hide c3
        have HST := hide (BX.start wo xid xgen xlen)
        have HMV0 : Hid (MvR b m x (fun d => ldV (ns.map Vol.ls) d + ldN [] d) (fun d => ldV ((vs.map Vol.ls).take i) d + ldN (xls.take 0) d)) := HMV.out.congr (fun d => by simp [ldN]) (fun d => by simp [ldN])
        go_wp2_with fail
        clear c0 c1 c2 c3
        go_loopw [10, 13] (fun u y wq => ∃ (k : Nat) (b : Bool) (v : Value) (ms : List (Int × Int)), k ≤ xn ∧ y = .int .i64 k ∧ u = .bool b ∧ ms.length = k ∧ BX wo wq xid xgen xlen v ms ∧ MvR b m x (fun d => ldV (ns.map Vol.ls) d + ldN ms d) (fun d => ldV ((vs.map Vol.ls).take i) d + ldN (xls.take k) d)) (fun _ y _ => xn - (intOf y).toNat)
        case atStart => exact ⟨0, b, _, [], by omega, rfl, rfl, rfl, HST.out, HMV0.out⟩
        case round =>
          obtain ⟨k, b, v, ms, hk, rfl, rfl, hms, hbx, hmv⟩ := hrel
          have HMS := hide hms
          have HBX := hide hbx
          have HMV2 := hide hmv
          clear hms hbx hmv HST HMV0
          by_cases hkl : k < xn
          · have hdk : decide ((k : Int) < (xn : Int)) = true := by simp; omega
            have hki : (k : Int) < (xn : Int) := by omega
            have c3 := (HBX.out.bel.cell (p := ⟨bb, o + i * 4 + 3, none⟩) hbs').trans HC3.out
            obtain ⟨⟨d, sl⟩, hy⟩ : ∃ y, xls[k]? = some y := ⟨_, List.getElem?_eq_getElem (by have := HIS.out.len; simp only at this; omega)⟩
            have hloc := HIS.out.locs
            simp only at hloc
            rcases hloc with q | ⟨bl, ol, rfl, hbb, hcl⟩
            · rw [q] at hy; simp at hy
            obtain ⟨k0, k1⟩ := hcl k _ hy
            simp only at k0 k1
            have k0' := (HBX.out.bel.cell (p := ⟨bl, ol + k * 2, none⟩) hbb).trans k0
            have k1' := (HBX.out.bel.cell (p := ⟨bl, ol + k * 2 + 1, none⟩) hbb).trans k1
            have HY := hide hy
            have HTK : Hid (∀ e, ldN (xls.take (k + 1)) e = ldN (xls.take k) e + (if d = e then 1 else 0)) := fun e => by rw [take_snoc HY.out, ldN_snoc]
            obtain ⟨av, cv, rfl, hcv, hcm⟩ := HBX.out.form
            have hwlt := HBX.out.lt
            have hms30 : ms.length ≤ 30 := by have := HMS.out; omega
            clear k0 k1 hcl hy
            by_cases hmove : b = false ∧ d = (m : Int)
            · obtain ⟨rfl, rfl⟩ := hmove
              have HBX2 := hide (HBX.out.below ((Below.refl _ wr).alloc (Nat.le_refl _) (.cells #[.int .i64 (x : Int), .int .i64 sl] 45)))
              obtain ⟨-, -, -, b3, bf⟩ := HBX2.out.cells
              have hq : ((m : Int) == (m : Int)) = true := by simp
              go_wp2_with (first | (at_builtin; refine wpList_append_own _ rfl (.tmp 104) (.tmp 106) 34 rfl (wo.heap.size + 1) 45 iL (.agg #[.int .i64 0, .int .i64 0]) 2 16 Try.underlying34 HIL.out HL0.out HL1.out HL2.out rfl (by decide) _ _ _ rfl (HBX2.out.row.alloc _) ⟨wr.heap.size + 1, 0, none⟩ 1 1 [.int .i64 (x : Int), .int .i64 sl] rfl rfl (by have := cell_two_new (wr.alloc (.cells #[.int .i64 (x : Int), .int .i64 sl] 45)) (.int .i64 (x : Int)) (.int .i64 sl) 45; rw [World.size_alloc] at this; exact this) (by simp [Value.oneCell']) (by unfold maxLen; omega) (by omega) (by simp only [World.size_alloc]; omega) ?_; intro v' w3 hown hgr hnil; clear hnil; obtain ⟨g', cap', rfl⟩ := ownsRow_succ hown; obtain ⟨hbxm, -⟩ := HBX2.out.mid hgr; have cst : w3.cell? ⟨wo.heap.size, 3, none⟩ = some (.slice av ms.length cv) := cell_of_block hbxm; have fst : w3.frozen? ⟨wo.heap.size, 3, none⟩ = false := free_of_block hbxm; have HN3 := hide (HBX2.out.step (y := ((x : Int), sl)) hown hgr); clear hown hgr hbxm))
              go_roundw
              case rel => exact ⟨k + 1, true, _, ms ++ [((x : Int), sl)], by omega, by go_num, rfl, by rw [List.length_append]; have := HMS.out; simp; omega, HN3.out, HMV2.out.move.congr (fun e => by rw [ldN_snoc]; simp only; omega) (fun e => by rw [HTK.out]; omega)⟩
              case measure => simp [intOf]; omega
            · have HMO := hide hmove
              clear hmove
              have HBX2 := hide (HBX.out.below ((Below.refl _ wr).alloc (Nat.le_refl _) (.cells #[.int .i64 d, .int .i64 sl] 45)))
              obtain ⟨-, -, -, b3, bf⟩ := HBX2.out.cells
              have HKP : Hid (MvR b m x (fun e => ldV (ns.map Vol.ls) e + ldN (ms ++ [(d, sl)]) e) (fun e => ldV ((vs.map Vol.ls).take i) e + ldN (xls.take (k + 1)) e)) := (HMV2.out.keep (e := d) fun hb hd => HMO.out ⟨hb, hd⟩).congr (fun e => by rw [ldN_snoc]; simp only; omega) (fun e => by rw [HTK.out]; omega)
              have hmq : b = true ∨ (d == (m : Int)) = false := by
                cases b with
                | true => exact .inl rfl
                | false => exact .inr (by simp; intro e; exact HMO.out ⟨rfl, e⟩)
              rcases hmq with rfl | hq
              · go_wp2_with (first | (at_builtin; refine wpList_append_own _ rfl (.tmp 104) (.tmp 106) 34 rfl (wo.heap.size + 1) 45 iL (.agg #[.int .i64 0, .int .i64 0]) 2 16 Try.underlying34 HIL.out HL0.out HL1.out HL2.out rfl (by decide) _ _ _ rfl (HBX2.out.row.alloc _) ⟨wr.heap.size + 1, 0, none⟩ 1 1 [.int .i64 d, .int .i64 sl] rfl rfl (by have := cell_two_new (wr.alloc (.cells #[.int .i64 d, .int .i64 sl] 45)) (.int .i64 d) (.int .i64 sl) 45; rw [World.size_alloc] at this; exact this) (by simp [Value.oneCell']) (by unfold maxLen; omega) (by omega) (by simp only [World.size_alloc]; omega) ?_; intro v' w3 hown hgr hnil; clear hnil; obtain ⟨g', cap', rfl⟩ := ownsRow_succ hown; obtain ⟨hbxm, -⟩ := HBX2.out.mid hgr; have cst : w3.cell? ⟨wo.heap.size, 3, none⟩ = some (.slice av ms.length cv) := cell_of_block hbxm; have fst : w3.frozen? ⟨wo.heap.size, 3, none⟩ = false := free_of_block hbxm; have HN3 := hide (HBX2.out.step (y := (d, sl)) hown hgr); clear hown hgr hbxm))
                go_roundw
                case rel => exact ⟨k + 1, true, _, ms ++ [(d, sl)], by omega, by go_num, rfl, by rw [List.length_append]; have := HMS.out; simp; omega, HN3.out, HKP.out⟩
                case measure => simp [intOf]; omega
              · cases b with
                | true =>
                  go_wp2_with (first | (at_builtin; refine wpList_append_own _ rfl (.tmp 104) (.tmp 106) 34 rfl (wo.heap.size + 1) 45 iL (.agg #[.int .i64 0, .int .i64 0]) 2 16 Try.underlying34 HIL.out HL0.out HL1.out HL2.out rfl (by decide) _ _ _ rfl (HBX2.out.row.alloc _) ⟨wr.heap.size + 1, 0, none⟩ 1 1 [.int .i64 d, .int .i64 sl] rfl rfl (by have := cell_two_new (wr.alloc (.cells #[.int .i64 d, .int .i64 sl] 45)) (.int .i64 d) (.int .i64 sl) 45; rw [World.size_alloc] at this; exact this) (by simp [Value.oneCell']) (by unfold maxLen; omega) (by omega) (by simp only [World.size_alloc]; omega) ?_; intro v' w3 hown hgr hnil; clear hnil; obtain ⟨g', cap', rfl⟩ := ownsRow_succ hown; obtain ⟨hbxm, -⟩ := HBX2.out.mid hgr; have cst : w3.cell? ⟨wo.heap.size, 3, none⟩ = some (.slice av ms.length cv) := cell_of_block hbxm; have fst : w3.frozen? ⟨wo.heap.size, 3, none⟩ = false := free_of_block hbxm; have HN3 := hide (HBX2.out.step (y := (d, sl)) hown hgr); clear hown hgr hbxm))
                  go_roundw
                  case rel => exact ⟨k + 1, true, _, ms ++ [(d, sl)], by omega, by go_num, rfl, by rw [List.length_append]; have := HMS.out; simp; omega, HN3.out, HKP.out⟩
                  case measure => simp [intOf]; omega
                | false =>
                  go_wp2_with (first | (at_builtin; refine wpList_append_own _ rfl (.tmp 104) (.tmp 106) 34 rfl (wo.heap.size + 1) 45 iL (.agg #[.int .i64 0, .int .i64 0]) 2 16 Try.underlying34 HIL.out HL0.out HL1.out HL2.out rfl (by decide) _ _ _ rfl (HBX2.out.row.alloc _) ⟨wr.heap.size + 1, 0, none⟩ 1 1 [.int .i64 d, .int .i64 sl] rfl rfl (by have := cell_two_new (wr.alloc (.cells #[.int .i64 d, .int .i64 sl] 45)) (.int .i64 d) (.int .i64 sl) 45; rw [World.size_alloc] at this; exact this) (by simp [Value.oneCell']) (by unfold maxLen; omega) (by omega) (by simp only [World.size_alloc]; omega) ?_; intro v' w3 hown hgr hnil; clear hnil; obtain ⟨g', cap', rfl⟩ := ownsRow_succ hown; obtain ⟨hbxm, -⟩ := HBX2.out.mid hgr; have cst : w3.cell? ⟨wo.heap.size, 3, none⟩ = some (.slice av ms.length cv) := cell_of_block hbxm; have fst : w3.frozen? ⟨wo.heap.size, 3, none⟩ = false := free_of_block hbxm; have HN3 := hide (HBX2.out.step (y := (d, sl)) hown hgr); clear hown hgr hbxm))
                  go_roundw
                  case rel => exact ⟨k + 1, false, _, ms ++ [(d, sl)], by omega, by go_num, rfl, by rw [List.length_append]; have := HMS.out; simp; omega, HN3.out, HKP.out⟩
                  case measure => simp [intOf]; omega
          · have hdk : decide ((k : Int) < (xn : Int)) = false := by simp; omega
            have c3 := (HBX.out.bel.cell (p := ⟨bb, o + i * 4 + 3, none⟩) hbs').trans HC3.out
            obtain ⟨av, cv, rfl, hcv, hcm⟩ := HBX.out.form
            obtain ⟨b0, b1, b2, b3, bf⟩ := HBX.out.cells
            have HVR2 := hide (HVR.out.below HBX.out.bel)
            have hsz2 := HVR2.out.row.2.size
            have HROW : Hid (wr.ownsRow w1.heap.size 45 2 (.slice av ms.length cv) ms.length (lcV ms)) := own_mono HBX.out.row (by have := HBr.out.size; omega)
            have hns : ns.length ≤ 30 := by have := HNL.out; omega
            have hms30 : ms.length ≤ 30 := by have := HMS.out; omega
            have HMV3 : Hid (MvR b m x (ldV ((ns ++ [(⟨xid, xgen, xlen, av, ms.length, cv, ms⟩ : Vol)]).map Vol.ls)) (ldV ((vs.map Vol.ls).take (i + 1)))) := HMV2.out.congr (fun e => by rw [List.map_append]; exact (ldV_snoc _ _ _).symm) (fun e => by
              have hxl : xls.length = xn := HIS.out.len
              rw [take_snoc HVS.out, ldV_snoc, show xls.take k = xls from List.take_of_length_le (by omega)])
            have HN30 : Hid (∀ y ∈ ns ++ [(⟨xid, xgen, xlen, av, ms.length, cv, ms⟩ : Vol)], y.n ≤ 30) := fun y hy => by
              rcases List.mem_append.1 hy with q | q
              · exact H30.out y q
              · rw [List.mem_singleton.1 q]; exact hms30
            go_wp2_with (first | (at_builtin; refine wpList_append_own _ rfl (.tmp 109) (.tmp 111) 33 rfl w1.heap.size 36 iV (.agg #[.int .i64 0, .int .i64 0, .int .i64 0, .slice none 0 0]) 4 48 Try.underlying33 HIV.out HV0.out HV1.out HV2.out rfl (by decide) _ _ _ rfl (HVR2.out.row.1.alloc _) ⟨wr.heap.size, 0, none⟩ 1 1 (volC ⟨xid, xgen, xlen, av, ms.length, cv, ms⟩) rfl rfl (cell_four_new _ _ _) (by simp [Value.oneCell', volC]) (by unfold maxLen; omega) (by omega) (by simp only [World.size_alloc]; omega) ?_; intro v' w3 hown hgr hnil; clear hnil; have HN3 := hide (HVR2.out.step (x := ⟨xid, xgen, xlen, av, ms.length, cv, ms⟩) rfl (by show ms.length ≤ 1000; omega) HROW.out hown hgr); clear hown hgr))
            all_goals first | exact ⟨⟨i + 1, _, b, by omega, by go_num, rfl, by rw [List.length_append]; have := HNL.out; simp; omega, HN30.out, HN3.out, HMV3.out⟩, by simp [intOf]; omega⟩ | (go_roundw; (case rel => exact ⟨i + 1, _, b, by omega, by go_num, rfl, by rw [List.length_append]; have := HNL.out; simp; omega, HN30.out, HN3.out, HMV3.out⟩); (case measure => simp [intOf]; omega))
    · have hdi : decide ((i : Int) < (n : Int)) = false := by simp; omega
      obtain ⟨an, cn, hve, hvn⟩ := HVR.out.at
      rw [HNL.out] at hve
      subst hve
      have HVN := hide hvn
      clear hvn
      have HAN : Hid (allN (ns.map Vol.ls) ≤ 4611686018427387904) := by
        have h1 : ∀ x ∈ ns, x.ls.length ≤ 30 := fun x hx => by rw [vols_len HVN.out x hx]; exact H30.out x hx
        have := allN_le h1
        have := HNL.out
        unfold Hid
        omega
      have HMVF : Hid (MvR b m x (ldV (ns.map Vol.ls)) (ldV (vs.map Vol.ls))) := HMV.out.congr (fun e => rfl) (fun e => by rw [List.take_of_length_le (by rw [List.length_map, HL.out]; omega)])
      have hbt : b = true := by
        cases b with
        | true => rfl
        | false => have := HMVF.out.2 rfl; have := HUU.out; omega
      subst hbt
      have hNm : ldV (ns.map Vol.ls) (m : Int) + 1 = ldV (vs.map Vol.ls) (m : Int) := by
        have := HMVF.out.1 (m : Int)
        rw [if_pos ⟨rfl, rfl⟩, if_neg (by intro h; exact hmx (by omega))] at this
        omega
      have hNx : ldV (ns.map Vol.ls) (x : Int) = ldV (vs.map Vol.ls) (x : Int) + 1 := by
        have := HMVF.out.1 (x : Int)
        rw [if_neg (fun h => hmx (by have := h.2; omega)), if_pos ⟨rfl, rfl⟩] at this
        omega
      have HNm := hide hNm
      have HNx := hide hNx
      have HB2 : Hid (Below w.heap.size w wo) := HB1.out.trans (HBr.out.mono HB1.out.size)
      have HC2 : Hid (CntAt wo g (fun d => ldV (vs.map Vol.ls) d)) := FnAt.below HC1.out HBr.out HC1.out.lt
      have HLDN := hide (load_any an i cn ns wo HNL.out (by omega) HVN.out HAN.out)
      clear hNm hNx
      go_wp2_with fail
      refine HLDN.out.mono ?_
      rintro e w4 ⟨g2, rfl, -, hc4, hb4⟩
      have HB4 : Hid (Below w.heap.size w w4) := HB2.out.trans (hb4.mono HB2.out.size)
      have HC4 : Hid (CntAt w4 g (fun d => ldV (vs.map Vol.ls) d)) := FnAt.below HC2.out hb4 HC2.out.lt
      have q1 := hc4.cell hm12
      have q2 := hc4.cell hx12
      have q3 := HC4.out.cell hm12
      have q4 := HC4.out.cell hx12
      have bm := Nat.le_trans (ldV_le (vs.map Vol.ls) (m : Int)) HALL.out
      have bx := Nat.le_trans (ldV_le (vs.map Vol.ls) (x : Int)) HALL.out
      have e1 := HNm.out
      have e2 := HNx.out
      have e3 := HUU.out
      clear hb4 hc4
      generalize ldV (ns.map Vol.ls) (m : Int) = Nm at *
      generalize ldV (ns.map Vol.ls) (x : Int) = Nx at *
      generalize ldV (vs.map Vol.ls) (m : Int) = Wm at *
      generalize ldV (vs.map Vol.ls) (x : Int) = Wx at *
      have s1 : IntKind.i64.wrap ((Wm : Int) - 1) = (Nm : Int) := by rw [IntKind.wrap_i64]; omega
      have s2 : IntKind.i64.wrap ((Wx : Int) + 1) = (Nx : Int) := by rw [IntKind.wrap_i64]; omega
      have t1 : decide ((Nx : Int) ≤ (Nm : Int)) = true := by simp; omega
      have t2 : Nx ≤ Nm := by omega
      have hmi : (m : Int) < 12 := by omega
      have hxi : (x : Int) < 12 := by omega
      have hm0 : (0 : Int) ≤ (m : Int) := by omega
      have hx0 : (0 : Int) ≤ (x : Int) := by omega
      clear e1 e2 e3
      go_wp2_with fail
      have r1 := cell_regrown q1
      have r2 := cell_regrown q2
      have r3 := cell_regrown q3
      have r4 := cell_regrown q4
      have rl := live_q w4
      clear q1 q2 q3 q4
      refine wp_region_quiet_below (by kernel_rfl) (by kernel_rfl) ?_
      repeat (quiet_step (first | (with_reducible exact rl _ _)))
      refine wpQuiet_nil ?_
      intro _ hw'
      obtain ⟨pq, hw''⟩ := hw'
      subst hw''
      have HQ := hide (HB4.out.trans ((below_regrown w4 pq.d pq.os).mono HB4.out.size))
      generalize Go.Sort.grow (redrawn w4 pq.d) pq.os = WQ at *
      go_wp2_with fail
      try go_ret
      exact ⟨rfl, HQ.out⟩
theorem walkPlaceMoves (a : Option Addr) (n c : Nat) (al : Option Addr) (nl cl : Nat) (w : World) (h : CameSz 33 w a n c) (h2 : Came 22 w al nl cl) : Calls Try.prog 7 #[.slice a n c, .slice al nl cl] w fun e w' => e = .returned (.bool true) ∧ Below w.heap.size w w' := by
  obtain ⟨vs, h3, h4, h5, h6⟩ := came_vols h
  obtain ⟨l, h7, -, h8, h9⟩ := came_ints h2
  refine moves_is a al n c nl cl l vs w h3 h4 h5 (fun hn => ?_) h7 h8 h9
  have := allN_le (vs := vs) (B := 8796093022208) fun x hx => by rw [vols_len h5 x hx]; exact h6 x hx
  rw [h3] at this
  have h10 : n * 8796093022208 ≤ 30 * 8796093022208 := Nat.mul_le_mul_right _ hn
  omega
end Go.Proofs.Ytleknjjfmklkcaa
