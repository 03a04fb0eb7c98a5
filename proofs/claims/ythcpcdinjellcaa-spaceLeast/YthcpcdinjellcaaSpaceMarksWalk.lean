/- SpaceMarks answers true at every input. -/
import Derived.Test.YthcpcdinjellcaaSpLive
namespace Go.Proofs.Ythcpcdinjellcaa
open Go.RowKit
set_option linter.unusedVariables false
set_option maxRecDepth 100000 in
theorem is_any (x y : Int) (w : World) : Calls Try.prog 20 #[.agg #[.int .i64 x, .int .i64 y]] w fun e w' => e = .returned (.bool (okL (x, y))) ∧ Below w.heap.size w w' := by
  have HB : Hid (Below w.heap.size w (w.alloc (.cells #[.int .i64 x, .int .i64 y] 31))) := (Below.refl _ _).alloc (Nat.le_refl _) _
  have main : ∀ (b1 b2 b3 b4 : Bool), decide (0 ≤ x) = b1 → decide (x < 12) = b2 → decide (0 ≤ y) = b3 → decide (y < 48) = b4 → Calls Try.prog 20 #[.agg #[.int .i64 x, .int .i64 y]] w fun e w' => e = .returned (.bool (okL (x, y))) ∧ Below w.heap.size w w' := by
    intro b1 b2 b3 b4 p1 p2 p3 p4
    have HE : Hid (okL (x, y) = (b1 && b2 && (b3 && b4))) := by unfold Hid okL okD; simp only; rw [p1, p2, p3, p4]
    rw [HE.out]
    cases b1 <;> cases b2 <;> cases b3 <;> cases b4
    all_goals
      go_enter Try.func20, Try.ntmps20
      go_wp2_with fail
      try go_ret
      exact ⟨rfl, HB.out⟩
  exact main _ _ _ _ rfl rfl rfl rfl
/-- how many slots are free on the disks from 0 on -/
def totN (B : Nat → Bool) (k : Nat) : Nat := ((List.range k).map fun d => frN B d 48).sum
theorem totN_succ (B : Nat → Bool) (k : Nat) : totN B (k + 1) = totN B k + frN B k 48 := by unfold totN; rw [List.range_succ, List.map_append, List.sum_append]; simp
theorem frN_congr {B C : Nat → Bool} {d k : Nat} (h : ∀ i, i < k → B (d * 48 + i) = C (d * 48 + i)) : frN B d k = frN C d k := by
  induction k with
  | zero => rfl
  | succ k ih => rw [frN_succ, frN_succ, ih fun i hi => h i (by omega), h k (by omega)]
theorem frN_set {B : Nat → Bool} {d m : Nat} (hf : B (d * 48 + m) = false) : ∀ {k : Nat}, m < k → frN (setB B (d * 48 + m) true) d k + 1 = frN B d k := by
  intro k
  induction k with
  | zero => intro h; omega
  | succ k ih =>
    intro h
    rw [frN_succ, frN_succ]
    by_cases e : m = k
    · subst e
      rw [setB_at, hf, frN_congr (C := B) fun i hi => setB_ne (by omega)]
      simp
    · have h1 := ih (by omega)
      rw [setB_ne (by omega)]
      omega
theorem totN_congr {B C : Nat → Bool} {k : Nat} (h : ∀ d, d < k → frN B d 48 = frN C d 48) : totN B k = totN C k := by
  unfold totN; congr 1; exact List.map_congr_left fun d hd => h d (List.mem_range.1 hd)
theorem totN_set {B : Nat → Bool} {d m : Nat} (hm : m < 48) (hf : B (d * 48 + m) = false) : ∀ {k : Nat}, d < k → totN (setB B (d * 48 + m) true) k + 1 = totN B k := by
  intro k
  induction k with
  | zero => intro h; omega
  | succ k ih =>
    intro h
    rw [totN_succ, totN_succ]
    by_cases e : d = k
    · subst e
      have := frN_set (d := d) hf hm
      rw [totN_congr (C := B) fun q hq => frN_congr fun i hi => setB_ne (by omega)]
      omega
    · have h1 := ih (by omega)
      rw [frN_congr (d := k) (C := B) fun i hi => setB_ne (by omega)]
      omega
theorem tot_zero : totN (fun _ => false) 12 = 576 := by decide +kernel
theorem totN_le (B : Nat → Bool) : ∀ k, totN B k ≤ 48 * k := by
  intro k
  induction k with
  | zero => simp [totN]
  | succ k ih => rw [totN_succ]; have := frN_le B k 48; omega
theorem mk_free {B : Nat → Bool} {x : Int × Int} (h : mkE B x = 0) : okL x = true ∧ B (idx x) = false ∧ mkB B x = setB B (idx x) true := by
  unfold mkE at h
  by_cases ho : okL x = true
  · rw [if_pos ho] at h
    cases hb : B (idx x) with
    | true => rw [hb] at h; simp at h
    | false => exact ⟨ho, rfl, by unfold mkB; rw [if_pos ho]⟩
  · rw [if_neg ho] at h; simp at h
theorem mk_one {B : Nat → Bool} {x : Int × Int} : (mkE B x == 1) = !okL x := by
  unfold mkE
  by_cases ho : okL x = true
  · rw [if_pos ho, ho]; cases B (idx x) <;> rfl
  · have : okL x = false := by simpa using ho
    rw [if_neg ho, this]; rfl
theorem mk_held {B : Nat → Bool} {x : Int × Int} (h : mkE B x ≠ 0) : ∀ q, mkB B x q = B q := by
  intro q
  unfold mkE at h
  unfold mkB
  by_cases ho : okL x = true
  · rw [if_pos ho] at h ⊢
    cases hb : B (idx x) with
    | false => rw [hb] at h; simp at h
    | true =>
      by_cases e : q = idx x
      · subst e; rw [setB_at, hb]
      · rw [setB_ne e]
  · rw [if_neg ho]
theorem mk_keeps {B : Nat → Bool} {x : Int × Int} {q : Nat} (h : B q = true) : mkB B x q = true := by
  unfold mkB
  by_cases ho : okL x = true
  · rw [if_pos ho]
    by_cases e : q = idx x
    · subst e; exact setB_at _ _ _
    · rw [setB_ne e]; exact h
  · rw [if_neg ho]; exact h
theorem mk_takes {B : Nat → Bool} {x : Int × Int} (h : okL x = true) : mkB B x (idx x) = true := by unfold mkB; rw [if_pos h]; exact setB_at _ _ _
theorem tk_keeps {B : Nat → Bool} {d : Int} {q : Nat} (h : B q = true) : tkB B d q = true := by
  by_cases he : tkE B d = 0
  · rw [(tk_ok he).2.2]
    by_cases e : q = idx (d, tkN B d)
    · subst e; exact setB_at _ _ _
    · rw [setB_ne e]; exact h
  · rw [tk_bad he]; exact h
theorem idx_of {x : Int × Int} (h : okL x = true) : idx x = x.1.toNat * 48 + x.2.toNat ∧ x.1.toNat < 12 ∧ x.2.toNat < 48 := by have := okL_iff.1 h; exact ⟨rfl, by omega, by omega⟩
/-- all places of a list that may be are taken -/
def MkI (l : List (Int × Int)) (k : Nat) (B : Nat → Bool) (n : Nat) : Prop := (∀ i x, i < k → l[i]? = some x → okL x = true → B (idx x) = true) ∧ totN B 12 + n = 576
theorem MkI.step {l : List (Int × Int)} {k : Nat} {B : Nat → Bool} {n : Nat} {x : Int × Int} (h : MkI l k B n) (hx : l[k]? = some x) : MkI l (k + 1) (mkB B x) (n + (if mkE B x = 0 then 1 else 0)) := by
  refine ⟨fun i y hi hy ho => ?_, ?_⟩
  · by_cases e : i = k
    · subst e; rw [hx] at hy; cases hy; exact mk_takes ho
    · exact mk_keeps (h.1 i y (by omega) hy ho)
  · by_cases he : mkE B x = 0
    · rw [if_pos he]
      obtain ⟨h1, h2, h3⟩ := mk_free he
      obtain ⟨e1, e2, e3⟩ := idx_of h1
      have h4 := h.2
      rw [h3, e1]
      rw [e1] at h2
      have := totN_set e3 h2 e2
      omega
    · rw [if_neg he, totN_congr (C := B) fun d _ => frN_congr fun i _ => mk_held he _]
      exact h.2
/-- behind the disks up to d have given one each -/
def TkI (l : List (Int × Int)) (d : Nat) (B : Nat → Bool) (n f : Nat) : Prop := MkI l l.length B n ∧ f = totN B d
theorem TkI.step {l : List (Int × Int)} {d : Nat} {B : Nat → Bool} {n f : Nat} (h : TkI l d B n f) (hd : d < 12) : TkI l (d + 1) (tkB B (d : Int)) (n + (if tkE B (d : Int) = 0 then 1 else 0)) (f + frN (tkB B (d : Int)) d 48) := by
  have hk : (∀ i x, i < l.length → l[i]? = some x → okL x = true → tkB B (d : Int) (idx x) = true) := fun i x hi hx ho => tk_keeps (h.1.1 i x hi hx ho)
  by_cases he : tkE B (d : Int) = 0
  · obtain ⟨t1, t2, t3⟩ := tk_ok he
    obtain ⟨e1, e2, e3⟩ := idx_of t1
    simp only [Int.toNat_natCast] at e1 e2 e3
    rw [if_pos he]
    rw [e1] at t2 t3
    refine ⟨⟨hk, ?_⟩, ?_⟩
    · have h4 := h.1.2
      have := totN_set e3 t2 e2
      rw [t3]
      omega
    · rw [totN_succ, h.2, t3, totN_congr (B := setB B _ true) (C := B) fun q hq => frN_congr fun i hi => setB_ne (by omega)]
  · rw [if_neg he, Nat.add_zero]
    have hb := tk_bad he
    refine ⟨⟨hk, by rw [hb]; exact h.1.2⟩, by rw [totN_succ, h.2, hb]⟩
theorem TkI.none {l : List (Int × Int)} {d : Nat} {B : Nat → Bool} {n f : Nat} (h : TkI l d B n f) (he : tkE B (d : Int) = 0) {i : Nat} {x : Int × Int} (hx : l[i]? = some x) : ¬ (x.1 = (d : Int) ∧ x.2 = tkN B (d : Int)) := by
  rintro ⟨e1, e2⟩
  obtain ⟨t1, t2, t3⟩ := tk_ok he
  have : x = ((d : Int), tkN B (d : Int)) := Prod.ext e1 e2
  rw [← this] at t1 t2
  rw [h.1.1 i x (List.getElem?_eq_some_iff.1 hx).1 hx t1] at t2
  cases t2
theorem mk_cases (B : Nat → Bool) (x : Int × Int) : (okL x = false ∧ mkE B x = 1) ∨ (okL x = true ∧ mkE B x = 13) ∨ (okL x = true ∧ mkE B x = 0) := by
  unfold mkE
  cases ho : okL x with
  | false => exact .inl ⟨rfl, rfl⟩
  | true => cases hb : B (idx x) with
    | true => exact .inr (.inl ⟨rfl, rfl⟩)
    | false => exact .inr (.inr ⟨rfl, rfl⟩)
theorem tn_mk (B : Nat → Bool) (x : Int × Int) : tnB (mkB B x) x = okL x := by
  unfold tnB
  cases ho : okL x with
  | false => rfl
  | true => rw [mk_takes ho]; rfl
theorem tk_cases {B : Nat → Bool} {d : Nat} (hd : d < 12) : tkE B (d : Int) = 0 ∨ tkE B (d : Int) = 7 := by
  unfold tkE
  rw [if_pos (okD_iff.2 ⟨by omega, by omega⟩)]
  cases (frO B (d : Int).toNat) with
  | none => exact .inr rfl
  | some n => exact .inl rfl
theorem LocsAt.nth {w : World} {a : Option Addr} {l : List (Int × Int)} (h : LocsAt w a l) {k : Nat} {x : Int × Int} (hx : l[k]? = some x) : ∃ b o, a = some ⟨b, o, none⟩ ∧ b < w.heap.size ∧ w.cell? ⟨b, o + k * 2, none⟩ = some (.int .i64 x.1) ∧ w.cell? ⟨b, o + k * 2 + 1, none⟩ = some (.int .i64 x.2) := by
  rcases h with q | ⟨b, o, ha, hlt, hc⟩
  · rw [q] at hx; simp at hx
  · exact ⟨b, o, ha, hlt, (hc k x hx).1, (hc k x hx).2⟩
set_option maxRecDepth 100000 in
set_option maxHeartbeats 8000000 in
theorem marks_is (a : Option Addr) (n c : Nat) (l : List (Int × Int)) (w : World) (hl : l.length = n) (h63 : n ≤ 9223372036854775807) (hL : LocsAt w a l) : Calls Try.prog 8 #[.slice a n c] w fun e w' => e = .returned (.bool true) ∧ Below w.heap.size w w' := by
  have HL := hide hl
  have HLC := hide hL
  clear hl hL
  by_cases h60 : 60 < n
  · have hd : decide ((60 : Int) < (n : Int)) = true := by simp; omega
    go_enter Try.func8, Try.ntmps8
    go_wp2_with fail
    refine (live_any _).mono ?_
    rintro e w1 ⟨rfl, hb⟩
    have HB1 := hide hb
    clear hb
    go_wp2_with fail
    try go_ret
    exact ⟨rfl, HB1.out⟩
  have hd : decide ((60 : Int) < (n : Int)) = false := by simp; omega
  go_enter Try.func8, Try.ntmps8
  go_wp2_with fail
  refine (newS w).mono ?_
  rintro e w1 ⟨rfl, h1⟩
  have H1 := hide h1
  clear h1
  go_wp2_with fail
  go_loopw [4, 5] (fun u y wr => ∃ (k m : Nat) (B : Nat → Bool), k ≤ n ∧ y = .int .i64 k ∧ u = .int .i64 m ∧ SpB w.heap.size B w wr ∧ MkI l k B m) (fun _ y _ => n - (intOf y).toNat)
  case atStart => exact ⟨0, 0, _, by omega, rfl, rfl, H1.out, fun i x hi => by omega, by rw [tot_zero]⟩
  case round =>
    obtain ⟨k, m, B, hk, rfl, rfl, hsp, hmk⟩ := hrel
    have HSP := hide hsp
    have HMK := hide hmk
    have hm576 : m ≤ 576 := by have := hmk.2; omega
    clear hsp hmk H1
    by_cases hlt : k < n
    · have hdk : decide ((k : Int) < (n : Int)) = true := by simp; omega
      have hki : (k : Int) < (n : Int) := by omega
      obtain ⟨⟨x, y⟩, hx⟩ : ∃ x, l[k]? = some x := ⟨_, List.getElem?_eq_getElem (by have := HL.out; omega)⟩
      obtain ⟨bl, o, rfl, hbl, c0, c1⟩ := HLC.out.nth hx
      simp only at c0 c1
      have HC0 := hide c0
      have HC1 := hide c1
      have k0 := (HSP.out.2.1.cell (p := ⟨bl, o + k * 2, none⟩) hbl).trans c0
      have k1 := (HSP.out.2.1.cell (p := ⟨bl, o + k * 2 + 1, none⟩) hbl).trans c1
      have HST := hide (HMK.out.step hx)
      have HTN := hide (tn_mk B (x, y))
      have hcs := mk_cases B (x, y)
      have HMA := hide (fun E (hE : mkE B (x, y) = E) => markS HSP.out x y E hE)
      clear c0 c1 hx
      rcases hcs with ⟨ho, hE⟩ | ⟨ho, hE⟩ | ⟨ho, hE⟩
      all_goals
        have HM := hide (HMA.out _ hE)
        rw [hE] at HST
        rw [ho] at HTN
        have HO := hide ho
        clear HMA ho hE
        go_wp2_with fail
        refine HM.out.mono ?_
        rintro e w2 ⟨rfl, h2, -⟩
        have H2 := hide h2
        have k0 := (h2.2.1.cell (p := ⟨bl, o + k * 2, none⟩) hbl).trans HC0.out
        have k1 := (h2.2.1.cell (p := ⟨bl, o + k * 2 + 1, none⟩) hbl).trans HC1.out
        clear h2 HM
        go_wp2_with fail
        refine (is_any x y _).mono ?_
        rintro e w3 ⟨he3, hb3⟩
        rw [HO.out] at he3
        subst he3
        have H3 := hide (H2.out.keep hb3)
        have k0 := (H3.out.2.1.cell (p := ⟨bl, o + k * 2, none⟩) hbl).trans HC0.out
        have k1 := (H3.out.2.1.cell (p := ⟨bl, o + k * 2 + 1, none⟩) hbl).trans HC1.out
        clear hb3
        go_wp2_with fail
        refine (takenS H3.out x y _ HTN.out).mono ?_
        rintro e w4 ⟨rfl, h4, -⟩
        have H4 := hide h4
        clear h4
        go_wp2_with fail
        go_roundw
        case rel => exact ⟨k + 1, _, _, by omega, by go_num, by first | rfl | go_num, H4.out, HST.out⟩
        case measure => simp [intOf]; omega
    · have hdk : decide ((k : Int) < (n : Int)) = false := by simp; omega
      have HTK : Hid (TkI l 0 B m 0) := ⟨by have : k = l.length := by have := HL.out; omega
                                            exact this ▸ HMK.out, rfl⟩
      clear HMK
      go_wp2_with fail
      go_loopw [4, 7, 8] (fun u f y wr => ∃ (d m g : Nat) (B : Nat → Bool), d ≤ 12 ∧ y = .int .i64 d ∧ u = .int .i64 m ∧ f = .int .i64 g ∧ SpB w.heap.size B w wr ∧ TkI l d B m g) (fun _ _ y _ => 12 - (intOf y).toNat)
      case atStart => exact ⟨0, m, 0, B, by omega, rfl, rfl, rfl, HSP.out, HTK.out⟩
      case round =>
        obtain ⟨d, m, g, B, hd12, rfl, rfl, rfl, hsp, htk⟩ := hrel
        have HSP2 := hide hsp
        have HTK2 := hide htk
        have hm576 : m ≤ 576 := by have := htk.1.2; omega
        have hg576 : g ≤ 576 := by have := htk.2; have := totN_le B d; omega
        clear hsp htk HSP HTK
        by_cases hdl : d < 12
        · have hdd : decide ((d : Int) < 12) = true := by simp; omega
          have HST := hide (HTK2.out.step hdl)
          have HFR : Hid (frC (tkB B (d : Int)) (d : Int) = ((frN (tkB B (d : Int)) d 48 : Nat) : Int)) := by unfold Hid frC; rw [if_pos (okD_iff.2 ⟨by omega, by omega⟩), Int.toNat_natCast]
          have hfl := frN_le (tkB B (d : Int)) d 48
          rcases tk_cases (B := B) hdl with hE | hE
          · have HTT := hide (takeS HSP2.out (d : Int) _ 0 rfl hE)
            have HNO := hide (fun i x hx => HTK2.out.none hE (i := i) (x := x) hx)
            rw [hE] at HST
            clear hE
            generalize tkN B (d : Int) = N at *
            generalize tkB B (d : Int) = C at *
            generalize frN C d 48 = F at *
            go_wp2_with fail
            refine HTT.out.mono ?_
            rintro e w2 ⟨rfl, h2, -⟩
            have H2 := hide h2
            clear h2 HTT
            go_wp2_with fail
            go_loop [11] (fun y => ∃ i : Nat, i ≤ n ∧ y = .int .i64 i) (fun y => n - (intOf y).toNat)
            case atStart => exact ⟨0, by omega, rfl⟩
            case round =>
              obtain ⟨i, hi, rfl⟩ := hrel
              by_cases hil : i < n
              · have hdi : decide ((i : Int) < (n : Int)) = true := by simp; omega
                have hii : (i : Int) < (n : Int) := by omega
                obtain ⟨⟨x, y⟩, hx⟩ : ∃ x, l[i]? = some x := ⟨_, List.getElem?_eq_getElem (by have := HL.out; omega)⟩
                obtain ⟨bl, o, rfl, hbl, c0, c1⟩ := HLC.out.nth hx
                simp only at c0 c1
                have k0 := (H2.out.2.1.cell (p := ⟨bl, o + i * 2, none⟩) hbl).trans c0
                have k1 := (H2.out.2.1.cell (p := ⟨bl, o + i * 2 + 1, none⟩) hbl).trans c1
                have hno := HNO.out i _ hx
                simp only at hno
                clear c0 c1 hx
                by_cases e1 : x = (d : Int)
                · have q1 : (x == (d : Int)) = true := by simpa using e1
                  have q2 : (y == N) = false := by simpa using fun e2 => hno ⟨e1, e2⟩
                  clear hno e1
                  go_wp2_with fail
                  go_round
                  case rel => exact ⟨i + 1, by omega, by go_num⟩
                  case measure => simp [intOf]; omega
                · have q1 : (x == (d : Int)) = false := by simpa using e1
                  clear hno
                  go_wp2_with fail
                  go_round
                  case rel => exact ⟨i + 1, by omega, by go_num⟩
                  case measure => simp [intOf]; omega
              · have hdi : decide ((i : Int) < (n : Int)) = false := by simp; omega
                go_wp2_with fail
                refine (freeS H2.out (d : Int) _ HFR.out).mono ?_
                rintro e w3 ⟨rfl, rfl⟩
                have hw : IntKind.i64.wrap ((g : Int) + (F : Int)) = (g : Int) + (F : Int) := by rw [IntKind.wrap_i64]; omega
                go_wp2_with fail
                all_goals first | exact ⟨⟨d + 1, m + 1, g + F, C, by omega, by go_num, by go_num, by go_num, H2.out, HST.out⟩, by simp [intOf]; omega⟩ | (go_roundw; (case rel => exact ⟨d + 1, m + 1, g + F, C, by omega, by go_num, by go_num, by go_num, H2.out, HST.out⟩); (case measure => simp [intOf]; omega))
          · have HTT := hide (takeS HSP2.out (d : Int) _ 7 rfl hE)
            rw [hE] at HST
            clear hE
            generalize tkN B (d : Int) = N at *
            generalize tkB B (d : Int) = C at *
            generalize frN C d 48 = F at *
            go_wp2_with fail
            refine HTT.out.mono ?_
            rintro e w2 ⟨rfl, h2, -⟩
            have H2 := hide h2
            clear h2 HTT
            go_wp2_with fail
            refine (freeS H2.out (d : Int) _ HFR.out).mono ?_
            rintro e w3 ⟨rfl, rfl⟩
            have hw : IntKind.i64.wrap ((g : Int) + (F : Int)) = (g : Int) + (F : Int) := by rw [IntKind.wrap_i64]; omega
            go_wp2_with fail
            all_goals first | exact ⟨⟨d + 1, m, g + F, C, by omega, by go_num, rfl, by go_num, H2.out, HST.out⟩, by simp [intOf]; omega⟩ | (go_roundw; (case rel => exact ⟨d + 1, m, g + F, C, by omega, by go_num, rfl, by go_num, H2.out, HST.out⟩); (case measure => simp [intOf]; omega))
        · have hdd : decide ((d : Int) < 12) = false := by simp; omega
          obtain rfl : d = 12 := by omega
          have hsum : g + m = 576 := by have h1 := HTK2.out.1.2; have h2 := HTK2.out.2; omega
          have hw : IntKind.i64.wrap (576 - (m : Int)) = (g : Int) := by rw [IntKind.wrap_i64]; omega
          go_wp2_with fail
          refine (live_any _).mono ?_
          rintro e w3 ⟨rfl, hb3⟩
          have H3 := hide (HSP2.out.keep hb3)
          clear hb3
          go_wp2_with fail
          try go_ret
          exact ⟨rfl, H3.out.2.1⟩
theorem walkSpaceMarks (a : Option Addr) (n c : Nat) (w : World) (h : Came 27 w a n c) : Calls Try.prog 8 #[.slice a n c] w fun e w' => e = .returned (.bool true) ∧ Below w.heap.size w w' := by
  obtain ⟨l, h1, -, h2, h3⟩ := came_locs h
  exact marks_is a n c l w h1 h2 h3
end Go.Proofs.Ythcpcdinjellcaa
