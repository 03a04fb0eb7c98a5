/- The law PinsHeld, walked. (Written by genph.py.) -/
import Derived.Test.YtghcekhlohgkaaaPnLive
import Derived.Test.YtghcekhlohgkaaaCamePn
import Derived.Test.YtghcekhlohgkaaaPnMathB
import Derived.Test.YtghcekhlohgkaaaVoSame
namespace Go.Proofs.Ytghcekhlohgkaaa
open Go.RowKit
set_option linter.unusedVariables false
theorem LocsK.mono {B B' : Nat} {w : World} {a : Option Addr} {l : List (Int × Int)} (h : LocsK B w a l) (hB : B ≤ B') : LocsK B' w a l := by
  rcases h with q | ⟨b, o, h1, h2, h3, h4⟩
  · exact .inl q
  · refine .inr ⟨b, o, h1, h2, ?_, h4⟩
    rcases h3 with q | q
    · exact .inl (by omega)
    · exact .inr q
theorem Pl.drop {B b n : Nat} {R : Int × Int → Nat} {L : List VD} {K : Value × List VD} {Ks : List (Value × List VD)} {w : World} (h : Pl B b n R L (K :: Ks) w) : Pl B b n R L Ks w := by
  obtain ⟨P, h1, h2, h3, h4⟩ := h
  exact ⟨P, h1, h2, h3, fun x hx => h4 x (by simp [hx])⟩
/-- so many read one volume, nobody another one -/
def Rn (q : Int × Int) (m : Nat) : Int × Int → Nat := fun x => if x = q then m else 0
theorem Rn_inc (q : Int × Int) (m : Nat) : inc (Rn q m) q = Rn q (m + 1) := by
  funext x; unfold inc Rn; by_cases h : x = q <;> simp [h]
theorem Rn_dec (q : Int × Int) (m : Nat) : dec (Rn q (m + 1)) q = Rn q m := by
  funext x; unfold dec Rn; by_cases h : x = q <;> simp [h]
theorem Rn_zero (q : Int × Int) : Rn q 0 = fun _ => 0 := by funext x; simp [Rn]
set_option maxRecDepth 100000 in
set_option maxHeartbeats 16000000 in
theorem held_is (x o : VD) (xa oa : Option Addr) (xn om xc oc : Nat) (t : Int) (w : World) (hx : x.ls.length = xn) (ho : o.ls.length = om) (hxk : OkP (x.id, x.gen)) (hok : OkP (o.id, o.gen)) (hxa : LocsAt w xa x.ls) (hoa : LocsAt w oa o.ls) (ht : OkI t) :
    Calls Try.prog 4 #[.agg #[.int .i64 x.id, .int .i64 x.gen, .int .i64 x.len, .slice xa xn xc], .int .i64 t, .agg #[.int .i64 o.id, .int .i64 o.gen, .int .i64 o.len, .slice oa om oc]] w fun e w' => e = .returned (.bool true) ∧ Below w.heap.size w w' := by
  have hbw : Below w.heap.size w ((w.alloc (.cells #[.int .i64 x.id, .int .i64 x.gen, .int .i64 x.len, .slice xa xn xc] 33)).alloc (.cells #[.int .i64 o.id, .int .i64 o.gen, .int .i64 o.len, .slice oa om oc] 33)) := ((Below.refl _ _).alloc (Nat.le_refl _) _).alloc (by rw [World.size_alloc]; omega) _
  have HBW := hide hbw
  have hk3 : ((w.alloc (.cells #[.int .i64 x.id, .int .i64 x.gen, .int .i64 x.len, .slice xa xn xc] 33)).alloc (.cells #[.int .i64 o.id, .int .i64 o.gen, .int .i64 o.len, .slice oa om oc] 33)).heap[w.heap.size]? = some (.cells #[.int .i64 x.id, .int .i64 x.gen, .int .i64 x.len, .slice xa xn xc] 33 (0, 0)) := (Below.heap_alloc _ _ _ (by rw [World.size_alloc]; omega)).trans (heap_alloc_new _ _)
  have hk5 : ((w.alloc (.cells #[.int .i64 x.id, .int .i64 x.gen, .int .i64 x.len, .slice xa xn xc] 33)).alloc (.cells #[.int .i64 o.id, .int .i64 o.gen, .int .i64 o.len, .slice oa om oc] 33)).heap[w.heap.size + 1]? = some (.cells #[.int .i64 o.id, .int .i64 o.gen, .int .i64 o.len, .slice oa om oc] 33 (0, 0)) := by
    have := heap_alloc_new (w.alloc (.cells #[.int .i64 x.id, .int .i64 x.gen, .int .i64 x.len, .slice xa xn xc] 33)) (.cells #[.int .i64 o.id, .int .i64 o.gen, .int .i64 o.len, .slice oa om oc] 33)
    rw [World.size_alloc] at this
    exact this
  have HK3 := hide hk3
  have HKO := hide hk5
  have HXN := hide hx
  have HON := hide ho
  have HXK := hide (((LocsK.came hxa).below hbw).mono hbw.size)
  have HXA := hide (hxa.below hbw)
  have HOA := hide (hoa.below hbw)
  have HQ := hide hxk
  have HQO := hide hok
  have HKLT : Hid (w.heap.size < ((w.alloc (.cells #[.int .i64 x.id, .int .i64 x.gen, .int .i64 x.len, .slice xa xn xc] 33)).alloc (.cells #[.int .i64 o.id, .int .i64 o.gen, .int .i64 o.len, .slice oa om oc] 33)).heap.size) := by unfold Hid; rw [World.size_alloc, World.size_alloc]; omega
  have HKL2 : Hid (w.heap.size + 1 < ((w.alloc (.cells #[.int .i64 x.id, .int .i64 x.gen, .int .i64 x.len, .slice xa xn xc] 33)).alloc (.cells #[.int .i64 o.id, .int .i64 o.gen, .int .i64 o.len, .slice oa om oc] 33)).heap.size) := by unfold Hid; rw [World.size_alloc, World.size_alloc]; omega
  clear hbw hk3 hk5 hx ho hxk hok hxa hoa
  have ht1 := ht.1
  have ht2 := ht.2
  by_cases hq : t < 0
  · have h1 : decide (t < 0) = true := by simp; omega
    clear ht hq
    go_enter Try.func4, Try.ntmps4
    go_wp2_with fail
    refine (live_any _).mono ?_
    rintro e w3 ⟨rfl, hb3⟩
    have HB3 := hide (HBW.out.trans (hb3.mono HBW.out.size))
    clear hb3
    go_wp2_with fail
    try go_ret
    exact ⟨rfl, HB3.out⟩
  have h1 : decide (t < 0) = false := by simp; omega
  obtain ⟨m, hm⟩ : ∃ m : Nat, (m : Int) = t := ⟨t.toNat, by omega⟩
  subst hm
  clear hq
  by_cases hq : ¬ m ≤ 50
  · have h2 : decide ((50 : Int) < (m : Int)) = true := by simp; omega
    clear ht hq
    go_enter Try.func4, Try.ntmps4
    go_wp2_with fail
    refine (live_any _).mono ?_
    rintro e w3 ⟨rfl, hb3⟩
    have HB3 := hide (HBW.out.trans (hb3.mono HBW.out.size))
    clear hb3
    go_wp2_with fail
    try go_ret
    exact ⟨rfl, HB3.out⟩
  have h2 : decide ((50 : Int) < (m : Int)) = false := by simp; omega
  have hm50 : m ≤ 50 := by omega
  clear hq
  by_cases hq : ¬ xn ≤ 20
  · have h3 : decide ((20 : Int) < (xn : Int)) = true := by simp; omega
    clear ht hq
    go_enter Try.func4, Try.ntmps4
    go_wp2_with fail
    refine (live_any _).mono ?_
    rintro e w3 ⟨rfl, hb3⟩
    have HB3 := hide (HBW.out.trans (hb3.mono HBW.out.size))
    clear hb3
    go_wp2_with fail
    try go_ret
    exact ⟨rfl, HB3.out⟩
  have h3 : decide ((20 : Int) < (xn : Int)) = false := by simp; omega
  have hx20 : xn ≤ 20 := by omega
  clear hq
  by_cases hq : ¬ om ≤ 20
  · have h4 : decide ((20 : Int) < (om : Int)) = true := by simp; omega
    clear ht hq
    go_enter Try.func4, Try.ntmps4
    go_wp2_with fail
    refine (live_any _).mono ?_
    rintro e w3 ⟨rfl, hb3⟩
    have HB3 := hide (HBW.out.trans (hb3.mono HBW.out.size))
    clear hb3
    go_wp2_with fail
    try go_ret
    exact ⟨rfl, HB3.out⟩
  have h4 : decide ((20 : Int) < (om : Int)) = false := by simp; omega
  have ho20 : om ≤ 20 := by omega
  clear hq ht
  go_enter Try.func4, Try.ntmps4
  go_wp2_with fail
  generalize ((w.alloc (.cells #[.int .i64 x.id, .int .i64 x.gen, .int .i64 x.len, .slice xa xn xc] 33)).alloc (.cells #[.int .i64 o.id, .int .i64 o.gen, .int .i64 o.len, .slice oa om oc] 33)) = W1 at *
  refine (l_new W1).mono ?_
  rintro e w1 ⟨b, rfl, hp, hb⟩
  rw [← Rn_zero (x.id, x.gen)] at hp
  have HP1 := hide hp
  have HB1 := hide hb
  clear hp hb
  go_wp2_with fail
  go_loopw [8] (fun y8 wr => ∃ k : Nat, k ≤ m ∧ y8 = .int .i64 k ∧ Pl W1.heap.size b k (Rn (x.id, x.gen) k) [] [] wr ∧ Below W1.heap.size W1 wr) (fun y8 _ => m - (intOf y8).toNat)
  case atStart => exact ⟨0, by omega, rfl, HP1.out, HB1.out⟩
  case round =>
    obtain ⟨k, hk, rfl, hp, hb⟩ := hrel
    have HP := hide hp
    have HB := hide hb
    have hk3 := (hb.block _ HKLT.out).trans HK3.out
    have e0 : wr.cell? ⟨w.heap.size, 0, none⟩ = some (.int .i64 x.id) := cell_of_block hk3
    have e1 : wr.cell? ⟨w.heap.size, 1, none⟩ = some (.int .i64 x.gen) := cell_of_block hk3
    have e2 : wr.cell? ⟨w.heap.size, 2, none⟩ = some (.int .i64 x.len) := cell_of_block hk3
    have e3 : wr.cell? ⟨w.heap.size, 3, none⟩ = some (.slice xa xn xc) := cell_of_block hk3
    clear hp hb hk3
    by_cases hlt : k < m
    · have hd : decide ((k : Int) < (m : Int)) = true := by simp; omega
      have HC := hide (l_pin HP.out x.id x.gen HQ.out (by omega))
      go_wp2_with fail
      refine HC.out.mono ?_
      rintro e w3 ⟨rfl, hp3, hb3⟩
      rw [Rn_inc] at hp3
      have HP3 := hide hp3
      have HB3 := hide (HB.out.trans hb3)
      clear hp3 hb3
      go_wp2_with fail
      exact ⟨⟨k + 1, by omega, by go_num, HP3.out, HB3.out⟩, by simp [intOf]; omega⟩
    · have hd : decide ((k : Int) < (m : Int)) = false := by simp; omega
      obtain rfl : k = m := by omega
      have HC := hide (l_retire HP.out x xa xn xc HXN.out (by omega) (HXA.out.below HB.out) (by simp))
      go_wp2_with fail
      refine HC.out.mono ?_
      rintro e w3 ⟨rfl, hp3, hb3⟩
      have HP3 : Hid (Pl W1.heap.size b k (Rn (x.id, x.gen) k) [x] [] w3) := hp3
      have HB3 := hide (HB.out.trans hb3)
      clear hp3 hb3 e0 e1 e2 e3 hd hlt HP HB HC
      go_wp2_with fail
      obtain ⟨wo, hwo⟩ : ∃ wo, wo = wr := ⟨_, rfl⟩
      subst hwo
      go_loopw [9] (fun y9 wr => ∃ j : Nat, j ≤ k ∧ y9 = .int .i64 j ∧ Pl W1.heap.size b (k + (k - j)) (Rn (x.id, x.gen) j) [x] [] wr ∧ Below W1.heap.size W1 wr) (fun y9 _ => (intOf y9).toNat)
      case atStart => exact ⟨k, by omega, rfl, by rw [Nat.sub_self]; exact HP3.out, HB3.out⟩
      case round =>
        obtain ⟨j, hj, rfl, hp, hb⟩ := hrel
        have HP := hide hp
        have HB := hide hb
        have hk3 := (hb.block _ HKLT.out).trans HK3.out
        have e0 : wr.cell? ⟨w.heap.size, 0, none⟩ = some (.int .i64 x.id) := cell_of_block hk3
        have e1 : wr.cell? ⟨w.heap.size, 1, none⟩ = some (.int .i64 x.gen) := cell_of_block hk3
        clear hp hb hk3
        by_cases hlt : 0 < j
        · have hd : decide ((0 : Int) < (j : Int)) = true := by simp; omega
          have hdn : decide (0 < j) = true := by simp; omega
          obtain ⟨q, rfl⟩ : ∃ q, j = q + 1 := ⟨j - 1, by omega⟩
          have HC := hide (l_count HP.out x.id x.gen HQ.out)
          have hrn : Rn (x.id, x.gen) (q + 1) (x.id, x.gen) = q + 1 := by simp [Rn]
          rw [hrn] at HC
          clear hrn
          go_wp2_with fail
          refine HC.out.mono ?_
          rintro e w4 ⟨rfl, rfl⟩
          have hne : (((q + 1 : Nat) : Int) != ((q + 1 : Nat) : Int)) = false := by simp
          go_wp2_with fail
          refine (l_reap HP.out (by simp) (by intro y hy; simp at hy; subst hy; exact HQ.out)).mono ?_
          rintro e w5 ⟨a5, c5, rfl, -, hp5, hb5⟩
          have hro : rpO (Rn (x.id, x.gen) (q + 1)) [x] = [] := by simp [rpO, Rn, VD.pin]
          have hrl : rpL (Rn (x.id, x.gen) (q + 1)) [x] = [x] := by simp [rpL, Rn, VD.pin]
          rw [hro, hrl] at hp5
          rw [hro]
          have HP5 := hide hp5.drop
          have HB5 := hide (HB.out.trans hb5)
          have hk3 := (HB5.out.block _ HKLT.out).trans HK3.out
          have e0 : w5.cell? ⟨w.heap.size, 0, none⟩ = some (.int .i64 x.id) := cell_of_block hk3
          have e1 : w5.cell? ⟨w.heap.size, 1, none⟩ = some (.int .i64 x.gen) := cell_of_block hk3
          clear hp5 hb5 hro hrl hk3
          simp only [List.length_nil]
          go_wp2_with fail
          refine (l_unpin HP5.out x.id x.gen HQ.out (by omega)).mono ?_
          rintro e w6 ⟨rfl, hp6, hb6⟩
          have hun : unE (Rn (x.id, x.gen) (q + 1)) (x.id, x.gen) = 0 := by simp [unE, Rn]
          rw [hun]
          rw [Rn_dec] at hp6
          have HP6 := hide (hp6.mono (m := k + (k - q)) (by omega))
          have HB6 := hide (HB5.out.trans hb6)
          clear hp6 hb6 hun
          go_wp2_with fail
          exact ⟨⟨q, by omega, by go_num, HP6.out, HB6.out⟩, by simp [intOf]⟩
        · have hd : decide ((0 : Int) < (j : Int)) = false := by simp; omega
          have hdn : decide (0 < j) = false := by simp; omega
          obtain rfl : j = 0 := by omega
          have hk5 := (HB.out.block _ HKL2.out).trans HKO.out
          have f0 : wr.cell? ⟨w.heap.size + 1, 0, none⟩ = some (.int .i64 o.id) := cell_of_block hk5
          have f1 : wr.cell? ⟨w.heap.size + 1, 1, none⟩ = some (.int .i64 o.gen) := cell_of_block hk5
          have f2 : wr.cell? ⟨w.heap.size + 1, 2, none⟩ = some (.int .i64 o.len) := cell_of_block hk5
          have f3 : wr.cell? ⟨w.heap.size + 1, 3, none⟩ = some (.slice oa om oc) := cell_of_block hk5
          have HC := hide (l_retire HP.out o oa om oc HON.out (by omega) (HOA.out.below HB.out) (by simp))
          clear hk5
          go_wp2_with fail
          refine HC.out.mono ?_
          rintro e w4 ⟨rfl, hp4, hb4⟩
          have HP4 := hide hp4
          have HB4 := hide (HB.out.trans hb4)
          clear hp4 hb4 f0 f1 f2 f3 e0 e1
          go_wp2_with fail
          refine (l_reap HP4.out (by have := reL_le [x] o; simp at this; omega) (by intro y hy; rcases mem_reL hy with q | rfl; (simp at q; subst q; exact HQ.out); exact HQO.out)).mono ?_
          rintro e w5 ⟨a5, c5, rfl, hc5, hp5, hb5⟩
          have HP5 : Hid (Pl W1.heap.size b 110 (Rn (x.id, x.gen) 0) (rpL (Rn (x.id, x.gen) 0) (reL [x] o)) [(.slice a5 (rpO (Rn (x.id, x.gen) 0) (reL [x] o)).length c5, rpO (Rn (x.id, x.gen) 0) (reL [x] o))] w5) := hp5.mono (by omega)
          have HB5 := hide (HB4.out.trans hb5)
          have HK5 : Hid (w5.heap[w.heap.size]? = some (.cells #[.int .i64 x.id, .int .i64 x.gen, .int .i64 x.len, .slice xa xn xc] 33 (0, 0))) := (HB5.out.block _ HKLT.out).trans HK3.out
          have hk5 := (HB5.out.block _ HKL2.out).trans HKO.out
          have e0 : w5.cell? ⟨w.heap.size, 0, none⟩ = some (.int .i64 x.id) := cell_of_block HK5.out
          have e1 : w5.cell? ⟨w.heap.size, 1, none⟩ = some (.int .i64 x.gen) := cell_of_block HK5.out
          have f0 : w5.cell? ⟨w.heap.size + 1, 0, none⟩ = some (.int .i64 o.id) := cell_of_block hk5
          have f1 : w5.cell? ⟨w.heap.size + 1, 1, none⟩ = some (.int .i64 o.gen) := cell_of_block hk5
          have hro := (rpO_all (R := Rn (x.id, x.gen) 0) (L := reL [x] o) (fun _ _ => by simp [Rn])).1
          rw [hro] at hc5 ⊢
          clear hp5 hb5 hk5 hro hd hdn hlt
          by_cases hi : o.id = x.id
          · have hqi : (o.id == x.id) = true := by simpa using hi
            by_cases hg : o.gen = x.gen
            · have hqg : (o.gen == x.gen) = true := by simpa using hg
              have HRL : Hid (reL [x] o = [x]) := by unfold Hid reL hasP VD.pin; simp [hi, hg]
              rw [HRL.out] at hc5 ⊢
              have hc1 : 1 ≤ c5 := hc5
              simp only [List.length_cons, List.length_nil] at hc5 ⊢
              clear hi hg hc5
              have HP8 : Hid (Pl W1.heap.size b 110 (Rn (x.id, x.gen) 0) [] [(.slice a5 1 c5, [x])] w5) := by have h9 := HP5.out; rw [HRL.out, (rpO_all (R := Rn (x.id, x.gen) 0) (L := [x]) (fun _ _ => by simp [Rn])).1, (rpO_all (R := Rn (x.id, x.gen) 0) (L := [x]) (fun _ _ => by simp [Rn])).2] at h9; exact h9
              obtain ⟨wd, hwd⟩ : ∃ wd, wd = w5.drew := ⟨_, rfl⟩
              have HD := hide (show Below w5.heap.size w5 wd by rw [hwd]; exact (Below.refl _ _).drew)
              have HK9 : Hid (wd.heap[w.heap.size]? = some (.cells #[.int .i64 x.id, .int .i64 x.gen, .int .i64 x.len, .slice xa xn xc] 33 (0, 0))) := (HD.out.block _ (lt_of_block HK5.out)).trans HK5.out
              have HPD := hide (HP8.out.below HD.out)
              have HBD := hide (HB5.out.trans (HD.out.mono HB5.out.size))
              have HAD : Below wd.heap.size wd (wd.alloc (.cells #[.int .i64 x.id, .int .i64 x.gen, .int .i64 x.len, .slice xa xn xc] 33)) := (Below.refl _ _).alloc (Nat.le_refl _) _
              have HPA := hide (HPD.out.below HAD)
              have HBA := hide (HBD.out.trans (HAD.mono HBD.out.size))
              have HKA : Hid ((wd.alloc (.cells #[.int .i64 x.id, .int .i64 x.gen, .int .i64 x.len, .slice xa xn xc] 33)).heap[w.heap.size]? = some (.cells #[.int .i64 x.id, .int .i64 x.gen, .int .i64 x.len, .slice xa xn xc] 33 (0, 0))) := (HAD.block _ (lt_of_block HK9.out)).trans HK9.out
              have HVS : Hid (VosAt W1.heap.size (wd.alloc (.cells #[.int .i64 x.id, .int .i64 x.gen, .int .i64 x.len, .slice xa xn xc] 33)) (some ⟨wd.heap.size, 0, none⟩) [x]) := by
                have hblk : (wd.alloc (.cells #[.int .i64 x.id, .int .i64 x.gen, .int .i64 x.len, .slice xa xn xc] 33)).heap[wd.heap.size]? = some (.cells #[.int .i64 x.id, .int .i64 x.gen, .int .i64 x.len, .slice xa xn xc] 33 (0, 0)) := heap_alloc_new _ _
                refine .inr ⟨wd.heap.size, 0, rfl, lt_of_block hblk, [⟨x, xa, xc⟩], rfl, fun i y hy => ?_⟩
                have hi0 : i = 0 := by have := (List.getElem?_eq_some_iff.1 hy).1; simpa using this
                subst hi0
                simp at hy
                subst hy
                obtain ⟨r0, r1, r2, r3⟩ := bx4 hblk
                refine ⟨⟨r0, r1, r2, ?_⟩, (HXK.out.below (HBD.out.trans (HAD.mono HBD.out.size)))⟩
                rw [HXN.out]
                exact r3
              have HSM := hide (vosame_any W1.heap.size a5 (some ⟨wd.heap.size, 0, none⟩) c5 1 1 1 [x] [x] (wd.alloc (.cells #[.int .i64 x.id, .int .i64 x.gen, .int .i64 x.len, .slice xa xn xc] 33)) rfl rfl (by omega) (by omega) (by have := (HPA.out.at0 (a := a5) (m := 1) (c := c5) (M := [x]) (by simp)).take 1; exact this) HVS.out (by have := HXN.out; simp; omega) (by have := HXN.out; simp; omega))
              have hsm : decide (([x] : List VD) = [x]) = true := by simp
              rw [hsm] at HSM
              clear hsm HAD
              have hci : (1 : Int) ≤ (c5 : Int) := by omega
              go_wp2_with fail
              refine wp_region_noPanic ?_
              refine wp_region_held_drew (S := fun w' => w'.heap[w.heap.size]? = some (.cells #[.int .i64 x.id, .int .i64 x.gen, .int .i64 x.len, .slice xa xn xc] 33 (0, 0))) (by kernel_rfl) (by rw [← hwd]; exact HK9.out) (fun hHeld => ?_)
              rw [← hwd] at hHeld ⊢
              clear hwd
              refine wpAnyH_take (i := 0) (v := ?v101) rfl (by kernel_rfl) (by kernel_rfl) (by kernel_rfl) (fun _ _ _ h => h) (Or.inl ⟨by rfl, ?hy101⟩) hHeld ?rest101
              case hy101 => (intro w' hSw; obtain ⟨s0, s1, s2, s3⟩ := bx4 hSw; go_simp; try with_reducible rfl)
              try simp [Act.put]
              refine wpAnyH_take (i := 1) (v := ?v102) rfl (by kernel_rfl) (by kernel_rfl) (by kernel_rfl) (fun _ _ _ h => h) (Or.inl ⟨by rfl, ?hy102⟩) hHeld ?rest102
              case hy102 => (intro w' hSw; obtain ⟨s0, s1, s2, s3⟩ := bx4 hSw; go_simp; try with_reducible rfl)
              try simp [Act.put]
              refine wpAnyH_take (i := 2) (v := ?v103) rfl (by kernel_rfl) (by kernel_rfl) (by kernel_rfl) (fun _ _ _ h => h) (Or.inl ⟨by rfl, ?hy103⟩) hHeld ?rest103
              case hy103 => (intro w' hSw; obtain ⟨s0, s1, s2, s3⟩ := bx4 hSw; go_simp; try with_reducible rfl)
              try simp [Act.put]
              refine wpAnyH_take (i := 3) (v := ?v104) rfl (by kernel_rfl) (by kernel_rfl) (by kernel_rfl) (fun _ _ _ h => h) (Or.inl ⟨by rfl, ?hy104⟩) hHeld ?rest104
              case hy104 => (intro w' hSw; obtain ⟨s0, s1, s2, s3⟩ := bx4 hSw; go_simp; try with_reducible rfl)
              try simp [Act.put]
              refine wpAnyH_take (i := 4) (v := ?v105) rfl (by kernel_rfl) (by kernel_rfl) (by kernel_rfl) (fun _ _ _ h => h) (Or.inl ⟨by rfl, ?hy105⟩) hHeld ?rest105
              case hy105 => (intro w' hSw; obtain ⟨s0, s1, s2, s3⟩ := bx4 hSw; go_simp; try with_reducible rfl)
              try simp [Act.put]
              refine wpAnyH_take (i := 5) (v := ?v106) rfl (by kernel_rfl) (by kernel_rfl) (by kernel_rfl) (fun _ _ _ h => h) (Or.inl ⟨by rfl, ?hy106⟩) hHeld ?rest106
              case hy106 => (intro w' hSw; obtain ⟨s0, s1, s2, s3⟩ := bx4 hSw; go_simp; try with_reducible rfl)
              try simp [Act.put]
              refine wpAnyH_take (i := 6) (v := ?v107) rfl (by kernel_rfl) (by kernel_rfl) (by kernel_rfl) (fun _ _ _ h => h) (Or.inl ⟨by rfl, ?hy107⟩) hHeld ?rest107
              case hy107 => (intro w' hSw; obtain ⟨s0, s1, s2, s3⟩ := bx4 hSw; go_simp; try with_reducible rfl)
              try simp [Act.put]
              refine wpAnyH_take (i := 7) (v := ?v108) rfl (by kernel_rfl) (by kernel_rfl) (by kernel_rfl) (fun _ _ _ h => h) (Or.inl ⟨by rfl, ?hy108⟩) hHeld ?rest108
              case hy108 => (intro w' hSw; obtain ⟨s0, s1, s2, s3⟩ := bx4 hSw; go_simp; try with_reducible rfl)
              try simp [Act.put]
              refine wpAnyH_ready (rs := [8]) (by kernel_rfl) (by simp) ?_
              refine AllReadyH.cons rfl (fun K hK => ?_) AllReadyH.nil
              go_simp
              refine hK.out _ _ HKA.out (fun hHeld => ?_)
              clear hK K
              try simp [Act.put]
              refine wpAnyH_ready (rs := [9]) (by kernel_rfl) (by simp) ?_
              refine AllReadyH.cons rfl (fun K hK => ?_) AllReadyH.nil
              go_simp
              refine HSM.out.mono ?_
              rintro e w6 ⟨rfl, hb6⟩
              have HP6 := hide (HPA.out.below hb6)
              have HB6 := hide (HBA.out.trans (hb6.mono HBA.out.size))
              have HK6 := hide ((hb6.block _ (lt_of_block HKA.out)).trans HKA.out)
              clear hb6
              refine hK.out _ _ HK6.out (fun hHeld => ?_)
              clear hK K
              try simp [Act.put]
              refine wpAnyH_take (i := 10) (v := ?v109) rfl (by kernel_rfl) (by kernel_rfl) (by kernel_rfl) (fun _ _ _ h => h) (Or.inl ⟨by rfl, ?hy109⟩) hHeld ?rest109
              case hy109 => (intro w' hSw; obtain ⟨s0, s1, s2, s3⟩ := bx4 hSw; go_simp; try with_reducible rfl)
              try simp [Act.put]
              refine wpAnyH_take (i := 11) (v := ?v110) rfl (by kernel_rfl) (by kernel_rfl) (by kernel_rfl) (fun _ _ _ h => h) (Or.inl ⟨by rfl, ?hy110⟩) hHeld ?rest110
              case hy110 => (intro w' hSw; obtain ⟨s0, s1, s2, s3⟩ := bx4 hSw; go_simp; try with_reducible rfl)
              try simp [Act.put]
              refine wpAnyH_take (i := 12) (v := ?v111) rfl (by kernel_rfl) (by kernel_rfl) (by kernel_rfl) (fun _ _ _ h => h) (Or.inl ⟨by rfl, ?hy111⟩) hHeld ?rest111
              case hy111 => (intro w' hSw; obtain ⟨s0, s1, s2, s3⟩ := bx4 hSw; go_simp; try with_reducible rfl)
              try simp [Act.put]
              refine wpAnyH_ready (rs := [13]) (by kernel_rfl) (by simp) ?_
              refine AllReadyH.cons rfl (fun K hK => ?_) AllReadyH.nil
              go_simp
              refine (l_reap HP6.out (by simp) (by simp)).mono ?_
              rintro e w7 ⟨a7, c7, rfl, hc7, hp7, hb7⟩
              have HB7 := hide (HB6.out.trans hb7)
              have HK7 := hide ((hb7.block _ (by have := HKLT.out; omega)).trans HK6.out)
              clear hp7 hb7
              simp only [rpO, List.filter_nil, List.length_nil]
              refine hK.out _ _ HK7.out (fun hHeld => ?_)
              clear hK K
              try simp [Act.put]
              refine wpAnyH_take (i := 14) (v := ?v112) rfl (by kernel_rfl) (by kernel_rfl) (by kernel_rfl) (fun _ _ _ h => h) (Or.inl ⟨by rfl, ?hy112⟩) hHeld ?rest112
              case hy112 => (intro w' hSw; obtain ⟨s0, s1, s2, s3⟩ := bx4 hSw; go_simp; try with_reducible rfl)
              try simp [Act.put]
              refine wpAnyH_take (i := 15) (v := ?v113) rfl (by kernel_rfl) (by kernel_rfl) (by kernel_rfl) (fun _ _ _ h => h) (Or.inl ⟨by rfl, ?hy113⟩) hHeld ?rest113
              case hy113 => (intro w' hSw; obtain ⟨s0, s1, s2, s3⟩ := bx4 hSw; go_simp; try with_reducible rfl)
              try simp [Act.put]
              refine wpAnyH_take (i := 16) (v := ?v114) rfl (by kernel_rfl) (by kernel_rfl) (by kernel_rfl) (fun _ _ _ h => h) (Or.inl ⟨by rfl, ?hy114⟩) hHeld ?rest114
              case hy114 => (intro w' hSw; obtain ⟨s0, s1, s2, s3⟩ := bx4 hSw; go_simp; try with_reducible rfl)
              try simp [Act.put]
              refine wpAnyH_take (i := 17) (v := ?v115) rfl (by kernel_rfl) (by kernel_rfl) (by kernel_rfl) (fun _ _ _ h => h) (Or.inl ⟨by rfl, ?hy115⟩) hHeld ?rest115
              case hy115 => (intro w' hSw; obtain ⟨s0, s1, s2, s3⟩ := bx4 hSw; go_simp; try with_reducible rfl)
              try simp [Act.put]
              refine wpAnyH_ready (rs := [18]) (by kernel_rfl) (by simp) ?_
              refine AllReadyH.cons rfl (fun K hK => ?_) AllReadyH.nil
              go_simp
              refine (live_any _).mono ?_
              rintro e w8 ⟨rfl, hb8⟩
              have HB8 := hide (HB7.out.trans (hb8.mono HB7.out.size))
              have HK8 := hide ((hb8.block _ (lt_of_block HK7.out)).trans HK7.out)
              clear hb8
              refine hK.out _ _ HK8.out (fun hHeld => ?_)
              clear hK K
              try simp [Act.put]
              refine wpAnyH_take (i := 19) (v := ?v116) rfl (by kernel_rfl) (by kernel_rfl) (by kernel_rfl) (fun _ _ _ h => h) (Or.inl ⟨by rfl, ?hy116⟩) hHeld ?rest116
              case hy116 => (intro w' hSw; obtain ⟨s0, s1, s2, s3⟩ := bx4 hSw; go_simp; try with_reducible rfl)
              try simp [Act.put]
              refine wpAnyH_take (i := 20) (v := ?v117) rfl (by kernel_rfl) (by kernel_rfl) (by kernel_rfl) (fun _ _ _ h => h) (Or.inl ⟨by rfl, ?hy117⟩) hHeld ?rest117
              case hy117 => (intro w' hSw; obtain ⟨s0, s1, s2, s3⟩ := bx4 hSw; go_simp; try with_reducible rfl)
              try simp [Act.put]
              refine wpAnyH_done (by kernel_rfl) (NoPanic.normal ?_) _
              go_wp2_with fail
              try go_ret
              exact ⟨rfl, HBW.out.trans (HB8.out.mono HBW.out.size)⟩
            · have hqg : (o.gen == x.gen) = false := by simpa using hg
              have HRL : Hid (reL [x] o = [x, o]) := by unfold Hid reL hasP VD.pin; simp; intro q1 q2; exact hg q2.symm
              rw [HRL.out] at hc5 ⊢
              have hc1 : 2 ≤ c5 := hc5
              simp only [List.length_cons, List.length_nil] at hc5 ⊢
              clear hi hg hc5
              have HP8 : Hid (Pl W1.heap.size b 110 (Rn (x.id, x.gen) 0) [] [(.slice a5 2 c5, [x, o])] w5) := by have h9 := HP5.out; rw [HRL.out, (rpO_all (R := Rn (x.id, x.gen) 0) (L := [x, o]) (fun _ _ => by simp [Rn])).1, (rpO_all (R := Rn (x.id, x.gen) 0) (L := [x, o]) (fun _ _ => by simp [Rn])).2] at h9; exact h9
              obtain ⟨wd, hwd⟩ : ∃ wd, wd = w5.drew := ⟨_, rfl⟩
              have HD := hide (show Below w5.heap.size w5 wd by rw [hwd]; exact (Below.refl _ _).drew)
              have HK9 : Hid (wd.heap[w.heap.size]? = some (.cells #[.int .i64 x.id, .int .i64 x.gen, .int .i64 x.len, .slice xa xn xc] 33 (0, 0))) := (HD.out.block _ (lt_of_block HK5.out)).trans HK5.out
              have HPD := hide (HP8.out.below HD.out)
              have HBD := hide (HB5.out.trans (HD.out.mono HB5.out.size))
              have HAD : Below wd.heap.size wd (wd.alloc (.cells #[.int .i64 x.id, .int .i64 x.gen, .int .i64 x.len, .slice xa xn xc] 33)) := (Below.refl _ _).alloc (Nat.le_refl _) _
              have HPA := hide (HPD.out.below HAD)
              have HBA := hide (HBD.out.trans (HAD.mono HBD.out.size))
              have HKA : Hid ((wd.alloc (.cells #[.int .i64 x.id, .int .i64 x.gen, .int .i64 x.len, .slice xa xn xc] 33)).heap[w.heap.size]? = some (.cells #[.int .i64 x.id, .int .i64 x.gen, .int .i64 x.len, .slice xa xn xc] 33 (0, 0))) := (HAD.block _ (lt_of_block HK9.out)).trans HK9.out
              have HVS : Hid (VosAt W1.heap.size (wd.alloc (.cells #[.int .i64 x.id, .int .i64 x.gen, .int .i64 x.len, .slice xa xn xc] 33)) (some ⟨wd.heap.size, 0, none⟩) [x]) := by
                have hblk : (wd.alloc (.cells #[.int .i64 x.id, .int .i64 x.gen, .int .i64 x.len, .slice xa xn xc] 33)).heap[wd.heap.size]? = some (.cells #[.int .i64 x.id, .int .i64 x.gen, .int .i64 x.len, .slice xa xn xc] 33 (0, 0)) := heap_alloc_new _ _
                refine .inr ⟨wd.heap.size, 0, rfl, lt_of_block hblk, [⟨x, xa, xc⟩], rfl, fun i y hy => ?_⟩
                have hi0 : i = 0 := by have := (List.getElem?_eq_some_iff.1 hy).1; simpa using this
                subst hi0
                simp at hy
                subst hy
                obtain ⟨r0, r1, r2, r3⟩ := bx4 hblk
                refine ⟨⟨r0, r1, r2, ?_⟩, (HXK.out.below (HBD.out.trans (HAD.mono HBD.out.size)))⟩
                rw [HXN.out]
                exact r3
              have HSM := hide (vosame_any W1.heap.size a5 (some ⟨wd.heap.size, 0, none⟩) c5 1 1 1 [x] [x] (wd.alloc (.cells #[.int .i64 x.id, .int .i64 x.gen, .int .i64 x.len, .slice xa xn xc] 33)) rfl rfl (by omega) (by omega) (by have := (HPA.out.at0 (a := a5) (m := 2) (c := c5) (M := [x, o]) (by simp)).take 1; exact this) HVS.out (by have := HXN.out; simp; omega) (by have := HXN.out; simp; omega))
              have hsm : decide (([x] : List VD) = [x]) = true := by simp
              rw [hsm] at HSM
              clear hsm HAD
              have hci : (1 : Int) ≤ (c5 : Int) := by omega
              go_wp2_with fail
              refine wp_region_noPanic ?_
              refine wp_region_held_drew (S := fun w' => w'.heap[w.heap.size]? = some (.cells #[.int .i64 x.id, .int .i64 x.gen, .int .i64 x.len, .slice xa xn xc] 33 (0, 0))) (by kernel_rfl) (by rw [← hwd]; exact HK9.out) (fun hHeld => ?_)
              rw [← hwd] at hHeld ⊢
              clear hwd
              refine wpAnyH_take (i := 0) (v := ?v201) rfl (by kernel_rfl) (by kernel_rfl) (by kernel_rfl) (fun _ _ _ h => h) (Or.inl ⟨by rfl, ?hy201⟩) hHeld ?rest201
              case hy201 => (intro w' hSw; obtain ⟨s0, s1, s2, s3⟩ := bx4 hSw; go_simp; try with_reducible rfl)
              try simp [Act.put]
              refine wpAnyH_take (i := 1) (v := ?v202) rfl (by kernel_rfl) (by kernel_rfl) (by kernel_rfl) (fun _ _ _ h => h) (Or.inl ⟨by rfl, ?hy202⟩) hHeld ?rest202
              case hy202 => (intro w' hSw; obtain ⟨s0, s1, s2, s3⟩ := bx4 hSw; go_simp; try with_reducible rfl)
              try simp [Act.put]
              refine wpAnyH_take (i := 2) (v := ?v203) rfl (by kernel_rfl) (by kernel_rfl) (by kernel_rfl) (fun _ _ _ h => h) (Or.inl ⟨by rfl, ?hy203⟩) hHeld ?rest203
              case hy203 => (intro w' hSw; obtain ⟨s0, s1, s2, s3⟩ := bx4 hSw; go_simp; try with_reducible rfl)
              try simp [Act.put]
              refine wpAnyH_take (i := 3) (v := ?v204) rfl (by kernel_rfl) (by kernel_rfl) (by kernel_rfl) (fun _ _ _ h => h) (Or.inl ⟨by rfl, ?hy204⟩) hHeld ?rest204
              case hy204 => (intro w' hSw; obtain ⟨s0, s1, s2, s3⟩ := bx4 hSw; go_simp; try with_reducible rfl)
              try simp [Act.put]
              refine wpAnyH_take (i := 4) (v := ?v205) rfl (by kernel_rfl) (by kernel_rfl) (by kernel_rfl) (fun _ _ _ h => h) (Or.inl ⟨by rfl, ?hy205⟩) hHeld ?rest205
              case hy205 => (intro w' hSw; obtain ⟨s0, s1, s2, s3⟩ := bx4 hSw; go_simp; try with_reducible rfl)
              try simp [Act.put]
              refine wpAnyH_take (i := 5) (v := ?v206) rfl (by kernel_rfl) (by kernel_rfl) (by kernel_rfl) (fun _ _ _ h => h) (Or.inl ⟨by rfl, ?hy206⟩) hHeld ?rest206
              case hy206 => (intro w' hSw; obtain ⟨s0, s1, s2, s3⟩ := bx4 hSw; go_simp; try with_reducible rfl)
              try simp [Act.put]
              refine wpAnyH_take (i := 6) (v := ?v207) rfl (by kernel_rfl) (by kernel_rfl) (by kernel_rfl) (fun _ _ _ h => h) (Or.inl ⟨by rfl, ?hy207⟩) hHeld ?rest207
              case hy207 => (intro w' hSw; obtain ⟨s0, s1, s2, s3⟩ := bx4 hSw; go_simp; try with_reducible rfl)
              try simp [Act.put]
              refine wpAnyH_take (i := 7) (v := ?v208) rfl (by kernel_rfl) (by kernel_rfl) (by kernel_rfl) (fun _ _ _ h => h) (Or.inl ⟨by rfl, ?hy208⟩) hHeld ?rest208
              case hy208 => (intro w' hSw; obtain ⟨s0, s1, s2, s3⟩ := bx4 hSw; go_simp; try with_reducible rfl)
              try simp [Act.put]
              refine wpAnyH_ready (rs := [8]) (by kernel_rfl) (by simp) ?_
              refine AllReadyH.cons rfl (fun K hK => ?_) AllReadyH.nil
              go_simp
              refine hK.out _ _ HKA.out (fun hHeld => ?_)
              clear hK K
              try simp [Act.put]
              refine wpAnyH_ready (rs := [9]) (by kernel_rfl) (by simp) ?_
              refine AllReadyH.cons rfl (fun K hK => ?_) AllReadyH.nil
              go_simp
              refine HSM.out.mono ?_
              rintro e w6 ⟨rfl, hb6⟩
              have HP6 := hide (HPA.out.below hb6)
              have HB6 := hide (HBA.out.trans (hb6.mono HBA.out.size))
              have HK6 := hide ((hb6.block _ (lt_of_block HKA.out)).trans HKA.out)
              clear hb6
              refine hK.out _ _ HK6.out (fun hHeld => ?_)
              clear hK K
              try simp [Act.put]
              refine wpAnyH_take (i := 10) (v := ?v209) rfl (by kernel_rfl) (by kernel_rfl) (by kernel_rfl) (fun _ _ _ h => h) (Or.inl ⟨by rfl, ?hy209⟩) hHeld ?rest209
              case hy209 => (intro w' hSw; obtain ⟨s0, s1, s2, s3⟩ := bx4 hSw; go_simp; try with_reducible rfl)
              try simp [Act.put]
              refine wpAnyH_take (i := 11) (v := ?v210) rfl (by kernel_rfl) (by kernel_rfl) (by kernel_rfl) (fun _ _ _ h => h) (Or.inl ⟨by rfl, ?hy210⟩) hHeld ?rest210
              case hy210 => (intro w' hSw; obtain ⟨s0, s1, s2, s3⟩ := bx4 hSw; go_simp; try with_reducible rfl)
              try simp [Act.put]
              refine wpAnyH_take (i := 12) (v := ?v211) rfl (by kernel_rfl) (by kernel_rfl) (by kernel_rfl) (fun _ _ _ h => h) (Or.inl ⟨by rfl, ?hy211⟩) hHeld ?rest211
              case hy211 => (intro w' hSw; obtain ⟨s0, s1, s2, s3⟩ := bx4 hSw; go_simp; try with_reducible rfl)
              try simp [Act.put]
              refine wpAnyH_ready (rs := [13]) (by kernel_rfl) (by simp) ?_
              refine AllReadyH.cons rfl (fun K hK => ?_) AllReadyH.nil
              go_simp
              refine (l_reap HP6.out (by simp) (by simp)).mono ?_
              rintro e w7 ⟨a7, c7, rfl, hc7, hp7, hb7⟩
              have HB7 := hide (HB6.out.trans hb7)
              have HK7 := hide ((hb7.block _ (by have := HKLT.out; omega)).trans HK6.out)
              clear hp7 hb7
              simp only [rpO, List.filter_nil, List.length_nil]
              refine hK.out _ _ HK7.out (fun hHeld => ?_)
              clear hK K
              try simp [Act.put]
              refine wpAnyH_take (i := 14) (v := ?v212) rfl (by kernel_rfl) (by kernel_rfl) (by kernel_rfl) (fun _ _ _ h => h) (Or.inl ⟨by rfl, ?hy212⟩) hHeld ?rest212
              case hy212 => (intro w' hSw; obtain ⟨s0, s1, s2, s3⟩ := bx4 hSw; go_simp; try with_reducible rfl)
              try simp [Act.put]
              refine wpAnyH_take (i := 15) (v := ?v213) rfl (by kernel_rfl) (by kernel_rfl) (by kernel_rfl) (fun _ _ _ h => h) (Or.inl ⟨by rfl, ?hy213⟩) hHeld ?rest213
              case hy213 => (intro w' hSw; obtain ⟨s0, s1, s2, s3⟩ := bx4 hSw; go_simp; try with_reducible rfl)
              try simp [Act.put]
              refine wpAnyH_take (i := 16) (v := ?v214) rfl (by kernel_rfl) (by kernel_rfl) (by kernel_rfl) (fun _ _ _ h => h) (Or.inl ⟨by rfl, ?hy214⟩) hHeld ?rest214
              case hy214 => (intro w' hSw; obtain ⟨s0, s1, s2, s3⟩ := bx4 hSw; go_simp; try with_reducible rfl)
              try simp [Act.put]
              refine wpAnyH_take (i := 17) (v := ?v215) rfl (by kernel_rfl) (by kernel_rfl) (by kernel_rfl) (fun _ _ _ h => h) (Or.inl ⟨by rfl, ?hy215⟩) hHeld ?rest215
              case hy215 => (intro w' hSw; obtain ⟨s0, s1, s2, s3⟩ := bx4 hSw; go_simp; try with_reducible rfl)
              try simp [Act.put]
              refine wpAnyH_ready (rs := [18]) (by kernel_rfl) (by simp) ?_
              refine AllReadyH.cons rfl (fun K hK => ?_) AllReadyH.nil
              go_simp
              refine (live_any _).mono ?_
              rintro e w8 ⟨rfl, hb8⟩
              have HB8 := hide (HB7.out.trans (hb8.mono HB7.out.size))
              have HK8 := hide ((hb8.block _ (lt_of_block HK7.out)).trans HK7.out)
              clear hb8
              refine hK.out _ _ HK8.out (fun hHeld => ?_)
              clear hK K
              try simp [Act.put]
              refine wpAnyH_take (i := 19) (v := ?v216) rfl (by kernel_rfl) (by kernel_rfl) (by kernel_rfl) (fun _ _ _ h => h) (Or.inl ⟨by rfl, ?hy216⟩) hHeld ?rest216
              case hy216 => (intro w' hSw; obtain ⟨s0, s1, s2, s3⟩ := bx4 hSw; go_simp; try with_reducible rfl)
              try simp [Act.put]
              refine wpAnyH_take (i := 20) (v := ?v217) rfl (by kernel_rfl) (by kernel_rfl) (by kernel_rfl) (fun _ _ _ h => h) (Or.inl ⟨by rfl, ?hy217⟩) hHeld ?rest217
              case hy217 => (intro w' hSw; obtain ⟨s0, s1, s2, s3⟩ := bx4 hSw; go_simp; try with_reducible rfl)
              try simp [Act.put]
              refine wpAnyH_done (by kernel_rfl) (NoPanic.normal ?_) _
              go_wp2_with fail
              try go_ret
              exact ⟨rfl, HBW.out.trans (HB8.out.mono HBW.out.size)⟩
          · have hqi : (o.id == x.id) = false := by simpa using hi
            have HRL : Hid (reL [x] o = [x, o]) := by unfold Hid reL hasP VD.pin; simp; intro q1; exact absurd q1.symm hi
            rw [HRL.out] at hc5 ⊢
            have hc1 : 2 ≤ c5 := hc5
            simp only [List.length_cons, List.length_nil] at hc5 ⊢
            clear hi hc5
            have HP8 : Hid (Pl W1.heap.size b 110 (Rn (x.id, x.gen) 0) [] [(.slice a5 2 c5, [x, o])] w5) := by have h9 := HP5.out; rw [HRL.out, (rpO_all (R := Rn (x.id, x.gen) 0) (L := [x, o]) (fun _ _ => by simp [Rn])).1, (rpO_all (R := Rn (x.id, x.gen) 0) (L := [x, o]) (fun _ _ => by simp [Rn])).2] at h9; exact h9
            obtain ⟨wd, hwd⟩ : ∃ wd, wd = w5.drew := ⟨_, rfl⟩
            have HD := hide (show Below w5.heap.size w5 wd by rw [hwd]; exact (Below.refl _ _).drew)
            have HK9 : Hid (wd.heap[w.heap.size]? = some (.cells #[.int .i64 x.id, .int .i64 x.gen, .int .i64 x.len, .slice xa xn xc] 33 (0, 0))) := (HD.out.block _ (lt_of_block HK5.out)).trans HK5.out
            have HPD := hide (HP8.out.below HD.out)
            have HBD := hide (HB5.out.trans (HD.out.mono HB5.out.size))
            have HAD : Below wd.heap.size wd (wd.alloc (.cells #[.int .i64 x.id, .int .i64 x.gen, .int .i64 x.len, .slice xa xn xc] 33)) := (Below.refl _ _).alloc (Nat.le_refl _) _
            have HPA := hide (HPD.out.below HAD)
            have HBA := hide (HBD.out.trans (HAD.mono HBD.out.size))
            have HKA : Hid ((wd.alloc (.cells #[.int .i64 x.id, .int .i64 x.gen, .int .i64 x.len, .slice xa xn xc] 33)).heap[w.heap.size]? = some (.cells #[.int .i64 x.id, .int .i64 x.gen, .int .i64 x.len, .slice xa xn xc] 33 (0, 0))) := (HAD.block _ (lt_of_block HK9.out)).trans HK9.out
            have HVS : Hid (VosAt W1.heap.size (wd.alloc (.cells #[.int .i64 x.id, .int .i64 x.gen, .int .i64 x.len, .slice xa xn xc] 33)) (some ⟨wd.heap.size, 0, none⟩) [x]) := by
              have hblk : (wd.alloc (.cells #[.int .i64 x.id, .int .i64 x.gen, .int .i64 x.len, .slice xa xn xc] 33)).heap[wd.heap.size]? = some (.cells #[.int .i64 x.id, .int .i64 x.gen, .int .i64 x.len, .slice xa xn xc] 33 (0, 0)) := heap_alloc_new _ _
              refine .inr ⟨wd.heap.size, 0, rfl, lt_of_block hblk, [⟨x, xa, xc⟩], rfl, fun i y hy => ?_⟩
              have hi0 : i = 0 := by have := (List.getElem?_eq_some_iff.1 hy).1; simpa using this
              subst hi0
              simp at hy
              subst hy
              obtain ⟨r0, r1, r2, r3⟩ := bx4 hblk
              refine ⟨⟨r0, r1, r2, ?_⟩, (HXK.out.below (HBD.out.trans (HAD.mono HBD.out.size)))⟩
              rw [HXN.out]
              exact r3
            have HSM := hide (vosame_any W1.heap.size a5 (some ⟨wd.heap.size, 0, none⟩) c5 1 1 1 [x] [x] (wd.alloc (.cells #[.int .i64 x.id, .int .i64 x.gen, .int .i64 x.len, .slice xa xn xc] 33)) rfl rfl (by omega) (by omega) (by have := (HPA.out.at0 (a := a5) (m := 2) (c := c5) (M := [x, o]) (by simp)).take 1; exact this) HVS.out (by have := HXN.out; simp; omega) (by have := HXN.out; simp; omega))
            have hsm : decide (([x] : List VD) = [x]) = true := by simp
            rw [hsm] at HSM
            clear hsm HAD
            have hci : (1 : Int) ≤ (c5 : Int) := by omega
            go_wp2_with fail
            refine wp_region_noPanic ?_
            refine wp_region_held_drew (S := fun w' => w'.heap[w.heap.size]? = some (.cells #[.int .i64 x.id, .int .i64 x.gen, .int .i64 x.len, .slice xa xn xc] 33 (0, 0))) (by kernel_rfl) (by rw [← hwd]; exact HK9.out) (fun hHeld => ?_)
            rw [← hwd] at hHeld ⊢
            clear hwd
            refine wpAnyH_take (i := 0) (v := ?v301) rfl (by kernel_rfl) (by kernel_rfl) (by kernel_rfl) (fun _ _ _ h => h) (Or.inl ⟨by rfl, ?hy301⟩) hHeld ?rest301
            case hy301 => (intro w' hSw; obtain ⟨s0, s1, s2, s3⟩ := bx4 hSw; go_simp; try with_reducible rfl)
            try simp [Act.put]
            refine wpAnyH_take (i := 1) (v := ?v302) rfl (by kernel_rfl) (by kernel_rfl) (by kernel_rfl) (fun _ _ _ h => h) (Or.inl ⟨by rfl, ?hy302⟩) hHeld ?rest302
            case hy302 => (intro w' hSw; obtain ⟨s0, s1, s2, s3⟩ := bx4 hSw; go_simp; try with_reducible rfl)
            try simp [Act.put]
            refine wpAnyH_take (i := 2) (v := ?v303) rfl (by kernel_rfl) (by kernel_rfl) (by kernel_rfl) (fun _ _ _ h => h) (Or.inl ⟨by rfl, ?hy303⟩) hHeld ?rest303
            case hy303 => (intro w' hSw; obtain ⟨s0, s1, s2, s3⟩ := bx4 hSw; go_simp; try with_reducible rfl)
            try simp [Act.put]
            refine wpAnyH_take (i := 3) (v := ?v304) rfl (by kernel_rfl) (by kernel_rfl) (by kernel_rfl) (fun _ _ _ h => h) (Or.inl ⟨by rfl, ?hy304⟩) hHeld ?rest304
            case hy304 => (intro w' hSw; obtain ⟨s0, s1, s2, s3⟩ := bx4 hSw; go_simp; try with_reducible rfl)
            try simp [Act.put]
            refine wpAnyH_take (i := 4) (v := ?v305) rfl (by kernel_rfl) (by kernel_rfl) (by kernel_rfl) (fun _ _ _ h => h) (Or.inl ⟨by rfl, ?hy305⟩) hHeld ?rest305
            case hy305 => (intro w' hSw; obtain ⟨s0, s1, s2, s3⟩ := bx4 hSw; go_simp; try with_reducible rfl)
            try simp [Act.put]
            refine wpAnyH_take (i := 5) (v := ?v306) rfl (by kernel_rfl) (by kernel_rfl) (by kernel_rfl) (fun _ _ _ h => h) (Or.inl ⟨by rfl, ?hy306⟩) hHeld ?rest306
            case hy306 => (intro w' hSw; obtain ⟨s0, s1, s2, s3⟩ := bx4 hSw; go_simp; try with_reducible rfl)
            try simp [Act.put]
            refine wpAnyH_take (i := 6) (v := ?v307) rfl (by kernel_rfl) (by kernel_rfl) (by kernel_rfl) (fun _ _ _ h => h) (Or.inl ⟨by rfl, ?hy307⟩) hHeld ?rest307
            case hy307 => (intro w' hSw; obtain ⟨s0, s1, s2, s3⟩ := bx4 hSw; go_simp; try with_reducible rfl)
            try simp [Act.put]
            refine wpAnyH_take (i := 7) (v := ?v308) rfl (by kernel_rfl) (by kernel_rfl) (by kernel_rfl) (fun _ _ _ h => h) (Or.inl ⟨by rfl, ?hy308⟩) hHeld ?rest308
            case hy308 => (intro w' hSw; obtain ⟨s0, s1, s2, s3⟩ := bx4 hSw; go_simp; try with_reducible rfl)
            try simp [Act.put]
            refine wpAnyH_ready (rs := [8]) (by kernel_rfl) (by simp) ?_
            refine AllReadyH.cons rfl (fun K hK => ?_) AllReadyH.nil
            go_simp
            refine hK.out _ _ HKA.out (fun hHeld => ?_)
            clear hK K
            try simp [Act.put]
            refine wpAnyH_ready (rs := [9]) (by kernel_rfl) (by simp) ?_
            refine AllReadyH.cons rfl (fun K hK => ?_) AllReadyH.nil
            go_simp
            refine HSM.out.mono ?_
            rintro e w6 ⟨rfl, hb6⟩
            have HP6 := hide (HPA.out.below hb6)
            have HB6 := hide (HBA.out.trans (hb6.mono HBA.out.size))
            have HK6 := hide ((hb6.block _ (lt_of_block HKA.out)).trans HKA.out)
            clear hb6
            refine hK.out _ _ HK6.out (fun hHeld => ?_)
            clear hK K
            try simp [Act.put]
            refine wpAnyH_take (i := 10) (v := ?v309) rfl (by kernel_rfl) (by kernel_rfl) (by kernel_rfl) (fun _ _ _ h => h) (Or.inl ⟨by rfl, ?hy309⟩) hHeld ?rest309
            case hy309 => (intro w' hSw; obtain ⟨s0, s1, s2, s3⟩ := bx4 hSw; go_simp; try with_reducible rfl)
            try simp [Act.put]
            refine wpAnyH_take (i := 11) (v := ?v310) rfl (by kernel_rfl) (by kernel_rfl) (by kernel_rfl) (fun _ _ _ h => h) (Or.inl ⟨by rfl, ?hy310⟩) hHeld ?rest310
            case hy310 => (intro w' hSw; obtain ⟨s0, s1, s2, s3⟩ := bx4 hSw; go_simp; try with_reducible rfl)
            try simp [Act.put]
            refine wpAnyH_take (i := 12) (v := ?v311) rfl (by kernel_rfl) (by kernel_rfl) (by kernel_rfl) (fun _ _ _ h => h) (Or.inl ⟨by rfl, ?hy311⟩) hHeld ?rest311
            case hy311 => (intro w' hSw; obtain ⟨s0, s1, s2, s3⟩ := bx4 hSw; go_simp; try with_reducible rfl)
            try simp [Act.put]
            refine wpAnyH_ready (rs := [13]) (by kernel_rfl) (by simp) ?_
            refine AllReadyH.cons rfl (fun K hK => ?_) AllReadyH.nil
            go_simp
            refine (l_reap HP6.out (by simp) (by simp)).mono ?_
            rintro e w7 ⟨a7, c7, rfl, hc7, hp7, hb7⟩
            have HB7 := hide (HB6.out.trans hb7)
            have HK7 := hide ((hb7.block _ (by have := HKLT.out; omega)).trans HK6.out)
            clear hp7 hb7
            simp only [rpO, List.filter_nil, List.length_nil]
            refine hK.out _ _ HK7.out (fun hHeld => ?_)
            clear hK K
            try simp [Act.put]
            refine wpAnyH_take (i := 14) (v := ?v312) rfl (by kernel_rfl) (by kernel_rfl) (by kernel_rfl) (fun _ _ _ h => h) (Or.inl ⟨by rfl, ?hy312⟩) hHeld ?rest312
            case hy312 => (intro w' hSw; obtain ⟨s0, s1, s2, s3⟩ := bx4 hSw; go_simp; try with_reducible rfl)
            try simp [Act.put]
            refine wpAnyH_take (i := 15) (v := ?v313) rfl (by kernel_rfl) (by kernel_rfl) (by kernel_rfl) (fun _ _ _ h => h) (Or.inl ⟨by rfl, ?hy313⟩) hHeld ?rest313
            case hy313 => (intro w' hSw; obtain ⟨s0, s1, s2, s3⟩ := bx4 hSw; go_simp; try with_reducible rfl)
            try simp [Act.put]
            refine wpAnyH_take (i := 16) (v := ?v314) rfl (by kernel_rfl) (by kernel_rfl) (by kernel_rfl) (fun _ _ _ h => h) (Or.inl ⟨by rfl, ?hy314⟩) hHeld ?rest314
            case hy314 => (intro w' hSw; obtain ⟨s0, s1, s2, s3⟩ := bx4 hSw; go_simp; try with_reducible rfl)
            try simp [Act.put]
            refine wpAnyH_take (i := 17) (v := ?v315) rfl (by kernel_rfl) (by kernel_rfl) (by kernel_rfl) (fun _ _ _ h => h) (Or.inl ⟨by rfl, ?hy315⟩) hHeld ?rest315
            case hy315 => (intro w' hSw; obtain ⟨s0, s1, s2, s3⟩ := bx4 hSw; go_simp; try with_reducible rfl)
            try simp [Act.put]
            refine wpAnyH_ready (rs := [18]) (by kernel_rfl) (by simp) ?_
            refine AllReadyH.cons rfl (fun K hK => ?_) AllReadyH.nil
            go_simp
            refine (live_any _).mono ?_
            rintro e w8 ⟨rfl, hb8⟩
            have HB8 := hide (HB7.out.trans (hb8.mono HB7.out.size))
            have HK8 := hide ((hb8.block _ (lt_of_block HK7.out)).trans HK7.out)
            clear hb8
            refine hK.out _ _ HK8.out (fun hHeld => ?_)
            clear hK K
            try simp [Act.put]
            refine wpAnyH_take (i := 19) (v := ?v316) rfl (by kernel_rfl) (by kernel_rfl) (by kernel_rfl) (fun _ _ _ h => h) (Or.inl ⟨by rfl, ?hy316⟩) hHeld ?rest316
            case hy316 => (intro w' hSw; obtain ⟨s0, s1, s2, s3⟩ := bx4 hSw; go_simp; try with_reducible rfl)
            try simp [Act.put]
            refine wpAnyH_take (i := 20) (v := ?v317) rfl (by kernel_rfl) (by kernel_rfl) (by kernel_rfl) (fun _ _ _ h => h) (Or.inl ⟨by rfl, ?hy317⟩) hHeld ?rest317
            case hy317 => (intro w' hSw; obtain ⟨s0, s1, s2, s3⟩ := bx4 hSw; go_simp; try with_reducible rfl)
            try simp [Act.put]
            refine wpAnyH_done (by kernel_rfl) (NoPanic.normal ?_) _
            go_wp2_with fail
            try go_ret
            exact ⟨rfl, HBW.out.trans (HB8.out.mono HBW.out.size)⟩
theorem walkPinsHeld (v : Value) (t : Int) (v2 : Value) (w : World) (hv : CameV 33 4 w v) (ht : (Lit.int .i64 t).wf = true) (hv2 : CameV 33 4 w v2) : Calls Try.prog 4 #[v, .int .i64 t, v2] w fun e w' => e = .returned (.bool true) ∧ Below w.heap.size w w' := by
  obtain ⟨x, a, c, rfl, h1, h2, h3⟩ := vo_open hv
  obtain ⟨o, a2, c2, rfl, k1, k2, k3⟩ := vo_open hv2
  exact held_is x o a a2 _ _ c c2 t w rfl rfl ⟨h2.1, h2.2.1⟩ ⟨k2.1, k2.2.1⟩ h1 k1 (ok_i ht)
end Go.Proofs.Ytghcekhlohgkaaa
