/- The law DigestParts returns true at every input, and writes nothing that was there. -/
import Derived.Test.YtenfjhbedcnmeaaDoorShRefSum
import Derived.Test.YtenfjhbedcnmeaaDoorDigestHexWalk
import Derived.Test.YtenfjhbedcnmeaaDoorCameS
import Derived.Test.YtenfjhbedcnmeaaDoorShTx
namespace Go.Proofs.YtenfjhbedcnmeaaDoor
open Go.RowKit
def catS : List ByteArray → ByteArray
  | [] => ByteArray.empty
  | x :: l => x ++ catS l
theorem app_assoc (a b c : ByteArray) : a ++ b ++ c = a ++ (b ++ c) := by
  apply ext_bt (by simp only [ByteArray.size_append]; omega)
  intro p _
  simp only [bt_append, ByteArray.size_append]
  by_cases h1 : p < a.size
  · rw [if_pos (by omega), if_pos h1, if_pos h1]
  · rw [if_neg h1, if_neg h1]
    by_cases h2 : p < a.size + b.size
    · rw [if_pos h2, if_pos (by omega)]
    · rw [if_neg h2, if_neg (by omega)]; congr 1; omega
theorem app_nil (a : ByteArray) : a ++ ByteArray.empty = a := by
  apply ext_bt (by simp only [ByteArray.size_append]; rfl)
  intro p hp
  rw [bt_append, if_pos]; simpa using hp
theorem nil_app (a : ByteArray) : ByteArray.empty ++ a = a := by
  apply ext_bt (by rw [ByteArray.size_append, show ByteArray.empty.size = 0 from rfl]; omega)
  intro p hp
  rw [bt_append, if_neg (by rw [show ByteArray.empty.size = 0 from rfl]; omega)]; rfl
theorem catS_app (l m : List ByteArray) : catS (l ++ m) = catS l ++ catS m := by
  induction l with
  | nil => show catS m = ByteArray.empty ++ catS m; rw [nil_app]
  | cons x l ih => show x ++ catS (l ++ m) = x ++ catS l ++ catS m; rw [ih, app_assoc]
theorem catS_one (x : ByteArray) : catS [x] = x := app_nil x
theorem take_next {α : Type} {l : List α} {k : Nat} {x : α} (h : l[k]? = some x) : l.take (k + 1) = l.take k ++ [x] := by rw [List.take_add_one, h]; rfl
theorem catS_next {l : List ByteArray} {k : Nat} {x : ByteArray} (h : l[k]? = some x) : catS (l.take (k + 1)) = catS (l.take k) ++ x := by rw [take_next h, catS_app, catS_one]
theorem cat_low (l : List ByteArray) (k : Nat) {p : Nat} (hp : p < (catS (l.take k)).size) : bt (catS (l.take k)) p = bt (catS l) p := by
  conv => rhs; rw [← List.take_append_drop k l, catS_app, bt_append, if_pos hp]
theorem cat_part {l : List ByteArray} {k : Nat} {x : ByteArray} (h : l[k]? = some x) {p : Nat} (hp : p < x.size) : bt x p = bt (catS l) ((catS (l.take k)).size + p) := by
  rw [← cat_low l (k + 1) (by rw [catS_next h, ByteArray.size_append]; omega), catS_next h, bt_append, if_neg (by omega), Nat.add_sub_cancel_left]
set_option maxRecDepth 100000 in
set_option maxHeartbeats 4000000 in
theorem walkDigestParts (a : Option Addr) (n cap : Nat) (w : World) (hK : KAt w) (w0 : Came 25 w a n cap) :
    Calls Tryd.prog 4 #[.slice a n cap] w fun e w' => e = .returned (.bool true) ∧ Below w.heap.size w w' := by
  obtain ⟨ls, hl, hlc, hl63, hA⟩ := came_strs w0
  have HK := hide hK
  clear w0 hK
  by_cases hbig : 12 < n
  · clear hl hA
    go_enter Tryd.func4, Tryd.ntmps4
    go_wp2_with fail
    refine (live_any w HK.out).mono ?_
    rintro e w1 ⟨rfl, hb⟩
    go_wp2_with fail
    go_ret
    exact ⟨rfl, hb⟩
  have HL := hide hl
  have HA := hide hA
  have HE0 : Hid (dig (bt (catS ls)) 0 = dig (bt ByteArray.empty) ByteArray.empty.size) := dig_congr fun p hp => by omega
  have R0 : Hid (∀ W, Calls Tryd.prog 11 #[.string ByteArray.empty] W fun e w' => e = .returned (.string (dig (bt (catS ls)) 0)) ∧ Below W.heap.size W w') := fun W => by rw [HE0.out]; exact refSum_any ByteArray.empty W (by decide)
  clear HE0
  have hfb := bt_lt (catS ls)
  have HFB := hide hfb
  clear hl hA hfb
  go_enter Tryd.func4, Tryd.ntmps4
  go_wp2_with fail
  refine (newT_any (bt (catS ls)) w).mono ?_
  rintro e w1 ⟨b, rfl, hb, hT1, hB1⟩
  have HT1 := hide hT1
  have HB1 := hide hB1
  have HBW := hide hb
  have hb0 : 0 < b := Nat.lt_of_lt_of_le HK.out.1 hb
  clear hT1 hB1 hb
  go_wp2_with fail
  refine (txSum_any b (bt (catS ls)) 0 w1 (HK.out.below HB1.out) HT1.out HFB.out (by decide)).mono ?_
  generalize dig (bt (catS ls)) 0 = D0 at *
  rintro e w2 ⟨rfl, hb2⟩
  have HT2 := hide (HT1.out.below hb2 HT1.out.lt)
  have HB2 := hide (HB1.out.trans (hb2.mono HB1.out.size))
  clear hb2 HT1 HB1
  go_wp2_with fail
  refine (R0.out w2).mono ?_
  rintro e w3 ⟨rfl, hb3⟩
  have HT3 := hide (HT2.out.below hb3 HT2.out.lt)
  have HB3 := hide (HB2.out.trans (hb3.mono HB2.out.size))
  clear hb3 HT2 HB2
  go_wp2_with fail
  go_loopw [4, 5] (fun x y wr => ∃ k : Nat, k ≤ n ∧ y = .int .i64 k ∧ x = .string (catS (ls.take k)) ∧ (catS (ls.take k)).size ≤ 100 * k ∧ TxSt wr b (bt (catS ls)) (catS (ls.take k)).size ∧ Below w.heap.size w wr) (fun _ y _ => n - (intOf y).toNat)
  case atStart => exact ⟨0, by omega, rfl, rfl, Nat.zero_le _, HT3.out, HB3.out⟩
  case round =>
    obtain ⟨k, hk, rfl, rfl, hz, hT, hbl⟩ := hrel
    clear HT3 HB3
    have HT := hide hT
    have HB := hide hbl
    clear hT hbl
    by_cases hlt : k < n
    · obtain ⟨x, hx⟩ : ∃ x, ls[k]? = some x := ⟨_, List.getElem?_eq_getElem (by have := HL.out; omega)⟩
      rcases HA.out with h | ⟨bs, o, rfl, hbs, hcs⟩
      · rw [h] at hx; simp at hx
      have hck := hcs k x hx
      rw [← HB.out.cell (p := ⟨bs, o + k, none⟩) hbs] at hck
      have HX := hide hx
      have hd : decide ((k : Int) < (n : Int)) = true := by simp; omega
      have hdi : (k : Int) < (n : Int) := by omega
      clear hx hcs
      by_cases h0 : 100 < x.size
      · go_wp2_with fail
        refine (live_any wr (HK.out.below HB.out)).mono ?_
        rintro e w1 ⟨rfl, hb⟩
        have HB2 := hide (HB.out.trans (hb.mono HB.out.size))
        clear hb
        go_wp2_with fail
        go_ret
        exact ⟨rfl, HB2.out⟩
      have HN := hide (catS_next HX.out)
      have HP : Hid (∀ p, p < x.size → bt x p = bt (catS ls) ((catS (ls.take k)).size + p)) := fun p hp => cat_part HX.out hp
      have HD : Hid (dig (bt (catS ls)) (catS (ls.take (k + 1))).size = dig (bt (catS (ls.take (k + 1)))) (catS (ls.take (k + 1))).size) := dig_congr fun p hp => (cat_low ls (k + 1) hp).symm
      have HZ : Hid ((catS (ls.take (k + 1))).size = (catS (ls.take k)).size + x.size) := by rw [HN.out, ByteArray.size_append]; exact rfl
      generalize catS (ls.take k) = S at *
      generalize hS2 : catS (ls.take (k + 1)) = S2 at *
      have HS2 : Hid (S ++ x = S2) := HN.out.symm
      have HE2 := hide hS2
      clear hS2 HN
      have hz2 : (S ++ x).size = S.size + x.size := ByteArray.size_append
      go_wp2_with fail
      refine (add_any b (bt (catS ls)) S.size x wr (HK.out.below HB.out) hb0 HT.out HFB.out HP.out (by omega)).mono ?_
      rintro e w4 ⟨rfl, hT4, hb4⟩
      rw [← HZ.out] at hT4
      have HT4 := hide hT4
      have HB4 := hide (HB.out.trans (hb4.mono HBW.out))
      clear hT4 hb4 HB HT hck
      have hze : (((S.size + x.size : Nat) : Int) != (((S ++ x).size : Nat) : Int)) = false := by rw [hz2]; simp
      go_wp2_with fail
      refine (txSum_any b (bt (catS ls)) S2.size w4 (HK.out.below HB4.out) HT4.out HFB.out (by have := HZ.out; omega)).mono ?_
      rw [HD.out]
      rintro e w5 ⟨rfl, hb5⟩
      have HT5 := hide (HT4.out.below hb5 HT4.out.lt)
      have HB5 := hide (HB4.out.trans (hb5.mono HB4.out.size))
      clear hb5 HT4 HB4
      go_wp2_with fail
      refine (refSum_any (S ++ x) w5 (by omega)).mono ?_
      rw [HS2.out]
      rintro e w6 ⟨rfl, hb6⟩
      have HT6 := hide (HT5.out.below hb6 HT5.out.lt)
      have HB6 := hide (HB5.out.trans (hb6.mono HB5.out.size))
      clear hb6 HT5 HB5
      generalize dig (bt S2) S2.size = D at *
      go_wp2_with fail
      exact ⟨⟨k + 1, by omega, by go_num, by rw [HE2.out], by rw [HE2.out]; have := HZ.out; omega, by rw [HE2.out]; exact HT6.out, HB6.out⟩, by simp [intOf]; omega⟩
    · have hd : decide ((k : Int) < (n : Int)) = false := by simp; omega
      have HD : Hid (dig (bt (catS ls)) (catS (ls.take k)).size = dig (bt (catS (ls.take k))) (catS (ls.take k)).size) := dig_congr fun p hp => (cat_low ls k hp).symm
      generalize catS (ls.take k) = S at *
      go_wp2_with fail
      refine (txSum_any b (bt (catS ls)) S.size wr (HK.out.below HB.out) HT.out HFB.out (by omega)).mono ?_
      rw [HD.out]
      rintro e w5 ⟨rfl, hb5⟩
      have HB5 := hide (HB.out.trans (hb5.mono HB.out.size))
      clear hb5 HB
      go_wp2_with fail
      refine (dsum_any S w5 (HK.out.below HB5.out) (by omega)).mono ?_
      rintro e w6 ⟨rfl, hb6⟩
      have HB6 := hide (HB5.out.trans (hb6.mono HB5.out.size))
      clear hb6 HB5
      generalize dig (bt S) S.size = D at *
      go_wp2_with fail
      refine (live_any w6 (HK.out.below HB6.out)).mono ?_
      rintro e w7 ⟨rfl, hb7⟩
      have HB7 := hide (HB6.out.trans (hb7.mono HB6.out.size))
      clear hb7 HB6
      go_wp2_with fail
      go_ret
      exact ⟨rfl, HB7.out⟩
end Go.Proofs.YtenfjhbedcnmeaaDoor
