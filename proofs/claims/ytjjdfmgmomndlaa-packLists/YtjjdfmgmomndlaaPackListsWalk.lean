/- The law PackLists returns true at every input, and writes nothing that was there. -/
import Derived.Test.YtjjdfmgmomndlaaPkLive
import Derived.Test.YtjjdfmgmomndlaaCame
namespace Go.Proofs.Ytjjdfmgmomndlaa
open Go.RowKit
def numsS : List Int → ByteArray
  | [] => ByteArray.empty
  | x :: l => numI x ++ numsS l
def textsS : List ByteArray → ByteArray
  | [] => ByteArray.empty
  | x :: l => textS x ++ textsS l
def NumOk (l : List Int) : Prop := ∀ x ∈ l, 0 ≤ x ∧ x ≤ 72057594037927935
def TxtOk (l : List ByteArray) : Prop := ∀ x ∈ l, x.size ≤ 300
theorem numsS_snoc (l : List Int) (x : Int) : numsS (l ++ [x]) = numsS l ++ numI x := by
  induction l with
  | nil => show numI x ++ ByteArray.empty = ByteArray.empty ++ numI x; rw [app_nil, nil_app]
  | cons y l ih => show numI y ++ numsS (l ++ [x]) = numI y ++ numsS l ++ numI x; rw [ih, app_assoc]
theorem textsS_snoc (l : List ByteArray) (x : ByteArray) : textsS (l ++ [x]) = textsS l ++ textS x := by
  induction l with
  | nil => show textS x ++ ByteArray.empty = ByteArray.empty ++ textS x; rw [app_nil, nil_app]
  | cons y l ih => show textS y ++ textsS (l ++ [x]) = textS y ++ textsS l ++ textS x; rw [ih, app_assoc]
theorem numI_ok {x : Int} (h : 0 ≤ x ∧ x ≤ 72057594037927935) : ∃ k : Nat, x = (k : Int) ∧ k < 72057594037927936 ∧ numI x = numS k := by
  obtain ⟨k, rfl⟩ : ∃ k : Nat, x = (k : Int) := ⟨x.toNat, by omega⟩
  exact ⟨k, rfl, by omega, numI_nat (by omega)⟩
theorem numI_size {x : Int} (h : 0 ≤ x ∧ x ≤ 72057594037927935) : (numI x).size ≤ 8 := by
  obtain ⟨k, rfl, hk, e⟩ := numI_ok h
  rw [e, numS_size]; exact nlen_top hk
theorem textS_size {x : ByteArray} (h : x.size ≤ 300) : (textS x).size ≤ 308 := by
  unfold textS; rw [ByteArray.size_append, numS_size]
  have := nlen_top (n := x.size) (by omega)
  omega
theorem numsS_size {l : List Int} (h : NumOk l) : (numsS l).size ≤ 8 * l.length := by
  induction l with
  | nil => exact Nat.zero_le _
  | cons y l ih =>
    show (numI y ++ numsS l).size ≤ 8 * (l.length + 1)
    rw [ByteArray.size_append]
    have := numI_size (h y (by simp))
    have := ih fun x hx => h x (by simp [hx])
    omega
theorem textsS_size {l : List ByteArray} (h : TxtOk l) : (textsS l).size ≤ 308 * l.length := by
  induction l with
  | nil => exact Nat.zero_le _
  | cons y l ih =>
    show (textS y ++ textsS l).size ≤ 308 * (l.length + 1)
    rw [ByteArray.size_append]
    have := textS_size (h y (by simp))
    have := ih fun x hx => h x (by simp [hx])
    omega
theorem take_next {α : Type} {l : List α} {k : Nat} {x : α} (h : l[k]? = some x) : l.take (k + 1) = l.take k ++ [x] := by rw [List.take_add_one, h]; rfl
theorem drop_next {α : Type} {l : List α} {k : Nat} {x : α} (h : l[k]? = some x) : l.drop k = x :: l.drop (k + 1) := by
  obtain ⟨hk, rfl⟩ := List.getElem?_eq_some_iff.1 h
  exact List.drop_eq_getElem_cons hk
theorem numOk_next {l : List Int} {k : Nat} {x : Int} (h : NumOk (l.take k)) (hx : l[k]? = some x) (h0 : 0 ≤ x) (h1 : x ≤ 72057594037927935) : NumOk (l.take (k + 1)) := by
  rw [take_next hx]
  intro y hy
  rcases List.mem_append.1 hy with c | c
  · exact h y c
  · rw [List.mem_singleton.1 c]; exact ⟨h0, h1⟩
theorem txtOk_next {l : List ByteArray} {k : Nat} {x : ByteArray} (h : TxtOk (l.take k)) (hx : l[k]? = some x) (h0 : x.size ≤ 300) : TxtOk (l.take (k + 1)) := by
  rw [take_next hx]
  intro y hy
  rcases List.mem_append.1 hy with c | c
  · exact h y c
  · rw [List.mem_singleton.1 c]; exact h0
theorem but_cell {b : Nat} {w w' : World} (h : But b w w') {p : Addr} (hp : p.block ≠ b) : w'.cell? p = w.cell? p := World.cell?_of_block (w := w) (h.block p.block hp)
theorem numOk_at {l : List Int} {k : Nat} {x : Int} (h : NumOk l) (hx : l[k]? = some x) : 0 ≤ x ∧ x ≤ 72057594037927935 := h x (List.mem_of_getElem? hx)
theorem txtOk_at {l : List ByteArray} {k : Nat} {x : ByteArray} (h : TxtOk l) (hx : l[k]? = some x) : x.size ≤ 300 := h x (List.mem_of_getElem? hx)
theorem numOk_drop {l : List Int} (h : NumOk l) (k : Nat) : NumOk (l.drop k) := fun x hx => h x (List.mem_of_mem_drop hx)
theorem txtOk_drop {l : List ByteArray} (h : TxtOk l) (k : Nat) : TxtOk (l.drop k) := fun x hx => h x (List.mem_of_mem_drop hx)
/-- a number, then the rest -/
theorem rd_nums {l : List Int} {k : Nat} {x : Int} (T : ByteArray) (h : NumOk l) (hx : l[k]? = some x) : rE (numsS (l.drop k) ++ T) = 0 ∧ ((rN (numsS (l.drop k) ++ T) : Nat) : Int) = x ∧ rR (numsS (l.drop k) ++ T) = numsS (l.drop (k + 1)) ++ T := by
  obtain ⟨m, rfl, hm, e⟩ := numI_ok (numOk_at h hx)
  rw [drop_next hx]
  show rE (numI (m : Int) ++ numsS _ ++ T) = 0 ∧ ((rN (numI (m : Int) ++ numsS _ ++ T) : Nat) : Int) = (m : Int) ∧ rR (numI (m : Int) ++ numsS _ ++ T) = _
  rw [e, app_assoc]
  obtain ⟨_, h1, h2, h3⟩ := rd_num (n := m) (numsS (l.drop (k + 1)) ++ T) hm
  exact ⟨h1, by rw [h2], h3⟩
theorem rd_texts {l : List ByteArray} {k : Nat} {x : ByteArray} (h : TxtOk l) (hx : l[k]? = some x) : tE (textsS (l.drop k)) = 0 ∧ tT (textsS (l.drop k)) = x ∧ tR (textsS (l.drop k)) = textsS (l.drop (k + 1)) := by
  rw [drop_next hx]
  exact rd_text (s := x) (textsS (l.drop (k + 1))) (by have := txtOk_at h hx; omega)
theorem full_take {α : Type} {l : List α} {n : Nat} (h : l.length = n) : l.take n = l := List.take_of_length_le (by omega)
theorem full_drop {α : Type} {l : List α} {n : Nat} (h : l.length = n) : l.drop n = [] := List.drop_eq_nil_of_le (by omega)
set_option maxRecDepth 100000 in
set_option maxHeartbeats 8000000 in
theorem walkPackLists (a : Option Addr) (n cap : Nat) (a2 : Option Addr) (m cap2 : Nat) (w : World) (w0 : Came 26 w a n cap) (w1 : Came 40 w a2 m cap2) :
    Calls Try.prog 8 #[.slice a n cap, .slice a2 m cap2] w fun e w' => e = .returned (.bool true) ∧ Below w.heap.size w w' := by
  obtain ⟨ls, hl, hlc, hl63, hA⟩ := came_nums w0
  obtain ⟨ts, ht, htc, ht63, hC⟩ := came_strs w1
  clear w0 w1
  by_cases hbig : 20 < n
  · clear hl hA ht hC
    go_enter Try.func8, Try.ntmps8
    go_wp2_with fail
    refine (live_any _).mono ?_
    rintro e w1 ⟨rfl, hb⟩
    go_wp2_with fail
    go_ret
    exact ⟨rfl, hb⟩
  by_cases hbig2 : 20 < m
  · clear hl hA ht hC
    go_enter Try.func8, Try.ntmps8
    go_wp2_with fail
    refine (live_any _).mono ?_
    rintro e w1 ⟨rfl, hb⟩
    go_wp2_with fail
    go_ret
    exact ⟨rfl, hb⟩
  have HL := hide hl
  have HA := hide hA
  have HT := hide ht
  have HC := hide hC
  clear hl hA ht hC
  go_enter Try.func8, Try.ntmps8
  go_wp2_with fail
  go_loopw [5, 6] (fun x y wr => ∃ k : Nat, k ≤ n ∧ y = .int .i64 k ∧ x = .string (numsS (ls.take k)) ∧ NumOk (ls.take k) ∧ Below w.heap.size w wr) (fun _ y _ => n - (intOf y).toNat)
  case atStart => exact ⟨0, by omega, rfl, rfl, fun x hx => by simp at hx, Below.refl _ _⟩
  case round =>
    obtain ⟨k, hk, rfl, rfl, hok, hbl⟩ := hrel
    have HOK := hide hok
    have HB := hide hbl
    have hz := numsS_size hok
    rw [List.length_take] at hz
    clear hok hbl
    by_cases hlt : k < n
    · obtain ⟨x, hx⟩ : ∃ x, ls[k]? = some x := ⟨_, List.getElem?_eq_getElem (by have := HL.out; omega)⟩
      rcases HA.out with h | ⟨bs, o, rfl, hbs, hcs⟩
      · rw [h] at hx; simp at hx
      have hck := hcs k x hx
      rw [← HB.out.cell (p := ⟨bs, o + k, none⟩) hbs] at hck
      have HX := hide hx
      have hd : decide ((k : Int) < (n : Int)) = true := by simp; omega
      have hdi : (k : Int) < (n : Int) := by omega
      clear hx hcs
      by_cases h0 : x < 0
      · have h0' : decide (x < 0) = true := by simp; omega
        go_wp2_with fail
        refine (live_any _).mono ?_
        rintro e w1 ⟨rfl, hb⟩
        have HB2 := hide (HB.out.trans (hb.mono HB.out.size))
        clear hb
        go_wp2_with fail
        go_ret
        exact ⟨rfl, HB2.out⟩
      have h0' : decide (x < 0) = false := by simp; omega
      by_cases h1 : 72057594037927935 < x
      · have h1' : decide (72057594037927935 < x) = true := by simp; omega
        go_wp2_with fail
        refine (live_any _).mono ?_
        rintro e w1 ⟨rfl, hb⟩
        have HB2 := hide (HB.out.trans (hb.mono HB.out.size))
        clear hb
        go_wp2_with fail
        go_ret
        exact ⟨rfl, HB2.out⟩
      have h1' : decide (72057594037927935 < x) = false := by simp; omega
      have HN : Hid (numsS (ls.take k) ++ numI x = numsS (ls.take (k + 1))) := by rw [take_next HX.out, numsS_snoc]; exact rfl
      have HOK2 := hide (numOk_next HOK.out HX.out (by omega) (by omega))
      have hz2 := numI_size (x := x) ⟨by omega, by omega⟩
      generalize numsS (ls.take k) = S at *
      go_wp2_with fail
      refine (number_any x wr).mono ?_
      generalize numI x = N at *
      rintro e w1 ⟨rfl, hb⟩
      have HB2 := hide (HB.out.trans (hb.mono HB.out.size))
      clear hb hck
      go_wp2_with fail
      exact ⟨⟨k + 1, by omega, by go_num, by rw [HN.out], HOK2.out, HB2.out⟩, by simp [intOf]; omega⟩
    · obtain rfl : k = n := by omega
      rw [full_take HL.out] at HOK hz ⊢
      clear hlt
      go_wp2_with fail
      go_loopw [5, 7] (fun x y wr => ∃ j : Nat, j ≤ m ∧ y = .int .i64 j ∧ x = .string (numsS ls ++ textsS (ts.take j)) ∧ TxtOk (ts.take j) ∧ Below w.heap.size w wr) (fun _ y _ => m - (intOf y).toNat)
      case atStart => exact ⟨0, by omega, rfl, by rw [List.take_zero]; show _ = Value.string (_ ++ ByteArray.empty); rw [app_nil], fun x hx => by simp at hx, HB.out⟩
      case round =>
        obtain ⟨j, hj, rfl, rfl, hok2, hbl⟩ := hrel
        clear HB
        have HOK2 := hide hok2
        have HB := hide hbl
        have hz2 := textsS_size hok2
        rw [List.length_take] at hz2
        have hz3 : (numsS ls ++ textsS (ts.take j)).size = (numsS ls).size + (textsS (ts.take j)).size := ByteArray.size_append
        clear hok2 hbl
        by_cases hlt : j < m
        · obtain ⟨x, hx⟩ : ∃ x, ts[j]? = some x := ⟨_, List.getElem?_eq_getElem (by have := HT.out; omega)⟩
          rcases HC.out with h | ⟨bs, o, rfl, hbs, hcs⟩
          · rw [h] at hx; simp at hx
          have hck := hcs j x hx
          rw [← HB.out.cell (p := ⟨bs, o + j, none⟩) hbs] at hck
          have HX := hide hx
          have hd : decide ((j : Int) < (m : Int)) = true := by simp; omega
          have hdi : (j : Int) < (m : Int) := by omega
          clear hx hcs
          by_cases h0 : 300 < x.size
          · go_wp2_with fail
            refine (live_any _).mono ?_
            rintro e w1 ⟨rfl, hb⟩
            have HB2 := hide (HB.out.trans (hb.mono HB.out.size))
            clear hb
            go_wp2_with fail
            go_ret
            exact ⟨rfl, HB2.out⟩
          have HN : Hid (numsS ls ++ textsS (ts.take j) ++ textS x = numsS ls ++ textsS (ts.take (j + 1))) := by rw [take_next HX.out, textsS_snoc, app_assoc]; exact rfl
          have HOK3 := hide (txtOk_next HOK2.out HX.out (by omega))
          have hz4 := textS_size (x := x) (by omega)
          generalize numsS ls ++ textsS (ts.take j) = S at *
          go_wp2_with fail
          refine (text_any x wr (by omega)).mono ?_
          generalize textS x = N at *
          rintro e w1 ⟨rfl, hb⟩
          have HB2 := hide (HB.out.trans (hb.mono HB.out.size))
          clear hb hck
          go_wp2_with fail
          exact ⟨⟨j + 1, by omega, by go_num, by rw [HN.out], HOK3.out, HB2.out⟩, by simp [intOf]; omega⟩
        · obtain rfl : j = m := by omega
          rw [full_take HT.out] at HOK2 hz2 hz3 ⊢
          clear hlt
          go_wp2_with fail
          refine (read_any _ wr).mono ?_
          rintro e w1 ⟨b, rfl, hb, _, hR1, hB1⟩
          have HR1 := hide hR1
          have HB1 := hide (HB.out.trans (hB1.mono HB.out.size))
          have HBW : Hid (w.heap.size ≤ b) := by rw [hb]; exact HB.out.size
          clear hR1 hB1 hb HB
          go_wp2_with fail
          go_loopw [9] (fun y wr => ∃ i : Nat, i ≤ k ∧ y = .int .i64 i ∧ RdAt wr b 47 (numsS (ls.drop i) ++ textsS ts) 0 ∧ Below w.heap.size w wr) (fun y _ => k - (intOf y).toNat)
          case atStart => exact ⟨0, by omega, rfl, HR1.out, HB1.out⟩
          case round =>
            obtain ⟨i, hi, rfl, hR, hbl⟩ := hrel
            clear HR1 HB1
            have HR := hide hR
            have HB := hide hbl
            have hz4 := numsS_size (numOk_drop HOK.out i)
            rw [List.length_drop] at hz4
            clear hR hbl
            by_cases hlt : i < k
            · obtain ⟨x, hx⟩ : ∃ x, ls[i]? = some x := ⟨_, List.getElem?_eq_getElem (by have := HL.out; omega)⟩
              rcases HA.out with h | ⟨bs, o, rfl, hbs, hcs⟩
              · rw [h] at hx; simp at hx
              have hck := hcs i x hx
              rw [← HB.out.cell (p := ⟨bs, o + i, none⟩) hbs] at hck
              have hck2 : wr.drew.cell? ⟨bs, o + i, none⟩ = some (.int .i64 x) := hck
              have HCK := hide hck
              obtain ⟨a1, a2, a3⟩ := rd_nums (textsS ts) HOK.out hx
              have A1 := hide a1
              have A2 := hide a2
              have A3 := hide a3
              have hd : decide ((i : Int) < (k : Int)) = true := by simp; omega
              have hdi : (i : Int) < (k : Int) := by omega
              have HNE : Hid (bs ≠ b) := by have := HBW.out; show bs ≠ b; omega
              have HZ : Hid ((numsS (ls.drop i) ++ textsS ts).size ≤ 1000000) := by show _ ≤ _; rw [ByteArray.size_append]; have := HL.out; have := HT.out; omega
              clear hx hcs a1 a2 a3 hck
              go_wp2_with fail
              go_region_with (first | (go_at_call 16; refine (rnum_ok b _ _ (by exact HR.out) HZ.out).mono ?_; rw [A1.out, A2.out, A3.out]; rintro e w1 ⟨rfl, hR1, hB1⟩; have HR1 := hide hR1; have hck3 := (but_cell hB1 (p := ⟨bs, o + i, none⟩) HNE.out).trans HCK.out; have HB1 := hide (HB.out.drew.trans (hB1.below HBW.out)); clear hR1 hB1))
              all_goals
                go_wp2_with fail
                exact ⟨⟨i + 1, by omega, by go_num, HR1.out, HB1.out⟩, by simp [intOf]; omega⟩
            · obtain rfl : i = k := by omega
              rw [full_drop HL.out] at HR
              have HR0 : Hid (RdAt wr b 47 (textsS ts) 0) := by have := HR.out; rw [show numsS [] ++ textsS ts = textsS ts from nil_app _] at this; exact this
              clear hlt HR
              go_wp2_with fail
              go_loopw [10] (fun y wr => ∃ i : Nat, i ≤ j ∧ y = .int .i64 i ∧ RdAt wr b 47 (textsS (ts.drop i)) 0 ∧ Below w.heap.size w wr) (fun y _ => j - (intOf y).toNat)
              case atStart => exact ⟨0, by omega, rfl, HR0.out, HB.out⟩
              case round =>
                obtain ⟨q, hq, rfl, hR, hbl⟩ := hrel
                clear HR0 HB
                have HR := hide hR
                have HB := hide hbl
                have hz5 := textsS_size (txtOk_drop HOK2.out q)
                rw [List.length_drop] at hz5
                clear hR hbl
                by_cases hlt : q < j
                · obtain ⟨x, hx⟩ : ∃ x, ts[q]? = some x := ⟨_, List.getElem?_eq_getElem (by have := HT.out; omega)⟩
                  rcases HC.out with h | ⟨bs, o, rfl, hbs, hcs⟩
                  · rw [h] at hx; simp at hx
                  have hck := hcs q x hx
                  rw [← HB.out.cell (p := ⟨bs, o + q, none⟩) hbs] at hck
                  have hck2 : wr.drew.cell? ⟨bs, o + q, none⟩ = some (.string x) := hck
                  have HCK := hide hck
                  obtain ⟨a1, a2, a3⟩ := rd_texts HOK2.out hx
                  have A1 := hide a1
                  have A2 := hide a2
                  have A3 := hide a3
                  have hd : decide ((q : Int) < (j : Int)) = true := by simp; omega
                  have hdi : (q : Int) < (j : Int) := by omega
                  have HNE : Hid (bs ≠ b) := by have := HBW.out; show bs ≠ b; omega
                  have HZ : Hid ((textsS (ts.drop q)).size ≤ 1000000) := by show _ ≤ _; have := HT.out; omega
                  clear hx hcs a1 a2 a3 hck
                  go_wp2_with fail
                  go_region_with (first | (go_at_call 18; refine (rtext_ok b _ _ (by exact HR.out) HZ.out).mono ?_; rw [A1.out, A2.out, A3.out]; rintro e w1 ⟨rfl, hR1, hB1⟩; have HR1 := hide hR1; have hck3 := (but_cell hB1 (p := ⟨bs, o + q, none⟩) HNE.out).trans HCK.out; have HB1 := hide (HB.out.drew.trans (hB1.below HBW.out)); clear hR1 hB1))
                  all_goals
                    go_wp2_with fail
                    exact ⟨⟨q + 1, by omega, by go_num, HR1.out, HB1.out⟩, by simp [intOf]; omega⟩
                · obtain rfl : q = j := by omega
                  rw [full_drop HT.out] at HR
                  clear hlt
                  go_wp2_with fail
                  refine (rend_done b wr HR.out).mono ?_
                  rintro e w7 ⟨rfl, rfl⟩
                  go_wp2_with fail
                  refine (live_any _).mono ?_
                  rintro e w8 ⟨rfl, hb8⟩
                  have HB8 := hide (HB.out.trans (hb8.mono HB.out.size))
                  clear hb8
                  go_wp2_with fail
                  go_ret
                  exact ⟨rfl, HB8.out⟩
end Go.Proofs.Ytjjdfmgmomndlaa
