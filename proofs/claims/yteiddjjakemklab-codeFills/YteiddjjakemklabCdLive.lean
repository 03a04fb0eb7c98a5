/- live() of the code's laws answers true, and leaves all memory that there was. -/
import Derived.Test.YteiddjjakemklabCdIs
import Derived.StillTactics
import Derived.Laws.Pointers
import Derived.Deep.RegionHeld3
namespace Go.Proofs.Yteiddjjakemklab
open Go.RowKit
def dat6 : List ByteArray := [⟨#[97]⟩, ⟨#[98]⟩, ⟨#[99]⟩, ⟨#[100]⟩, ⟨#[101]⟩, ⟨#[102]⟩]
theorem strs_lit (w : World) (l : List ByteArray) (t : TypeId) : StrsAt (w.alloc (.cells (l.map Value.string).toArray t)) (some ⟨w.heap.size, 0, none⟩) l := by
  refine .inr ⟨_, 0, rfl, by simp, fun i s hs => ?_⟩
  rw [Nat.zero_add, World.cell?_alloc_new]
  simp [hs]
theorem dat6_size : ∀ s ∈ dat6, s.size = 1 := by
  intro s hs
  simp only [dat6, List.mem_cons, List.not_mem_nil, or_false] at hs
  rcases hs with rfl | rfl | rfl | rfl | rfl | rfl <;> rfl
theorem fac60 : Cd.fac 6 0 = 122 := by decide +kernel
/-- the nine shards of six texts of length L -/
def nine (l : List ByteArray) (L : Nat) : List ByteArray := (List.range 9).map (sh l L)
theorem nine_len (l : List ByteArray) (L : Nat) : (nine l L).length = 9 := by simp [nine]
theorem nine_at (l : List ByteArray) (L : Nat) {i : Nat} (hi : i < 9) : (nine l L)[i]? = some (sh l L i) := by simp [nine, hi]
theorem sh_low {l : List ByteArray} {L i : Nat} (hi : i < 6) {s : ByteArray} (hs : l[i]? = some s) (hz : s.size = L) : sh l L i = s := by
  apply ext_bt
  · rw [hz]; exact mkS_size _ _
  · intro p hp
    have hp' : p < L := by rwa [show (sh l L i).size = L from mkS_size _ _] at hp
    unfold sh
    rw [sumS_bt hp', Cd.dot_congr (r' := Cd.unitM i) (v' := fun j => bt (l[j]?.getD ByteArray.empty) p) (fun j _ => by unfold Cd.fac Cd.unitM; rw [if_pos hi]) (fun _ _ => rfl), Cd.dot_unit (v := fun j => bt (l[j]?.getD ByteArray.empty) p) hi (bt_lt _ _), hs]
    rfl
theorem nine_take {l : List ByteArray} {L : Nat} (hl : l.length = 6) (hz : ∀ s ∈ l, s.size = L) : (nine l L).take 6 = l := by
  apply List.ext_getElem?
  intro i
  by_cases hi : i < 6
  · obtain ⟨s, hs⟩ : ∃ s, l[i]? = some s := ⟨_, List.getElem?_eq_getElem (by omega)⟩
    rw [List.getElem?_take, if_pos hi, nine_at l L (by omega), sh_low hi hs (hz s (List.mem_of_getElem? hs)), hs]
  · rw [List.getElem?_take, if_neg hi, List.getElem?_eq_none (by omega)]
theorem head_size {l : List ByteArray} {L : Nat} (hl : l.length = 6) (hz : ∀ s ∈ l, s.size = L) : (l[0]?.getD ByteArray.empty).size = L := by
  have : l[0]? = some l[0] := List.getElem?_eq_getElem (by omega)
  rw [this]; exact hz _ (List.getElem_mem _)
theorem al_of {l : List ByteArray} {L : Nat} (hl : l.length = 6) (hz : ∀ s ∈ l, s.size = L) : al l = true := al_iff.2 fun s hs => by rw [hz s hs, head_size hl hz]
theorem nine_is {l : List ByteArray} {L : Nat} (hl : l.length = 6) (hz : ∀ s ∈ l, s.size = L) : isB (nine l L) = true := by
  unfold isB
  rw [nine_take hl hz, al_of hl hz]
  have : shs l = nine l L := by unfold shs nine; rw [head_size hl hz]
  rw [this, nine_len]
  simp
theorem FnAt.nine {w : World} {g L : Nat} {l : List ByteArray} (h : FnAt w g 9 9 (fun i => .string (sh l L i))) : StrsAt w (some ⟨g, 0, none⟩) (nine l L) := h.strs
theorem bool_info : (Try.prog.info? 4).map (fun i => (i.zero, i.size, i.bytes)) = some (some (.bool false), 1, 1) := by kernel_rfl
theorem make_bools (n : Nat) (h : n ≤ 1000000) (w : World) : (Instr.makeSlice 38 (.int .i64 (n : Int)) (.int .i64 (n : Int))).run Try.prog w = .ok (.slice (some ⟨w.heap.size, 0, none⟩) n n) (w.alloc (.cells (fnC n fun _ => .bool false) 4)) := by
  obtain ⟨i0, hi, hz0, hz1, hz2⟩ := info_parts bool_info
  have h := run_make (P := Try.prog) w 38 4 i0 (.bool false) Try.underlying38 hi hz0 .i64 .i64 n n (by omega) (by omega) (by rw [hz2]; omega) (by omega)
  rw [hz1] at h
  rw [h]
  simp only [Int.toNat_natCast, Nat.mul_one]
  rw [show (Value.bool false).cells = #[.bool false] from rfl, fnC_made]
def hv0 : List Bool := [false, false, false, false, false, false, false, false, false]
theorem cnt0 : cntOf hv0 = 0 := by decide +kernel
theorem selS0 (ls : List ByteArray) : selTo ls hv0 9 = [] := rfl
/-- Fill with no shard at all -/
theorem fill_none (b bs bh : Nat) (ls : List ByteArray) (w : World) (ht : TabAt w b) (hls : ls.length = 9) (hbs : bs < w.heap.size) (hbh : bh < w.heap.size)
    (hcs : ∀ (i : Nat) (s : ByteArray), ls[i]? = some s → w.cell? ⟨bs, 0 + i, none⟩ = some (.string s)) (hch : ∀ (i : Nat) (s : Bool), hv0[i]? = some s → w.cell? ⟨bh, 0 + i, none⟩ = some (.bool s)) :
    Calls Try.prog 17 #[.pointer (some ⟨b, 0, none⟩), .slice (some ⟨bs, 0, none⟩) 9 9, .slice (some ⟨bh, 0, none⟩) 9 9] w fun e w' => e = .returned (.tuple #[.slice none 0 0, .int .i64 2]) ∧ Below w.heap.size w w' := by
  obtain ⟨k, hk, he, hF⟩ := fill_cert b bs 0 bh 0 9 9 ls hv0 w ht hls rfl hbs hbh (by unfold lenS selS; rw [selS0]; decide) hcs hch
  refine hF.mono ?_
  rintro e w' (⟨h, _⟩ | ⟨_, _, h, hb⟩ | ⟨_, h, _⟩)
  · rw [selS0] at h; cases h
  · exact ⟨h, hb⟩
  · rw [selS0] at h; simp at h
def ls9 : List ByteArray := [⟨#[]⟩, ⟨#[]⟩, ⟨#[]⟩, sh dat6 1 3, sh dat6 1 4, sh dat6 1 5, sh dat6 1 6, sh dat6 1 7, sh dat6 1 8]
def hv9 : List Bool := [false, false, false, true, true, true, true, true, true]
theorem selS9 : selS ls9 hv9 = [sh dat6 1 3, sh dat6 1 4, sh dat6 1 5, sh dat6 1 6, sh dat6 1 7, sh dat6 1 8] := rfl
theorem sh_size (l : List ByteArray) (L i : Nat) : (sh l L i).size = L := mkS_size _ _
theorem lenS9 : lenS ls9 hv9 = 1 := by unfold lenS; rw [selS9]; exact sh_size _ _ _
theorem al9 : al (selS ls9 hv9) = true := by
  rw [al_iff, selS9]
  intro s hs
  simp only [List.mem_cons, List.not_mem_nil, or_false] at hs
  rcases hs with rfl | rfl | rfl | rfl | rfl | rfl <;> rw [sh_size] <;> exact (sh_size _ _ _).symm
theorem cnt9 : cntOf hv9 = 6 := by decide +kernel
theorem idx9 : idxOf hv9 = [3, 4, 5, 6, 7, 8] := by decide +kernel
/-- a slice of nine strings that an Encode's are -/
def NineAt (w0 : World) (l : List ByteArray) (L : Nat) (e : Ending) (w' : World) : Prop :=
  ∃ g, e = .returned (.tuple #[.slice (some ⟨g, 0, none⟩) 9 9, .int .i64 0]) ∧ w0.heap.size ≤ g ∧ FnAt w' g 9 9 (fun i => .string (sh l L i)) ∧ Below w0.heap.size w0 w'
theorem fill_live (b bs bh : Nat) (w : World) (ht : TabAt w b) (hbs : bs < w.heap.size) (hbh : bh < w.heap.size)
    (hcs : ∀ (i : Nat) (s : ByteArray), ls9[i]? = some s → w.cell? ⟨bs, 0 + i, none⟩ = some (.string s)) (hch : ∀ (i : Nat) (s : Bool), hv9[i]? = some s → w.cell? ⟨bh, 0 + i, none⟩ = some (.bool s)) :
    Calls Try.prog 17 #[.pointer (some ⟨b, 0, none⟩), .slice (some ⟨bs, 0, none⟩) 9 9, .slice (some ⟨bh, 0, none⟩) 9 9] w (NineAt w dat6 1) := by
  obtain ⟨k, hk, he, hF⟩ := fill_cert b bs 0 bh 0 9 9 ls9 hv9 w ht rfl rfl hbs hbh (by rw [lenS9]; omega) hcs hch
  refine hF.mono ?_
  rintro e w' (⟨h, _⟩ | ⟨_, h, _⟩ | ⟨_, _, g, he', hg, hf, hb⟩)
  · have := al9; unfold selS at this; rw [this] at h; cases h
  · rw [sel_cnt, cnt9] at h; omega
  · refine ⟨g, he', hg, ?_, hb⟩
    rw [lenS9] at hf
    rw [data_back hk (data := dat6) rfl dat6_size (fun t ht => by
      rw [he (by rw [cnt9]; omega), idx9, selS9]
      rcases lt6 ht with rfl | rfl | rfl | rfl | rfl | rfl <;> rfl)] at hf
    exact hf
set_option maxRecDepth 100000 in
set_option maxHeartbeats 2000000 in
theorem live_any (w : World) :
    Calls Try.prog 9 #[] w fun e w' => e = .returned (.bool true) ∧ Below w.heap.size w w' := by
  go_enter Try.func9, Try.ntmps9
  go_wp2_with fail
  refine (new_any _).mono ?_
  rintro e w1 ⟨rfl, ht, hb1⟩
  have hbl := ht.lt
  have hbA : Below w1.heap.size w1 (w1.alloc (.cells (dat6.map Value.string).toArray 9)) := (Below.refl _ _).alloc (Nat.le_refl _) _
  have hE := encode_any w.heap.size (some ⟨w1.heap.size, 0, none⟩) 6 1 dat6 _ (ht.below hbA hbl) rfl (strs_lit w1 dat6 9) dat6_size (by omega)
  have HE := hide hE
  have HT := hide ht
  have HB1 := hide hb1
  clear hE ht hb1
  go_wp2_with fail
  refine HE.out.mono ?_
  rintro e w2 ⟨rfl, hf2, hb2⟩
  have hb2' : Below w1.heap.size w1 w2 := hbA.trans (hb2.mono (by simp))
  rw [World.size_alloc] at hf2 ⊢
  have HT2 := hide (HT.out.below hb2' hbl)
  have HF2 := hide hf2
  have HB2 := hide hb2'
  clear hb2 hb2' hf2 HE hbA
  generalize w1.heap.size + 1 = g at *
  go_wp2_with fail
  refine (factor_parity _ 6 0 _ HT2.out (by omega) (by omega) (by omega)).mono ?_
  rintro e w3 ⟨he, n3, rfl⟩
  rw [fac60] at he; subst he
  go_wp2_with fail
  have q1 : FnAt ((w2.drewN n3).alloc (.cells (hv9.map Value.bool).toArray 4)) g 9 9 (fun i => .string (sh dat6 1 i)) := (HF2.out.drewN n3).alloc _
  have q2 : ((w2.drewN n3).alloc (.cells (hv9.map Value.bool).toArray 4)).heap[w2.heap.size]? = some (.cells (hv9.map Value.bool).toArray 4 (0, 0)) := heap_alloc_new _ _
  have q3 : Below w.heap.size w ((w2.drewN n3).alloc (.cells (hv9.map Value.bool).toArray 4)) := (below_draws (HB1.out.trans (HB2.out.mono HB1.out.size)) n3).alloc (by have := HB1.out.size; have := HB2.out.size; show _ ≤ w2.heap.size; omega) _
  have q4 : TabAt ((w2.drewN n3).alloc (.cells (hv9.map Value.bool).toArray 4)) w.heap.size := HT2.out.below (B := w2.heap.size) (by exact (below_draws (Below.refl _ _) n3).alloc (Nat.le_refl _) _) HT2.out.lt
  clear HT2 HF2 HB2 HT HB1 hbl
  rw [show ((w2.drewN n3).alloc (.cells (hv9.map Value.bool).toArray 4)) = ((w2.drewN n3).alloc (.cells #[.bool false, .bool false, .bool false, .bool true, .bool true, .bool true, .bool true, .bool true, .bool true] 4)) from rfl] at q1 q2 q3 q4
  generalize ((w2.drewN n3).alloc (.cells #[.bool false, .bool false, .bool false, .bool true, .bool true, .bool true, .bool true, .bool true, .bool true] 4)) = w4 at *
  generalize w2.heap.size = hb at *
  have c3 := q1.cell (p := 3) (by omega)
  have c4 := q1.cell (p := 4) (by omega)
  have c5 := q1.cell (p := 5) (by omega)
  have c6 := q1.cell (p := 6) (by omega)
  have c7 := q1.cell (p := 7) (by omega)
  have c8 := q1.cell (p := 8) (by omega)
  have hgl : g < w4.heap.size := q1.lt
  have hhl : hb < w4.heap.size := lt_of_block q2
  have Q1 := hide q1
  have Q2 := hide q2
  have Q3 := hide q3
  have Q4 := hide q4
  clear q1 q2 q3 q4
  go_region_held3 (fun w' => w'.cell? ⟨g, 3, none⟩ = some (.string (sh dat6 1 3)) ∧ w'.cell? ⟨g, 4, none⟩ = some (.string (sh dat6 1 4)) ∧ w'.cell? ⟨g, 5, none⟩ = some (.string (sh dat6 1 5)) ∧ w'.cell? ⟨g, 6, none⟩ = some (.string (sh dat6 1 6)) ∧ w'.cell? ⟨g, 7, none⟩ = some (.string (sh dat6 1 7)) ∧ w'.cell? ⟨g, 8, none⟩ = some (.string (sh dat6 1 8))) (first | go_keep | (have qq := hf5; exact ⟨qq.cell (p := 3) (by omega), qq.cell (p := 4) (by omega), qq.cell (p := 5) (by omega), qq.cell (p := 6) (by omega), qq.cell (p := 7) (by omega), qq.cell (p := 8) (by omega)⟩))
    (first | (go_at_call 17; refine (fill_live w.heap.size w4.heap.size hb _ ?_ ?_ ?_ ?_ ?_).mono ?_; (exact Q4.out.below (B := w4.heap.size) ((Below.refl _ _).drew.alloc (Nat.le_refl _) _) Q4.out.lt); (simp); (simp; omega); (intro i s hs; rw [Nat.zero_add]; exact (World.cell?_alloc_new w4.drew (ls9.map Value.string).toArray 9 i).trans (by simp [hs])); (intro i s hs; rw [Nat.zero_add]; exact (World.cell?_alloc_lt w4.drew _ ⟨hb, i, none⟩ hhl).trans ((cell_of_block Q2.out).trans (by simp [hs]))); rintro e w5 ⟨g5, rfl, hg5, hn5, hb5⟩; have hb5' : Below w4.heap.size w4 w5 := ((Below.refl _ _).drew.alloc (Nat.le_refl _) _).trans (hb5.mono (by simp)); have hf5 := Q1.out.below hb5' Q1.out.lt))
  have hmk := make_bools 9 (by omega)
  rw [show ((9 : Nat) : Int) = 9 from rfl] at hmk
  have H5 := hide hf5
  have HN5 := hide hn5
  have HB5 := hide hb5'
  have HT5 := hide (Q4.out.below hb5' Q4.out.lt)
  have hg5l : g < w5.heap.size := hf5.lt
  clear hf5 hn5 hb5 hb5' c3 c4 c5 c6 c7 c8
  rename_i hS5
  clear hS5
  go_wp2_with fail
  clear hmk
  have hbW : Below w5.heap.size w5 (w5.alloc (.cells (fnC 9 fun _ => .bool false) 4)) := (Below.refl _ _).alloc (Nat.le_refl _) _
  have hW6 : FnAt (w5.alloc (.cells (fnC 9 fun _ => .bool false) 4)) g 9 9 (fun i => .string (sh dat6 1 i)) := H5.out.alloc _
  have hW7 : FnAt (w5.alloc (.cells (fnC 9 fun _ => .bool false) 4)) w5.heap.size 4 9 (fun _ => .bool false) := heap_alloc_new _ _
  refine (fill_none w.heap.size g w5.heap.size (nine dat6 1) _ (HT5.out.below hbW HT5.out.lt) (nine_len _ _) hW6.lt hW7.lt (fun i s hs => ?_) (fun i s hs => ?_)).mono ?_
  · have hi : i < 9 := by have := (List.getElem?_eq_some_iff.1 hs).1; rwa [nine_len] at this
    rw [nine_at _ _ hi] at hs; cases hs
    rw [Nat.zero_add]; exact hW6.cell hi
  · have hi : i < 9 := (List.getElem?_eq_some_iff.1 hs).1
    rw [Nat.zero_add, hW7.cell hi]
    have : s = false := by
      have hm := List.mem_of_getElem? hs
      simpa [hv0] using hm
    rw [this]
  rintro e w6 ⟨rfl, hb6⟩
  have hb56 : Below w5.heap.size w5 w6 := hbW.trans (hb6.mono (by simp))
  have H6 := hide (H5.out.below hb56 H5.out.lt)
  have HN6 := hide (HN5.out.below hb56 HN5.out.lt)
  have HT6 := hide (HT5.out.below hb56 HT5.out.lt)
  have HB6 : Hid (Below w.heap.size w w6) := (Q3.out.trans (HB5.out.mono (by have := Q3.out.size; omega))).trans (hb56.mono (by have := Q3.out.size; have := HB5.out.size; omega))
  clear hb6 hb56 hbW hW6 hW7 H5 HN5 HT5 HB5 Q1 Q2 Q3 Q4
  go_wp2_with fail
  refine (encode_many _ _ 9 9 _ (by omega)).mono ?_
  rintro e w7 ⟨rfl, rfl⟩
  simp only [noStrs]
  go_wp2_with fail
  refine (encode_nil _ 6 9 _).mono ?_
  rintro e w7 ⟨rfl, rfl⟩
  simp only [noStrs]
  go_wp2_with fail
  refine (same_any _ _ 9 9 9 9 (nine dat6 1) (nine dat6 1) _ (nine_len _ _) (nine_len _ _) (by omega) (by omega) HN6.out.nine H6.out.nine).mono ?_
  rintro e w7 ⟨he, q7, rfl⟩
  rw [decide_eq_true (rfl : nine dat6 1 = nine dat6 1)] at he; subst he
  go_wp2_with fail
  refine (is_nine w.heap.size (some ⟨g, 0, none⟩) 9 (nine dat6 1) _ (HT6.out.drewN _) (nine_len _ _) ((H6.out.drewN q7).nine) (by omega) (by rw [nine_take rfl dat6_size]; decide)).mono ?_
  rintro e w8 ⟨he, hb8⟩
  rw [nine_is rfl dat6_size] at he; subst he
  go_wp2_with fail
  refine (is_nil _ 9 _ (by omega)).mono ?_
  rintro e w9 ⟨rfl, rfl⟩
  go_wp2_with fail
  go_ret
  exact ⟨rfl, (below_draws HB6.out q7).trans (hb8.mono HB6.out.size)⟩
end Go.Proofs.Yteiddjjakemklab
