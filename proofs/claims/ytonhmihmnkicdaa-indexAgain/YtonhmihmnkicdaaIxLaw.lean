/- What the laws of layer 13 need besides: what stays behind Apply; lists that are the same. -/
import Derived.Test.YtonhmihmnkicdaaIxLive
import Derived.Test.YtonhmihmnkicdaaVoSame
import Derived.Test.YtonhmihmnkicdaaCameRecs
namespace Go.Proofs.Ytonhmihmnkicdaa
open Go.RowKit
set_option linter.unusedVariables false
set_option maxRecDepth 100000 in
set_option maxHeartbeats 8000000 in
theorem keys_same (a1 a2 : Option Addr) (c1 c2 n : Nat) (l : List ByteArray) (w : World) (hl : l.length = n) (h63 : n ≤ 1000000) (h1 : StrsAt w a1 l) (h2 : StrsAt w a2 l) : Calls Try.prog 21 #[.slice a1 n c1, .slice a2 n c2] w fun e w' => e = .returned (.bool true) ∧ Below w.heap.size w w' := by
  have HL := hide hl
  have H1 := hide h1
  have H2 := hide h2
  clear hl h1 h2
  go_enter Try.func21, Try.ntmps21
  go_wp2_with fail
  go_loopw [5] (fun y wr => ∃ k : Nat, k ≤ n ∧ y = .int .i64 k ∧ Below w.heap.size w wr) (fun y _ => n - (intOf y).toNat)
  case atStart => exact ⟨0, by omega, rfl, Below.refl _ _⟩
  case round =>
    obtain ⟨k, hk, rfl, hbl⟩ := hrel
    have HB := hide hbl
    clear hbl
    by_cases hlt : k < n
    · have hd : decide ((k : Int) < (n : Int)) = true := by simp; omega
      have hdi : (k : Int) < (n : Int) := by omega
      have hd0 : (0 : Int) ≤ (k : Int) := by omega
      obtain ⟨x, hx⟩ : ∃ x, l[k]? = some x := ⟨_, List.getElem?_eq_getElem (by have := HL.out; omega)⟩
      rcases H1.out with q | ⟨b1, o1, rfl, hb1, hc1⟩
      · have := HL.out; rw [q] at this; simp at this; omega
      rcases H2.out with q | ⟨b2, o2, rfl, hb2, hc2⟩
      · have := HL.out; rw [q] at this; simp at this; omega
      have HC1 := hide hc1
      have HC2 := hide hc2
      clear hc1 hc2
      have e1 := (HB.out.cell (p := ⟨b1, o1 + k, none⟩) hb1).trans (HC1.out k x hx)
      have e2 := (HB.out.cell (p := ⟨b2, o2 + k, none⟩) hb2).trans (HC2.out k x hx)
      clear hx
      go_wp2_with fail
      go_quiet (fail)
      go_wp2_with fail
      all_goals first | exact ⟨⟨k + 1, by omega, by go_num, drawn_below HB.out _⟩, by simp [intOf]; omega⟩ | exact ⟨⟨k + 1, by omega, by go_num, HB.out⟩, by simp [intOf]; omega⟩
    · have hd : decide ((k : Int) < (n : Int)) = false := by simp; omega
      go_wp2_with fail
      try go_ret
      exact ⟨rfl, HB.out⟩
/-! a block in which something lies that is no map is none of the index's -/
theorem IxAt.noown {B n : Nat} {w : World} {I : Ix} {X : FX} (h : IxAt B w I n X) {b o : Nat} {v : Value} (hc : w.cell? ⟨b, o, none⟩ = some v) (hv : ∀ m, v ≠ .map m) : ¬ I.own b := by
  intro q
  by_cases hx : b = I.xb
  · subst hx
    have hb := h.box
    rw [cell_of_block hb] at hc
    have : o < 4 := by have := (Array.getElem?_eq_some_iff.1 hc).1; simpa using this
    match o, this with
    | 0, _ => simp at hc; exact hv _ hc.symm
    | 1, _ => simp at hc; exact hv _ hc.symm
    | 2, _ => simp at hc; exact hv _ hc.symm
    | 3, _ => simp at hc; exact hv _ hc.symm
  · rcases q with q | q
    · exact hx q
    · obtain ⟨es, cl, hm⟩ := h.is_map q
      unfold World.cell? at hc
      rw [hm] at hc
      simp at hc
theorem IxAt.keepb {B n : Nat} {w w' : World} {I : Ix} {X : FX} (h : IxAt B w I n X) (m : Mds B I.own w I.own w') {b o : Nat} {v : Value} (hc : w.cell? ⟨b, o, none⟩ = some v) (hv : ∀ m, v ≠ .map m) (hlt : b < w.heap.size) : w'.heap[b]? = w.heap[b]? := m.blk b hlt (h.noown hc hv)
theorem StrsAt.mds {B n : Nat} {w w' : World} {I : Ix} {X : FX} {a : Option Addr} {L : List ByteArray} (h : StrsAt w a L) (hx : IxAt B w I n X) (m : Mds B I.own w I.own w') : StrsAt w' a L := by
  rcases h with q | ⟨b, o, ha, hlt, hc⟩
  · exact .inl q
  · cases L with
    | nil => exact .inl rfl
    | cons s L =>
      have hb := hx.keepb m (hc 0 s rfl) (fun m e => by cases e) hlt
      have hcc : ∀ p, w'.cell? ⟨b, p, none⟩ = w.cell? ⟨b, p, none⟩ := fun p => by unfold World.cell?; rw [hb]
      exact .inr ⟨b, o, ha, Nat.lt_of_lt_of_le hlt m.size, fun i s hs => (hcc _).trans (hc i s hs)⟩
theorem VosAt.mds {B n : Nat} {w w' : World} {I : Ix} {X : FX} {a : Option Addr} {L : List VD} (h : VosAt B w a L) (hx : IxAt B w I n X) (m : Mds B I.own w I.own w') : VosAt B w' a L := by
  rcases h with q | ⟨b, o, ha, hlt, vs, hm, hc⟩
  · exact .inl q
  · cases vs with
    | nil => exact .inl hm.symm
    | cons v vs =>
      have h0 := (hc 0 v rfl).1.c0
      have hb := hx.keepb m h0 (fun m e => by cases e) hlt
      exact .inr ⟨b, o, ha, Nat.lt_of_lt_of_le hlt m.size, v :: vs, hm, fun i x hi => ⟨(hc i x hi).1.keep hb, (hc i x hi).2.mod m⟩⟩
theorem LocsAt.mds {B n : Nat} {w w' : World} {I : Ix} {X : FX} {a : Option Addr} {l : List (Int × Int)} (h : LocsAt w a l) (hx : IxAt B w I n X) (m : Mds B I.own w I.own w') : LocsAt w' a l := by
  rcases h with q | ⟨b, o, ha, hlt, hc⟩
  · exact .inl q
  · cases l with
    | nil => exact .inl rfl
    | cons y l =>
      have hb := hx.keepb m (hc 0 y rfl).1 (fun m e => by cases e) hlt
      have hcc : ∀ p, w'.cell? ⟨b, p, none⟩ = w.cell? ⟨b, p, none⟩ := fun p => by unfold World.cell?; rw [hb]
      exact .inr ⟨b, o, ha, Nat.lt_of_lt_of_le hlt m.size, fun i x hi => ⟨(hcc _).trans (hc i x hi).1, (hcc _).trans (hc i x hi).2⟩⟩
/-! lists that rise strictly and have the same members are the same -/
theorem rise_same {α : Type} {lt : α → α → Prop} (hirr : ∀ a, ¬ lt a a) (hasy : ∀ a b, lt a b → ¬ lt b a) : ∀ {L M : List α}, L.Pairwise lt → M.Pairwise lt → (∀ x, x ∈ L ↔ x ∈ M) → L = M
  | [], [], _, _, _ => rfl
  | [], y :: M, _, _, h => by have := (h y).2 (by simp); simp at this
  | x :: L, [], _, _, h => by have := (h x).1 (by simp); simp at this
  | x :: L, y :: M, hl, hm, h => by
    obtain ⟨l1, l2⟩ := List.pairwise_cons.1 hl
    obtain ⟨m1, m2⟩ := List.pairwise_cons.1 hm
    have hxy : x = y := by
      have h1 := (h x).1 (by simp)
      have h2 := (h y).2 (by simp)
      rcases List.mem_cons.1 h1 with q | q
      · exact q
      · rcases List.mem_cons.1 h2 with r | r
        · exact r.symm
        · exact absurd (m1 x q) (hasy _ _ (l1 y r))
    subst hxy
    have : L = M := rise_same hirr hasy l2 m2 fun z => by
      have hz := h z
      rw [List.mem_cons, List.mem_cons] at hz
      constructor
      · intro q
        rcases hz.1 (.inr q) with r | r
        · subst r; exact absurd (l1 _ q) (hirr _)
        · exact r
      · intro q
        rcases hz.2 (.inr q) with r | r
        · subst r; exact absurd (m1 _ q) (hirr _)
        · exact r
    rw [this]
theorem sortedK_same {T : ByteArray → Option En} {fr : ByteArray} {A A' : List ByteArray} (h : SortedK T fr A) (h' : SortedK T fr A') : A = A' :=
  rise_same (lt := fun a b => a.data.toList < b.data.toList) (fun a => List.lt_irrefl _) (fun a b p q => absurd (List.lt_trans p q) (List.lt_irrefl _)) h.1 h'.1 (fun x => by rw [h.2, h'.2])
theorem listIs_same {T : ByteArray → Option En} {fr : ByteArray} {many : Int} {L L' : List ByteArray} (h : ListIs T fr many L) (h' : ListIs T fr many L') : L = L' := by
  obtain ⟨A, h1, rfl⟩ := h
  obtain ⟨A', h2, rfl⟩ := h'
  rw [sortedK_same h1 h2]
theorem sortedI_same {V : Int → Option VD} {A A' : List Int} (h : SortedI V A) (h' : SortedI V A') : A = A' :=
  rise_same (lt := fun a b : Int => a < b) (fun a => by omega) (fun a b p q => by omega) h.1 h'.1 (fun x => by rw [h.2, h'.2])
theorem volsIs_same {X : FX} {L L' : List VD} (h : VolsIs X L) (h' : VolsIs X L') : L = L' := by
  obtain ⟨A, h1, rfl⟩ := h
  obtain ⟨A', h2, rfl⟩ := h'
  rw [sortedI_same h1 h2]
theorem nextIs_same {H : Int → Bool} {N M : Int} (hh : ∀ id, H id = true → numR id) (h : NextIs H N) (h' : NextIs H M) : N = M := by
  obtain ⟨a1, a2, a3⟩ := h
  obtain ⟨b1, b2, b3⟩ := h'
  have ok : ∀ x, H x = true → OkI x := fun x hx => by have := hh x hx; unfold numR at this; exact ⟨by omega, by omega⟩
  rcases a3 with q | q <;> rcases b3 with r | r
  · omega
  · have := a1 _ (ok _ r) r; omega
  · have := b1 _ (ok _ q) q; omega
  · have := a1 _ (ok _ r) r; have := b1 _ (ok _ q) q; omega
theorem volsIs_ls {X : FX} (hi : X.Inv) {L : List VD} (h : VolsIs X L) : ∀ x ∈ L, x.ls.length ≤ 1000000 := by
  obtain ⟨ids, _, rfl⟩ := h
  intro x hx
  obtain ⟨id, _, rfl⟩ := List.mem_map.1 hx
  have := inv_ls hi id
  omega
theorem inv_ls1 {X : FX} (hi : X.Inv) : ∀ id v, X.V id = some v → v.ls.length ≤ 1000 := fun id v hv => by have := (hi.v id v hv).2.2.2.2.1; omega
/-- a record that came in, and is small -/
theorem sm_of {r : Rc} (hc : r.cm) (h : smlB r = true) : r.sm := by
  obtain ⟨h1, h2, h3, h4⟩ := smlB_iff.1 h
  exact ⟨small_fit hc h, ins_of (by show r.ek.size ≤ 9223372036854775807; omega) (by show r.k.size ≤ 9223372036854775807; omega)⟩
end Go.Proofs.Ytonhmihmnkicdaa
