/- Needles one behind the other without the last byte: All says that they are cut. No walk stands here. -/
import Derived.Test.YtomcdajoeakhdaaDoorNeChain
namespace Go.Proofs.YtomcdajoeakhdaaDoor
open Go.RowKit
set_option linter.unusedVariables false
theorem nr_cut {n : Nd} (h : ckE n = 0) {d : ByteArray} (hd : d.size < 32) : nrE (textS n.k ++ (textS n.v ++ d)) = 3 := by
  have hz := (ckE_zero.1 h).2
  have h1 := textS_lt (s := n.k)
  have h2 := textS_lt (s := n.v)
  unfold nsz at hz
  obtain ⟨a1, a2, a3⟩ := rd_text (s := n.k) (textS n.v ++ d) (by omega)
  obtain ⟨b1, b2, b3⟩ := rd_text (s := n.v) d (by omega)
  generalize textS n.k ++ (textS n.v ++ d) = S at *
  have f1 : twoE S = 0 := by unfold twoE; rw [a1, a3, b1]; rfl
  have f3 : rdB S = d := by unfold rdB; rw [a3, b3]
  unfold nrE
  rw [if_neg (by simp [f1]), if_pos (by rw [f3]; exact hd)]
theorem cut_app (a b : ByteArray) (hb : 0 < b.size) : (a ++ b).extract 0 ((a ++ b).size - 1) = a ++ b.extract 0 (b.size - 1) := by
  have hz : (a ++ b).size = a.size + b.size := ByteArray.size_append
  have h2 : (b.extract 0 (b.size - 1)).size = b.size - 1 := by rw [ByteArray.size_extract]; omega
  have h3 : ((a ++ b).extract 0 ((a ++ b).size - 1)).size = a.size + b.size - 1 := by rw [ByteArray.size_extract]; omega
  apply ext_bt (by rw [h3, ByteArray.size_append, h2]; omega)
  intro p hp
  rw [h3] at hp
  rw [bt_extract _ 0 _ _ (by omega) (by omega), bt_append, bt_append, Nat.zero_add]
  split
  · rfl
  · rw [bt_extract _ 0 _ _ (by omega) (by omega), Nat.zero_add]
theorem chain_tail {l : List Nd} (h : AllOk l) (y : ByteArray) : ∀ j, j ≤ l.length → stL (chS l ++ y) j = chS (l.drop j) ++ y
  | 0, _ => by rw [List.drop_zero]; rfl
  | j + 1, hj => by
    obtain ⟨x, hx⟩ : ∃ x, l[j]? = some x := ⟨_, List.getElem?_eq_getElem (by omega)⟩
    show nrR (stL (chS l ++ y) j) = _
    rw [chain_tail h y j (by omega), drop_cons' hx, chS_cons, app_assoc]
    exact (nr_back (h x (List.mem_of_getElem? hx)) _).2.2
theorem chain_cut {l : List Nd} {x : Nd} (h : AllOk (l ++ [x])) {w w' : World} {r : Ending} (hA : AllLeft ((chS (l ++ [x])).extract 0 ((chS (l ++ [x])).size - 1)) w r w') : r = .returned (.tuple #[.slice none 0 0, .slice none 0 0, .int .i64 3]) ∧ Below w.heap.size w w' := by
  have hl : AllOk l := fun n hn => h n (List.mem_append_left _ hn)
  have hx : ckE x = 0 := h x (by simp)
  rw [chS_snoc, cut_app _ _ (by have := nbS_pos x; omega)] at hA
  have hd : (dg x.v).size = 32 := dg_size _
  have hy : (nbS x).extract 0 ((nbS x).size - 1) = textS x.k ++ (textS x.v ++ (dg x.v).extract 0 31) := by
    unfold nbS
    have q1 : 0 < (textS x.v ++ dg x.v).size := by rw [ByteArray.size_append]; omega
    rw [cut_app _ _ q1, cut_app _ _ (by omega), hd]
  have hcut : nrE ((nbS x).extract 0 ((nbS x).size - 1)) = 3 := by
    rw [hy]; exact nr_cut hx (by rw [ByteArray.size_extract]; omega)
  have hyz : ((nbS x).extract 0 ((nbS x).size - 1)).size ≠ 0 := by rw [ByteArray.size_extract]; have := nbS_pos x; omega
  generalize (nbS x).extract 0 ((nbS x).size - 1) = y at *
  have hst : stL (chS l ++ y) l.length = y := by
    rw [chain_tail hl y _ (Nat.le_refl _), List.drop_length]
    show ByteArray.empty ++ y = y
    exact nil_app _
  have hE : EndN (chS l ++ y) l.length := by
    refine ⟨fun j hj => ?_, .inr (by rw [hst, hcut]; decide)⟩
    obtain ⟨z, hz⟩ : ∃ z, l[j]? = some z := ⟨_, List.getElem?_eq_getElem hj⟩
    rw [chain_tail hl y j (by omega), drop_cons' hz, chS_cons, app_assoc]
    refine ⟨?_, (nr_back (hl z (List.mem_of_getElem? hz)) _).1⟩
    rw [ByteArray.size_append]
    have := nbS_pos z
    omega
  obtain ⟨k, hE', hb, hh⟩ := hA
  obtain rfl := EndN.one hE' hE
  rw [hst] at hh
  rcases hh with ⟨q, _⟩ | ⟨_, e⟩
  · exact absurd q hyz
  · rw [hcut] at e; exact ⟨e, hb⟩
/-- where each needle stands -/
noncomputable def offT (l : List Nd) (k : Nat) : List Int := (List.range k).map fun j => (((chS (l.take j)).size : Nat) : Int)
theorem offT_next (l : List Nd) (k : Nat) : inV (offT l (k + 1)) = inV (offT l k) ++ [.int .i64 (((chS (l.take k)).size : Nat) : Int)] := by unfold offT inV; rw [List.range_succ, List.map_append, List.map_append]; rfl
theorem offT_len (l : List Nd) (k : Nat) : (offT l k).length = k := by simp [offT]
theorem take_next {l : List Nd} {k : Nat} {x : Nd} (h : l[k]? = some x) : l.take (k + 1) = l.take k ++ [x] := by rw [List.take_add_one, h]; rfl
theorem AllOk.next {l : List Nd} {k : Nat} {x : Nd} (h : AllOk (l.take k)) (hx : l[k]? = some x) (h0 : ckE x = 0) : AllOk (l.take (k + 1)) := by
  rw [take_next hx]
  intro n hn
  rcases List.mem_append.1 hn with c | c
  · exact h n c
  · rw [List.mem_singleton.1 c]; exact h0
theorem chS_next {l : List Nd} {k : Nat} {x : Nd} (hx : l[k]? = some x) : chS (l.take (k + 1)) = chS (l.take k) ++ nbS x := by rw [take_next hx, chS_snoc]
theorem nbS_le {x : Nd} (h : ckE x = 0) : (nbS x).size ≤ 384 := by rw [nbS_size]; exact (ckE_zero.1 h).2
end Go.Proofs.YtomcdajoeakhdaaDoor
