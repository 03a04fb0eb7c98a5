/- A law's arguments as they came in: a slice of volumes, read as a list, each with a slice of places within the reach. -/
import Derived.Test.YtleknjjfmklkcaaPlLive
import Derived.SizedLaws
namespace Go.Proofs.Ytleknjjfmklkcaa
open Go.RowKit
set_option linter.unusedVariables false
/-- what a law knows of a slice that came in, and of what all in it weighs -/
def CameSz (t : TypeId) (w : World) (a : Option Addr) (l c : Nat) : Prop := ∃ (H : Type) (enc : TypeId × Value → H) (d : DataW H) (ps : List MemPlace), DataW.Trod enc Try.prog w 0 (fun _ => true) true t (.slice a l c) d ps ∧ ∀ n ∈ d.weights Try.prog t, n ≤ reachBytes
theorem weightsAll_mem {H : Type} {P : Program} {e : TypeId} : ∀ {ds : List (DataW H)} {d : DataW H}, d ∈ ds → ∀ n ∈ d.weights P e, n ∈ DataW.weightsAll P e ds
  | d0 :: ds, d, hd, n, hn => by
    simp only [DataW.weightsAll, List.mem_append]
    rcases List.mem_cons.1 hd with rfl | h
    · exact Or.inl hn
    · exact Or.inr (weightsAll_mem h n hn)
theorem volume_open {H : Type} {enc : TypeId × Value → H} {w : World} {fuel : Nat} {cs : List Value} {y : DataW H × List MemPlace} (h : DataW.trod enc Try.prog w 0 (fun _ => true) true fuel 36 cs = some y) (hw : ∀ n ∈ y.1.weights Try.prog 36, n ≤ reachBytes) :
    ∃ x : Vol, cs = [.int .i64 x.id, .int .i64 x.gen, .int .i64 x.len, .slice x.a x.n x.c] ∧ VolIs w x ∧ x.n ≤ 8796093022208 := by
  have k1 : Try.prog.cellsOf 3 = 1 := by kernel_rfl
  have k2 : Try.prog.cellsOf 34 = 1 := by kernel_rfl
  have k4 : Try.prog.cellsOf 36 = 4 := by kernel_rfl
  have kb : Try.prog.bytesOf 45 = 16 := by kernel_rfl
  obtain ⟨ys, n, _, hx, hl, hlen, hf⟩ := DataW.trod_struct Try.underlying36 h
  rw [k4] at hl
  match cs, hl with
  | [c0, c1, c2, c3], _ =>
    match ys, hlen with
    | [y0, y1, y2, y3], _ =>
      have h0 := hf 0 _ rfl
      have h1 := hf 1 _ rfl
      have h2 := hf 2 _ rfl
      have h3 := hf 3 _ rfl
      simp [k1, k2] at h0 h1 h2 h3
      obtain ⟨a0, e0, -, -⟩ := DataW.trod_int Try.underlying3 h0
      obtain ⟨a1, e1, -, -⟩ := DataW.trod_int Try.underlying3 h1
      obtain ⟨a2, e2, -, -⟩ := DataW.trod_int Try.underlying3 h2
      have hw3 : ∀ n ∈ y3.1.weights Try.prog 34, n ≤ reachBytes := fun n hn => hw n (by
        rw [hx]
        simp only [DataW.weights, Try.underlying36]
        exact DataW.weights_mem_each (j := 3) (t := 34) (d := y3.1) rfl rfl n hn)
      have B : ∃ a l q, c3 = .slice a l q ∧ Came 34 w a l q ∧ l ≤ 8796093022208 := by
        rcases DataW.trod_slice Try.underlying34 h3 with ⟨e, _⟩ | ⟨a, len, cap, elems, rest, _, _, e, e2, _, _, _, hln, _⟩
        · simp at e; subst e; exact ⟨none, 0, 0, rfl, ⟨H, enc, _, _, n, h3⟩, by omega⟩
        · simp at e; subst e
          refine ⟨some a, len, cap, rfl, ⟨H, enc, _, _, n, h3⟩, ?_⟩
          have := hw3 ((elems.length + rest.length) * 16) (by
            rw [e2]
            simp [DataW.weights, Try.underlying34, kb])
          unfold reachBytes at this
          omega
      obtain ⟨ka, kn, kc, rfl, hk, hb⟩ := B
      simp at e0 e1 e2
      subst e0 e1 e2
      obtain ⟨ls, hls, _, h63, hA⟩ := came_locs hk
      exact ⟨⟨a0, a1, a2, ka, kn, kc, ls⟩, rfl, ⟨hls, h63, hA⟩, hb⟩
theorem came_vols {w : World} {a : Option Addr} {l c : Nat} (h : CameSz 33 w a l c) : ∃ ls : List Vol, ls.length = l ∧ l ≤ 9223372036854775807 ∧ VolsAt w a ls ∧ ∀ x ∈ ls, x.n ≤ 8796093022208 := by
  obtain ⟨H, enc, d, ps, ⟨fuel, hf⟩, hw⟩ := h
  rcases Go.Deep.open_slice Try.underlying33 hf with ⟨hcs, _⟩ | ⟨x, l', c', m, n, Dd, Pl, hcs, hb, hl, hm, hmm, hx, hi⟩
  · simp [Value.cells] at hcs
    obtain ⟨rfl, rfl, rfl⟩ := hcs
    exact ⟨[], rfl, by omega, .inl rfl, fun x hx => by simp at hx⟩
  · simp [Value.cells] at hcs
    obtain ⟨rfl, rfl, rfl⟩ := hcs
    unfold maxLen at hm
    have k4 : Try.prog.cellsOf 36 = 4 := by kernel_rfl
    rw [if_pos rfl] at hmm
    rw [k4] at hi
    have hwD : ∀ i, i < l → ∀ n ∈ (Dd i).weights Try.prog 36, n ≤ reachBytes := fun i hil n hn => hw n (by
      have hd : d = .slice ((List.range l).map Dd) ((List.range (m - l)).map fun j => Dd (l + j)) := congrArg Prod.fst hx
      rw [hd]
      simp only [DataW.weights, Try.underlying33, List.mem_cons, List.mem_append]
      exact Or.inr (Or.inl (weightsAll_mem (List.mem_map.2 ⟨i, List.mem_range.2 hil, rfl⟩) n hn)))
    have each : ∀ i, i < l → ∃ y : Vol, (VolIs w y ∧ y.n ≤ 8796093022208) ∧ ∀ j v, ([.int .i64 y.id, .int .i64 y.gen, .int .i64 y.len, .slice y.a y.n y.c] : List Value)[j]? = some v → w.cell? ((x.add (i * 4)).add j) = some v := by
      intro i hil
      obtain ⟨cs', hc, ht⟩ := hi i (by omega)
      obtain ⟨y, rfl, hy⟩ := volume_open ht (hwD i hil)
      obtain ⟨_, hcl, hat⟩ := World.cells?_some hc
      exact ⟨y, hy, fun j v hj => by rw [hat j (by have := (List.getElem?_eq_some_iff.1 hj).1; simpa using this)]; exact hj⟩
    by_cases h0 : l = 0
    · subst h0; exact ⟨[], rfl, by omega, .inl rfl, fun x hx => by simp at hx⟩
    · have hne : Nonempty Vol := ⟨⟨0, 0, 0, none, 0, 0, []⟩⟩
      have cho : ∃ f : Nat → Vol, ∀ i, i < l → (VolIs w (f i) ∧ (f i).n ≤ 8796093022208) ∧ ∀ j v, ([.int .i64 (f i).id, .int .i64 (f i).gen, .int .i64 (f i).len, .slice (f i).a (f i).n (f i).c] : List Value)[j]? = some v → w.cell? ((x.add (i * 4)).add j) = some v := by
        refine ⟨fun i => if hil : i < l then Classical.choose (each i hil) else Classical.choice hne, fun i hil => ?_⟩
        simp only [dif_pos hil]
        exact Classical.choose_spec (each i hil)
      obtain ⟨f, hf2⟩ := cho
      refine ⟨(List.range l).map f, by simp, by omega, ?_, fun y hy => ?_⟩
      · have h00 := (hf2 0 (by omega)).2 0 _ rfl
        rw [Nat.zero_mul, show x.add 0 = x from rfl] at h00
        obtain ⟨e, hblt⟩ := plain_addr h00
        refine .inr ⟨x.block, x.off, by rw [← e], hblt, fun i y hy => ?_⟩
        have hil : i < l := by have := (List.getElem?_eq_some_iff.1 hy).1; simpa using this
        simp [hil] at hy
        subst hy
        obtain ⟨hy, h2⟩ := hf2 i hil
        rw [e, add_plain] at h2
        have hc : ∀ j v, ([.int .i64 (f i).id, .int .i64 (f i).gen, .int .i64 (f i).len, .slice (f i).a (f i).n (f i).c] : List Value)[j]? = some v → w.cell? ⟨x.block, x.off + i * 4 + j, none⟩ = some v := fun j v hj => by
          have := h2 j v hj
          rw [add_plain] at this
          exact this
        exact ⟨⟨hc 0 _ rfl, hc 1 _ rfl, hc 2 _ rfl, hc 3 _ rfl⟩, hy.1⟩
      · obtain ⟨i, hi, rfl⟩ := List.mem_map.1 hy
        exact (hf2 i (List.mem_range.1 hi)).1.2
theorem allN_le {vs : List Vol} {B : Nat} (h : ∀ x ∈ vs, x.ls.length ≤ B) : allN (vs.map Vol.ls) ≤ vs.length * B := by
  unfold allN
  induction vs with
  | nil => simp
  | cons x xs ih =>
    have h1 := ih fun y hy => h y (by simp [hy])
    have h2 := h x (by simp)
    simp only [List.map_cons, List.sum_cons, List.length_cons, Nat.add_mul, Nat.one_mul]
    omega
theorem vols_len {w : World} {a : Option Addr} {vs : List Vol} (h : VolsAt w a vs) : ∀ x ∈ vs, x.ls.length = x.n := by
  intro x hx
  rcases h with h | ⟨b, o, _, _, hc⟩
  · rw [h] at hx; simp at hx
  · obtain ⟨i, hi, rfl⟩ := List.getElem_of_mem hx
    exact (hc i _ (List.getElem?_eq_getElem hi)).2.len
end Go.Proofs.Ytleknjjfmklkcaa
