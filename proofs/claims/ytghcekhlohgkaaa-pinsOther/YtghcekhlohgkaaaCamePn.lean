/- A law's arguments as they came in: a volume by value; slices of volumes and of calls. -/
import Derived.Test.YtghcekhlohgkaaaPnVol
import Derived.Test.YtghcekhlohgkaaaCameV
import Derived.SizedLaws
namespace Go.Proofs.Ytghcekhlohgkaaa
open Go.RowKit
set_option linter.unusedVariables false
/-- what a law knows of a slice that came in, and of what all in it weighs -/
def CameSz (t : TypeId) (w : World) (a : Option Addr) (l c : Nat) : Prop := ∃ (H : Type) (enc : TypeId × Value → H) (d : DataW H) (ps : List MemPlace), DataW.Trod enc Try.prog w 0 (fun _ => true) true t (.slice a l c) d ps ∧ ∀ n ∈ d.weights Try.prog t, n ≤ reachBytes
theorem wts_mem {H : Type} {P : Program} {e : TypeId} : ∀ {ds : List (DataW H)} {d : DataW H}, d ∈ ds → ∀ n ∈ d.weights P e, n ∈ DataW.weightsAll P e ds
  | d0 :: ds, d, hd, n, hn => by
    simp only [DataW.weightsAll, List.mem_append]
    rcases List.mem_cons.1 hd with rfl | h
    · exact Or.inl hn
    · exact Or.inr (wts_mem h n hn)
theorem ok_i {n : Int} (h : (Lit.int .i64 n).wf = true) : OkI n := by
  simp [Lit.wf] at h
  exact h
theorem vo_cells {H : Type} {enc : TypeId × Value → H} {w : World} {fuel : Nat} {cs : List Value} {y : DataW H × List MemPlace} (h : DataW.trod enc Try.prog w 0 (fun _ => true) true fuel 33 cs = some y) :
    ∃ (x : VD) (a : Option Addr) (c : Nat), cs = voC ⟨x, a, c⟩ ∧ LocsAt w a x.ls ∧ (OkI x.id ∧ OkI x.gen ∧ OkI x.len) ∧ x.ls.length ≤ 9223372036854775807 ∧ ((∀ n ∈ y.1.weights Try.prog 33, n ≤ reachBytes) → x.ls.length ≤ 8796093022208) := by
  have k1 : Try.prog.cellsOf 3 = 1 := by kernel_rfl
  have k2 : Try.prog.cellsOf 31 = 1 := by kernel_rfl
  have k4 : Try.prog.cellsOf 33 = 4 := by kernel_rfl
  have kb : Try.prog.bytesOf 58 = 16 := by kernel_rfl
  obtain ⟨ys, n, _, hx, hl, hlen, hf⟩ := DataW.trod_struct Try.underlying33 h
  rw [k4] at hl
  match cs, hl with
  | [c0, c1, c2, c3], _ =>
    match ys, hlen with
    | [y0, y1, y2, y3], _ =>
      have h0 := hf 0 _ rfl
      have h1 := hf 1 _ rfl
      have h2 := hf 2 _ rfl
      have h3 := hf 3 _ rfl
      simp [k1, k2] at h0 h1 h2 h3
      obtain ⟨a0, e0, -, f0⟩ := DataW.trod_int Try.underlying3 h0
      obtain ⟨a1, e1, -, f1⟩ := DataW.trod_int Try.underlying3 h1
      obtain ⟨a2, e2, -, f2⟩ := DataW.trod_int Try.underlying3 h2
      have hw3 : (∀ n ∈ y.1.weights Try.prog 33, n ≤ reachBytes) → ∀ n ∈ y3.1.weights Try.prog 31, n ≤ reachBytes := fun hw n hn => hw n (by
        rw [hx]
        simp only [DataW.weights, Try.underlying33]
        exact DataW.weights_mem_each (j := 3) (t := 31) (d := y3.1) rfl rfl n hn)
      have B : ∃ a l q, c3 = .slice a l q ∧ Came 31 w a l q ∧ ((∀ n ∈ y.1.weights Try.prog 33, n ≤ reachBytes) → l ≤ 8796093022208) := by
        rcases DataW.trod_slice Try.underlying31 h3 with ⟨e, _⟩ | ⟨a, len, cap, elems, rest, _, _, e, e2, _, _, _, hln, _⟩
        · simp at e; subst e; exact ⟨none, 0, 0, rfl, ⟨H, enc, _, _, n, h3⟩, fun _ => by omega⟩
        · simp at e; subst e
          refine ⟨some a, len, cap, rfl, ⟨H, enc, _, _, n, h3⟩, fun hw => ?_⟩
          have := hw3 hw ((elems.length + rest.length) * 16) (by
            rw [e2]
            simp [DataW.weights, Try.underlying31, kb])
          unfold reachBytes at this
          omega
      obtain ⟨ka, kn, kc, rfl, hk, hb⟩ := B
      simp at e0 e1 e2
      subst e0 e1 e2
      obtain ⟨ls, hls, _, h63, hA⟩ := came_locs hk
      subst hls
      exact ⟨⟨a0, a1, a2, ls⟩, ka, kc, rfl, hA, ⟨ok_i f0, ok_i f1, ok_i f2⟩, h63, hb⟩
theorem vo_open {w : World} {v : Value} (c : CameV 33 4 w v) : ∃ (x : VD) (a : Option Addr) (c : Nat), v = .agg #[.int .i64 x.id, .int .i64 x.gen, .int .i64 x.len, .slice a x.ls.length c] ∧ LocsAt w a x.ls ∧ (OkI x.id ∧ OkI x.gen ∧ OkI x.len) ∧ x.ls.length ≤ 9223372036854775807 := by
  obtain ⟨⟨cs, rfl, hcs⟩, H, enc, d, ps, fuel, hf0⟩ := c
  obtain ⟨l, rfl⟩ : ∃ l : List Value, cs = l.toArray := ⟨cs.toList, by simp⟩
  simp only [Value.cells] at hf0
  obtain ⟨r, a, c, e, h1, h2, h3, _⟩ := vo_cells hf0
  exact ⟨r, a, c, by rw [e]; rfl, h1, h2, h3⟩
/-- a slice of structs of z cells each -/
theorem came_structs {t e : TypeId} {z : Nat} (hu : Try.prog.underlying t = some (.slice e)) (hz : Try.prog.cellsOf e = z) (hz0 : 0 < z) {C : Type} [Nonempty C] (cl : C → List Value) (hlen : ∀ x, (cl x).length = z) {w : World} (G : C → Prop)
    (op : ∀ {H : Type} {enc : TypeId × Value → H} {fuel : Nat} {cs : List Value} {y : DataW H × List MemPlace}, DataW.trod enc Try.prog w 0 (fun _ => true) true fuel e cs = some y → (∀ n ∈ y.1.weights Try.prog e, n ≤ reachBytes) → ∃ x : C, cs = cl x ∧ G x)
    {a : Option Addr} {l c : Nat} (h : CameSz t w a l c) :
    ∃ ls : List C, ls.length = l ∧ l ≤ c ∧ l ≤ 9223372036854775807 ∧ (∀ x ∈ ls, G x) ∧ (ls = [] ∨ ∃ b o, a = some ⟨b, o, none⟩ ∧ b < w.heap.size ∧ ∀ (i : Nat) (x : C), ls[i]? = some x → ∀ j v, (cl x)[j]? = some v → w.cell? ⟨b, o + i * z + j, none⟩ = some v) := by
  obtain ⟨H, enc, d, ps, ⟨fuel, hf⟩, hw⟩ := h
  rcases Go.Deep.open_slice hu hf with ⟨hcs, _⟩ | ⟨x, l', c', m, n, Dd, Pl, hcs, hb, hl, hm, hmm, hx, hi⟩
  · simp [Value.cells] at hcs
    obtain ⟨rfl, rfl, rfl⟩ := hcs
    exact ⟨[], rfl, by omega, by omega, fun x hx => by simp at hx, .inl rfl⟩
  · simp [Value.cells] at hcs
    obtain ⟨rfl, rfl, rfl⟩ := hcs
    unfold maxLen at hm
    rw [if_pos rfl] at hmm
    rw [hz] at hi
    have hwD : ∀ i, i < l → ∀ n ∈ (Dd i).weights Try.prog e, n ≤ reachBytes := fun i hil n hn => hw n (by
      have hd : d = .slice ((List.range l).map Dd) ((List.range (m - l)).map fun j => Dd (l + j)) := congrArg Prod.fst hx
      rw [hd]
      simp only [DataW.weights, hu, List.mem_cons, List.mem_append]
      exact Or.inr (Or.inl (wts_mem (List.mem_map.2 ⟨i, List.mem_range.2 hil, rfl⟩) n hn)))
    have each : ∀ i, i < l → ∃ y : C, G y ∧ ∀ j v, (cl y)[j]? = some v → w.cell? ((x.add (i * z)).add j) = some v := by
      intro i hil
      obtain ⟨cs', hc, ht⟩ := hi i (by omega)
      obtain ⟨y, rfl, hy⟩ := op ht (hwD i hil)
      obtain ⟨_, hcl, hat⟩ := World.cells?_some hc
      exact ⟨y, hy, fun j v hj => by rw [hat j (by have := (List.getElem?_eq_some_iff.1 hj).1; rw [hlen] at this; exact this)]; exact hj⟩
    by_cases h0 : l = 0
    · subst h0; exact ⟨[], rfl, by omega, by omega, fun x hx => by simp at hx, .inl rfl⟩
    · have hne : Nonempty C := inferInstance
      have cho : ∃ f : Nat → C, ∀ i, i < l → G (f i) ∧ ∀ j v, (cl (f i))[j]? = some v → w.cell? ((x.add (i * z)).add j) = some v := by
        refine ⟨fun i => if hil : i < l then Classical.choose (each i hil) else Classical.choice hne, fun i hil => ?_⟩
        simp only [dif_pos hil]
        exact Classical.choose_spec (each i hil)
      obtain ⟨f, hf2⟩ := cho
      refine ⟨(List.range l).map f, by simp, by omega, by omega, fun y hy => ?_, ?_⟩
      · obtain ⟨i, hi, rfl⟩ := List.mem_map.1 hy
        exact (hf2 i (List.mem_range.1 hi)).1
      · obtain ⟨v0, hv0⟩ : ∃ v, (cl (f 0))[0]? = some v := ⟨_, List.getElem?_eq_getElem (by rw [hlen]; exact hz0)⟩
        have h00 := (hf2 0 (by omega)).2 0 _ hv0
        rw [Nat.zero_mul, show x.add 0 = x from rfl] at h00
        obtain ⟨e, hblt⟩ := plain_addr h00
        refine .inr ⟨x.block, x.off, by rw [← e], hblt, fun i y hy => ?_⟩
        have hil : i < l := by have := (List.getElem?_eq_some_iff.1 hy).1; simpa using this
        simp [hil] at hy
        subst hy
        obtain ⟨_, h2⟩ := hf2 i hil
        rw [e, add_plain] at h2
        intro j v hj
        have := h2 j v hj
        rw [add_plain] at this
        exact this
theorem came_vos {w : World} {a : Option Addr} {l c : Nat} (h : CameSz 28 w a l c) : ∃ L : List VD, L.length = l ∧ l ≤ c ∧ l ≤ 9223372036854775807 ∧ VosAt w.heap.size w a L ∧ ∀ x ∈ L, OkP x.pin ∧ x.ls.length ≤ 8796093022208 := by
  have : Nonempty Vo := ⟨⟨⟨0, 0, 0, []⟩, none, 0⟩⟩
  obtain ⟨ls, h1, h2, h3, h4, h5⟩ := came_structs Try.underlying28 (z := 4) (by kernel_rfl) (by omega) voC (fun x => rfl) (w := w) (fun x => LocsAt w x.a x.d.ls ∧ OkP x.d.pin ∧ x.d.ls.length ≤ 8796093022208) (fun ht hw => by
    obtain ⟨x, a, c, e, q1, q2, q3, q4⟩ := vo_cells ht
    exact ⟨⟨x, a, c⟩, e, q1, ⟨q2.1, q2.2.1⟩, q4 hw⟩) h
  refine ⟨ls.map Vo.d, by simpa using h1, h2, h3, ?_, fun x hx => ?_⟩
  · rcases h5 with q | ⟨b, o, ha, hb, hc⟩
    · exact .inl (by rw [q]; rfl)
    · exact .inr ⟨b, o, ha, hb, ls, rfl, fun i x hx => ⟨⟨hc i x hx 0 _ rfl, hc i x hx 1 _ rfl, hc i x hx 2 _ rfl, hc i x hx 3 _ rfl⟩, LocsK.came (h4 x (List.mem_of_getElem? hx)).1⟩⟩
  · obtain ⟨y, hy, rfl⟩ := List.mem_map.1 hx
    exact (h4 y hy).2
/-- a call of a script -/
structure OP where
  d : Int
  i : Int
  g : Int
  x : Vo
def opC (p : OP) : List Value := [.int .i64 p.d, .int .i64 p.i, .int .i64 p.g, .int .i64 p.x.d.id, .int .i64 p.x.d.gen, .int .i64 p.x.d.len, .slice p.x.a p.x.d.ls.length p.x.c]
theorem op_cells {H : Type} {enc : TypeId × Value → H} {w : World} {fuel : Nat} {cs : List Value} {y : DataW H × List MemPlace} (h : DataW.trod enc Try.prog w 0 (fun _ => true) true fuel 35 cs = some y) (hw : ∀ n ∈ y.1.weights Try.prog 35, n ≤ reachBytes) :
    ∃ p : OP, cs = opC p ∧ LocsAt w p.x.a p.x.d.ls ∧ OkP (p.i, p.g) ∧ OkP p.x.d.pin ∧ p.x.d.ls.length ≤ 8796093022208 := by
  have k1 : Try.prog.cellsOf 3 = 1 := by kernel_rfl
  have k4 : Try.prog.cellsOf 33 = 4 := by kernel_rfl
  have k7 : Try.prog.cellsOf 35 = 7 := by kernel_rfl
  obtain ⟨ys, n, _, hx, hl, hlen, hf⟩ := DataW.trod_struct Try.underlying35 h
  rw [k7] at hl
  match cs, hl with
  | [c0, c1, c2, c3, c4, c5, c6], _ =>
    match ys, hlen with
    | [y0, y1, y2, y3], _ =>
      have h0 := hf 0 _ rfl
      have h1 := hf 1 _ rfl
      have h2 := hf 2 _ rfl
      have h3 := hf 3 _ rfl
      simp [k1, k4] at h0 h1 h2 h3
      obtain ⟨a0, e0, -, f0⟩ := DataW.trod_int Try.underlying3 h0
      obtain ⟨a1, e1, -, f1⟩ := DataW.trod_int Try.underlying3 h1
      obtain ⟨a2, e2, -, f2⟩ := DataW.trod_int Try.underlying3 h2
      obtain ⟨x, a, c, e, q1, q2, q3, q4⟩ := vo_cells h3
      simp [voC] at e
      obtain ⟨rfl, rfl, rfl, rfl⟩ := e
      simp at e0 e1 e2
      subst e0 e1 e2
      refine ⟨⟨a0, a1, a2, ⟨x, a, c⟩⟩, rfl, q1, ⟨ok_i f1, ok_i f2⟩, ⟨q2.1, q2.2.1⟩, q4 fun n hn => hw n ?_⟩
      rw [hx]
      simp only [DataW.weights, Try.underlying35]
      exact DataW.weights_mem_each (j := 3) (t := 33) (d := y3.1) rfl rfl n hn
def OpsAt (w : World) (a : Option Addr) (l : List OP) : Prop := l = [] ∨ ∃ b o, a = some ⟨b, o, none⟩ ∧ b < w.heap.size ∧ ∀ (i : Nat) (x : OP), l[i]? = some x → ∀ j v, (opC x)[j]? = some v → w.cell? ⟨b, o + i * 7 + j, none⟩ = some v
theorem came_ops {w : World} {a : Option Addr} {l c : Nat} (h : CameSz 22 w a l c) : ∃ L : List OP, L.length = l ∧ l ≤ c ∧ l ≤ 9223372036854775807 ∧ OpsAt w a L ∧ ∀ p ∈ L, LocsAt w p.x.a p.x.d.ls ∧ OkP (p.i, p.g) ∧ OkP p.x.d.pin ∧ p.x.d.ls.length ≤ 8796093022208 := by
  have : Nonempty OP := ⟨⟨0, 0, 0, ⟨⟨0, 0, 0, []⟩, none, 0⟩⟩⟩
  obtain ⟨ls, h1, h2, h3, h4, h5⟩ := came_structs Try.underlying22 (z := 7) (by kernel_rfl) (by omega) opC (fun x => rfl) (w := w) (fun p => LocsAt w p.x.a p.x.d.ls ∧ OkP (p.i, p.g) ∧ OkP p.x.d.pin ∧ p.x.d.ls.length ≤ 8796093022208) (fun ht hw => op_cells ht hw) h
  exact ⟨ls, h1, h2, h3, h5, h4⟩
theorem OpsAt.nth {w : World} {a : Option Addr} {l : List OP} (h : OpsAt w a l) {i : Nat} {x : OP} (hx : l[i]? = some x) : ∃ b o, a = some ⟨b, o, none⟩ ∧ b < w.heap.size ∧ ∀ j v, (opC x)[j]? = some v → w.cell? ⟨b, o + i * 7 + j, none⟩ = some v := by
  rcases h with q | ⟨b, o, h1, h2, h3⟩
  · rw [q] at hx; simp at hx
  · exact ⟨b, o, h1, h2, h3 i x hx⟩
end Go.Proofs.Ytghcekhlohgkaaa
