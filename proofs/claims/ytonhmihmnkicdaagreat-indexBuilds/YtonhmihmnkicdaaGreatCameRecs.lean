/- A law's arguments as they came in: a struct by value, opened into its cells. A law's argument as it came in: a record, with its places. A law's argument as it came in: a slice of records, each with its places. -/
import Derived.Test.YtonhmihmnkicdaaGreatBase
import Derived.Deep.Slices
import Derived.Deep.Fields
import Derived.Test.YtonhmihmnkicdaaGreatRcLive
import Derived.Test.YtonhmihmnkicdaaGreatRpMem
namespace Go.Proofs.YtonhmihmnkicdaaGreat
open Go.RowKit
/-- a struct of n cells that came in -/
def CameV (t : TypeId) (n : Nat) (w : World) (v : Value) : Prop :=
  (∃ cs : Array Value, v = .agg cs ∧ cs.size = n) ∧ ∃ (H : Type) (enc : TypeId × Value → H) (d : DataW H) (ps : List MemPlace), DataW.Trod enc Tryz.prog w 0 (fun _ => true) true t v d ps
end Go.Proofs.YtonhmihmnkicdaaGreat
namespace Go.Proofs.YtonhmihmnkicdaaGreat
open Go.RowKit
set_option linter.unusedVariables false
theorem wf_i64 {n : Int} (h : (Lit.int .i64 n).wf = true) : -9223372036854775808 ≤ n ∧ n ≤ 9223372036854775807 := by
  simp [Lit.wf] at h
  exact h
set_option maxRecDepth 100000 in
set_option maxHeartbeats 2000000 in
theorem rc_cells {H : Type} {enc : TypeId × Value → H} {w : World} {fuel : Nat} {cs : List Value} {y : DataW H × List MemPlace} (hf0 : DataW.trod enc Tryz.prog w 0 (fun _ => true) true fuel 40 cs = some y) :
    ∃ (r : Rc) (a : Option Addr) (c : Nat), cs.toArray = rcs r a c ∧ LocsAt w a r.ls ∧ r.cm := by
  have k1 : Tryz.prog.cellsOf 3 = 1 := by kernel_rfl
  have k2 : Tryz.prog.cellsOf 9 = 1 := by kernel_rfl
  have k3 : Tryz.prog.cellsOf 36 = 4 := by kernel_rfl
  have k4 : Tryz.prog.cellsOf 38 = 5 := by kernel_rfl
  have k5 : Tryz.prog.cellsOf 34 = 1 := by kernel_rfl
  have k14 : Tryz.prog.cellsOf 40 = 14 := by kernel_rfl
  obtain ⟨ys, n, _, hx, hl, hlen, hf⟩ := DataW.trod_struct Tryz.underlying40 hf0
  rw [k14] at hl
  match cs, hl with
  | [c0, c1, c2, c3, c4, c5, c6, c7, c8, c9, c10, c11, c12, c13], _ =>
    match ys, hlen with
    | [y0, y1, y2, y3, y4, y5, y6], _ =>
      have h0 := hf 0 _ rfl
      have h1 := hf 1 _ rfl
      have h2 := hf 2 _ rfl
      have h3 := hf 3 _ rfl
      have h4 := hf 4 _ rfl
      have h5 := hf 5 _ rfl
      have h6 := hf 6 _ rfl
      simp [k1, k2, k3, k4] at h0 h1 h2 h3 h4 h5 h6
      obtain ⟨a0, e0, -, -⟩ := DataW.trod_int Tryz.underlying3 h0
      obtain ⟨a1, e1, -, -⟩ := DataW.trod_int Tryz.underlying3 h1
      obtain ⟨a11, e11, -, h63k⟩ := DataW.trod_string Tryz.underlying9 h4
      obtain ⟨a12, e12, -, -⟩ := DataW.trod_int Tryz.underlying3 h5
      obtain ⟨a13, e13, -, -⟩ := DataW.trod_int Tryz.underlying3 h6
      obtain ⟨zs, n2, _, hx2, hl2, hlen2, hf2⟩ := DataW.trod_struct Tryz.underlying36 h2
      obtain ⟨zt, n3, _, hx3, hl3, hlen3, hf3⟩ := DataW.trod_struct Tryz.underlying38 h3
      match zs, hlen2 with
      | [z0, z1, z2, z3], _ =>
        match zt, hlen3 with
        | [t0, t1, t2, t3, t4], _ =>
          have g0 := hf2 0 _ rfl
          have g1 := hf2 1 _ rfl
          have g2 := hf2 2 _ rfl
          have g3 := hf2 3 _ rfl
          have i0 := hf3 0 _ rfl
          have i1 := hf3 1 _ rfl
          have i2 := hf3 2 _ rfl
          have i3 := hf3 3 _ rfl
          have i4 := hf3 4 _ rfl
          simp [k1, k2, k5] at g0 g1 g2 g3 i0 i1 i2 i3 i4
          obtain ⟨b0, e2, -, -⟩ := DataW.trod_int Tryz.underlying3 g0
          obtain ⟨b1, e3, -, -⟩ := DataW.trod_int Tryz.underlying3 g1
          obtain ⟨b2, e4, -, -⟩ := DataW.trod_int Tryz.underlying3 g2
          obtain ⟨d0, e6, -, h63e⟩ := DataW.trod_string Tryz.underlying9 i0
          obtain ⟨d1, e7, -, -⟩ := DataW.trod_int Tryz.underlying3 i1
          obtain ⟨d2, e8, -, hwf⟩ := DataW.trod_int Tryz.underlying3 i2
          obtain ⟨d3, e9, -, -⟩ := DataW.trod_int Tryz.underlying3 i3
          obtain ⟨d4, e10, -, h63d⟩ := DataW.trod_string Tryz.underlying9 i4
          have B : ∃ a l q, c5 = .slice a l q ∧ Came 34 w a l q := by
            rcases DataW.trod_slice Tryz.underlying34 g3 with ⟨e, _⟩ | ⟨a, len, cap, _, _, _, _, e, _⟩
            · simp at e; subst e; exact ⟨none, 0, 0, rfl, H, enc, _, _, n2, g3⟩
            · simp at e; subst e; exact ⟨some a, len, cap, rfl, H, enc, _, _, n2, g3⟩
          obtain ⟨ka, kn, kc, rfl, hk⟩ := B
          simp at e0 e1 e2 e3 e4 e6 e7 e8 e9 e10 e11 e12 e13
          subst e0 e1 e2 e3 e4 e6 e7 e8 e9 e10 e11 e12 e13
          obtain ⟨ls, hls, _, h63, hA⟩ := came_locs hk
          refine ⟨⟨a0, a1, b0, b1, b2, ls, d0, d1, d2, d3, d4, a11, a12, a13⟩, ka, kc, ?_, hA, ?_⟩
          · subst hls; rfl
          · exact ⟨by simp only; omega, by simpa [maxLen] using h63e, by simpa [maxLen] using h63d, by simpa [maxLen] using h63k, wf_i64 hwf⟩
theorem rc_open {w : World} {v : Value} (c : CameV 40 14 w v) : ∃ (r : Rc) (a : Option Addr) (c : Nat), v = .agg (rcs r a c) ∧ LocsAt w a r.ls ∧ r.cm := by
  obtain ⟨⟨cs, rfl, hcs⟩, H, enc, d, ps, fuel, hf0⟩ := c
  obtain ⟨l, rfl⟩ : ∃ l : List Value, cs = l.toArray := ⟨cs.toList, by simp⟩
  simp only [Value.cells] at hf0
  obtain ⟨r, a, c, e, h1, h2⟩ := rc_cells hf0
  exact ⟨r, a, c, by rw [← e], h1, h2⟩
end Go.Proofs.YtonhmihmnkicdaaGreat
namespace Go.Proofs.YtonhmihmnkicdaaGreat
open Go.RowKit
set_option linter.unusedVariables false
theorem came_recs {w : World} {a : Option Addr} {l c : Nat} (h : Came 22 w a l c) : ∃ ls : List RT, ls.length = l ∧ l ≤ c ∧ l ≤ 9223372036854775807 ∧ RecsAt w a ls ∧ ∀ x ∈ ls, x.1.cm := by
  obtain ⟨H, enc, d, ps, fuel, hf⟩ := h
  rcases Go.Deep.open_slice Tryz.underlying22 hf with ⟨hcs, _⟩ | ⟨x, l', c', m, n, Dd, Pl, hcs, hb, hl, hm, hmm, hx, hi⟩
  · simp [Value.cells] at hcs
    obtain ⟨rfl, rfl, rfl⟩ := hcs
    exact ⟨[], rfl, by omega, by omega, RecsAt.nil _ _, fun x hx => by simp at hx⟩
  · simp [Value.cells] at hcs
    obtain ⟨rfl, rfl, rfl⟩ := hcs
    unfold maxLen at hm
    have k14 : Tryz.prog.cellsOf 40 = 14 := by kernel_rfl
    rw [if_pos rfl] at hmm
    rw [k14] at hi
    have each : ∀ i, i < l → ∃ y : RT, (LocsAt w y.2.1 y.1.ls ∧ y.1.cm) ∧ ∀ j v, (rtC y).toList[j]? = some v → w.cell? ((x.add (i * 14)).add j) = some v := by
      intro i hil
      obtain ⟨cs', hc, ht⟩ := hi i (by omega)
      obtain ⟨r, ra, rc, e, h1, h2⟩ := rc_cells ht
      obtain ⟨_, hcl, hat⟩ := World.cells?_some hc
      refine ⟨(r, ra, rc), ⟨h1, h2⟩, fun j v hj => ?_⟩
      have hj14 : j < 14 := by have := (List.getElem?_eq_some_iff.1 hj).1; rwa [rtC_len] at this
      rw [hat j hj14]
      have e2 : cs' = (rtC (r, ra, rc)).toList := by
        have := congrArg Array.toList e
        simpa [rtC] using this
      rw [e2]
      exact hj
    by_cases h0 : l = 0
    · subst h0; exact ⟨[], rfl, hl, by omega, RecsAt.nil _ _, fun x hx => by simp at hx⟩
    · have hne : Nonempty RT := ⟨(Rc.zero, none, 0)⟩
      have cho : ∃ f : Nat → RT, ∀ i, i < l → (LocsAt w (f i).2.1 (f i).1.ls ∧ (f i).1.cm) ∧ ∀ j v, (rtC (f i)).toList[j]? = some v → w.cell? ((x.add (i * 14)).add j) = some v := by
        refine ⟨fun i => if hil : i < l then Classical.choose (each i hil) else Classical.choice hne, fun i hil => ?_⟩
        simp only [dif_pos hil]
        exact Classical.choose_spec (each i hil)
      obtain ⟨f, hf2⟩ := cho
      refine ⟨(List.range l).map f, by simp, hl, by omega, ⟨?_, fun y hy => ?_⟩, fun y hy => ?_⟩
      · have h00 := (hf2 0 (by omega)).2 0 _ rfl
        rw [Nat.zero_mul, show x.add 0 = x from rfl] at h00
        obtain ⟨e, hblt⟩ := plain_addr h00
        refine .inr ⟨x.block, x.off, by rw [← e], hblt, fun i y hy => ?_⟩
        have hil : i < l := by have := (List.getElem?_eq_some_iff.1 hy).1; simpa using this
        simp [hil] at hy
        subst hy
        intro j v hj
        have h2 := (hf2 i hil).2 j v hj
        rw [e, add_plain, add_plain] at h2
        exact h2
      · obtain ⟨i, hi, rfl⟩ := List.mem_map.1 hy
        exact (hf2 i (List.mem_range.1 hi)).1.1
      · obtain ⟨i, hi, rfl⟩ := List.mem_map.1 hy
        exact (hf2 i (List.mem_range.1 hi)).1.2
end Go.Proofs.YtonhmihmnkicdaaGreat
