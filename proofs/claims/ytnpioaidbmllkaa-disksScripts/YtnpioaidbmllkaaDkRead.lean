/- What a disk's read answers: the last write that waits for the sector, or the sector. -/
import Derived.Test.YtnpioaidbmllkaaDkBack
import Derived.Stop.RegionWithIn
import Derived.RangeFuncNested
namespace Go.Proofs.Ytnpioaidbmllkaa
open Go.RowKit Go.Shelf
attribute [local go_sem] Oper.semAt_some
theorem revI_none {ws : List (Nat × ByteArray)} {n : Nat} (h : ∀ x ∈ revI ws ws.length, x.2.1 ≠ n) : ∀ x ∈ ws, x.1 ≠ n := by
  intro x hx
  obtain ⟨i, hi, rfl⟩ := List.getElem_of_mem hx
  have key : ∀ k, k ≤ ws.length → ∀ j, j < k → (ws.length - 1 - j, ws[ws.length - 1 - j]?.getD (0, ByteArray.empty)) ∈ revI ws k := by
    intro k
    induction k with
    | zero => intro _ j hj; omega
    | succ k ih =>
      intro hk j hj
      rw [revI, List.mem_append]
      by_cases e : j = k
      · subst e; exact .inr (List.mem_singleton.2 rfl)
      · exact .inl (ih (by omega) j (by omega))
  have := h _ (key ws.length (Nat.le_refl _) (ws.length - 1 - i) (by omega))
  rw [show ws.length - 1 - (ws.length - 1 - i) = i by omega, List.getElem?_eq_getElem hi] at this
  exact this
theorem secW_none {f : Nat → ByteArray} {ws : List (Nat × ByteArray)} {n : Nat} (h : ∀ x ∈ ws, x.1 ≠ n) : secW f ws n = f n := by
  induction ws generalizing f with
  | nil => rfl
  | cons y l ih =>
    show secW (fun m => if m = y.1 then y.2 else f m) l n = f n
    rw [ih fun x hx => h x (by simp [hx])]
    exact if_neg fun e => h y (by simp) e.symm
theorem secW_app (f : Nat → ByteArray) (l m : List (Nat × ByteArray)) : secW f (l ++ m) = secW (secW f l) m := by
  induction l generalizing f with
  | nil => rfl
  | cons y l ih => exact ih _
theorem secW_last {f : Nat → ByteArray} {ws : List (Nat × ByteArray)} {n k : Nat} {x : Nat × Nat × ByteArray} {pre : List (Nat × Nat × ByteArray)} (hk : k ≤ ws.length) (he : pre ++ [x] = revI ws k) (hx : x.2.1 = n) (hp : ∀ y ∈ pre, y.2.1 ≠ n) : secW f ws n = x.2.2 := by
  have hk0 : k ≠ 0 := fun e => by subst e; simp [revI] at he
  obtain ⟨j, rfl⟩ : ∃ j, k = j + 1 := ⟨k - 1, by omega⟩
  rw [revI] at he
  obtain ⟨h1, h2⟩ := List.append_inj' he rfl
  have hxe : x = (ws.length - 1 - j, ws[ws.length - 1 - j]?.getD (0, ByteArray.empty)) := List.cons.inj h2 |>.1
  have hi : ws.length - 1 - j < ws.length := by omega
  have hws : ws = ws.take (ws.length - 1 - j) ++ ws[ws.length - 1 - j] :: ws.drop (ws.length - 1 - j + 1) := by
    rw [← List.drop_eq_getElem_cons hi, List.take_append_drop]
  have hx2 : x.2 = ws[ws.length - 1 - j] := by rw [hxe, List.getElem?_eq_getElem hi]; rfl
  have hrest : ∀ y ∈ ws.drop (ws.length - 1 - j + 1), y.1 ≠ n := by
    intro y hy
    obtain ⟨i, hi2, rfl⟩ := List.getElem_of_mem hy
    rw [List.length_drop] at hi2
    have key : ∀ k, k ≤ ws.length → ∀ j, j < k → (ws.length - 1 - j, ws[ws.length - 1 - j]?.getD (0, ByteArray.empty)) ∈ revI ws k := by
      intro k
      induction k with
      | zero => intro _ j hj; omega
      | succ k ih =>
        intro hk j hj
        rw [revI, List.mem_append]
        by_cases e : j = k
        · subst e; exact .inr (List.mem_singleton.2 rfl)
        · exact .inl (ih (by omega) j (by omega))
    have := hp _ (by rw [h1]; exact key j (by omega) (j - 1 - i) (by omega))
    rw [show ws.length - 1 - (j - 1 - i) = ws.length - 1 - j + 1 + i by omega, List.getElem?_eq_getElem (by omega)] at this
    rw [List.getElem_drop]
    exact this
  rw [hws, secW_app]
  show secW (fun m => if m = ws[ws.length - 1 - j].1 then ws[ws.length - 1 - j].2 else _) _ n = _
  rw [secW_none hrest, if_pos (by rw [← hx, hx2]), hx2]
theorem keeps_alloc (B : Nat) (W : World) (o : Obj) : KeepsFrom B W (W.alloc o) := ⟨by simp, fun k o' _ hk _ => (Below.heap_alloc _ _ _ (Array.getElem?_eq_some_iff.1 hk).1).trans hk⟩
theorem keeps_set (B : Nat) (W : World) {rb : Nat} (hrb : rb < B) (v : Value) : KeepsFrom B W (W.setCell ⟨rb, 0, none⟩ v) := ⟨by simp [World.setCell], fun k o' hB hk _ => (Below.heap_setCell _ _ _ _ (by show k ≠ rb; omega)).trans hk⟩
/-- behind a round that found the write -/
def RdX (w : World) (n : Nat) (c : Code) (pre : List (Nat × Nat × ByteArray)) (W : World) : Prop := c = .ret ∧ (∃ x pre', pre = pre' ++ [x] ∧ x.2.1 = n ∧ (∀ y ∈ pre', y.2.1 ≠ n) ∧ W.heap[w.heap.size + 1]? = some (.cells #[.string x.2.2] 9 (0, 0))) ∧ Below w.heap.size w W ∧ w.heap.size + 3 ≤ W.heap.size
theorem rdX_own (w : World) (n : Nat) (c : Code) : OwnFrom (w.heap.size + 3) (RdX w n c) := fun s W W' row hs hg hr => by
  obtain ⟨hc, ⟨x, pre', h1, h2, h3, h4⟩, hb, hz⟩ := hs
  have hk : ∀ k, k < w.heap.size + 3 → W'.heap[k]? = W.heap[k]? := fun k hk => hg.block k (by omega) fun e => by have := (hr k e.symm).1; omega
  exact ⟨hc, ⟨x, pre', h1, h2, h3, by rw [hk _ (by omega)]; exact h4⟩, ⟨hg.os.trans hb.os, hg.tape.trans hb.tape, hg.output.trans hb.output, Nat.le_trans hb.size hg.size, fun k hk' => (hk k (by omega)).trans (hb.block k hk')⟩, Nat.le_trans hz hg.size⟩
def rdA (b d n : Nat) (w : World) (a : Option Addr) (L c : Nat) (x : Nat × Nat × ByteArray) (bx : Nat) : Act := { tmps := #[.pointer (some ⟨b, d * 114, none⟩), .int .i64 (n : Int), undef, .pointer (some ⟨w.heap.size, 0, none⟩), .pointer (some ⟨w.heap.size + 1, 0, none⟩), undef, .pointer (some ⟨bx, 0, none⟩), .pointer (some ⟨b, d * 114, none⟩), .pointer (some ⟨b, d * 114, none⟩), .pointer (some ⟨b, d * 114 + 113, none⟩), .slice a L c, .func (.func 54) #[] #[.pointer (some ⟨w.heap.size + 2, 0, none⟩)], .int .i64 (x.1 : Int), .agg #[.int .i64 (x.2.1 : Int), .string x.2.2], undef, undef, undef, undef, undef, undef, undef, undef, undef, undef, undef, undef], defers := [] }
def RdAx (b d n : Nat) (w : World) (a : Option Addr) (L c : Nat) (x : Nat × Nat × ByteArray) (a' : Act) (W : World) : Prop := ∃ bx, a' = rdA b d n w a L c x bx ∧ w.heap.size + 3 ≤ bx ∧ W.heap[bx]? = some (.cells #[.int .i64 (x.2.1 : Int), .string x.2.2] 72 (0, 0))
theorem rdAx_own (b d n : Nat) (w : World) (a : Option Addr) (L c B : Nat) (x : Nat × Nat × ByteArray) (a' : Act) : OwnFrom B (fun (_ : Unit) W => RdAx b d n w a L c x a' W) := fun _ W W' row hs hg hr => by
  obtain ⟨bx, h1, h2, h3⟩ := hs
  refine ⟨bx, h1, h2, (hg.block bx (lt_of_block h3) fun e => ?_).trans h3⟩
  obtain ⟨_, o, ho, hoc⟩ := hr bx e.symm
  rw [h3] at ho
  cases ho
  cases hoc
def rdW (w : World) (n : Nat) (a : Option Addr) (L c : Nat) : World := ((w.alloc (.cells #[.int .i64 (n : Int)] 3)).alloc (.cells #[.string ⟨#[]⟩] 9)).alloc (.cells #[.slice a L c] 48)
theorem rdW_below (w : World) (n : Nat) (a : Option Addr) (L c : Nat) : Below w.heap.size w (rdW w n a L c) := (((Below.refl _ w).alloc (Nat.le_refl _) _).alloc (by simp) _).alloc (by simp; omega) _
theorem rdW_size (w : World) (n : Nat) (a : Option Addr) (L c : Nat) : (rdW w n a L c).heap.size = w.heap.size + 3 := by unfold rdW; rw [World.size_alloc, World.size_alloc, World.size_alloc]
theorem rdW_n (w : World) (n : Nat) (a : Option Addr) (L c : Nat) : (rdW w n a L c).heap[w.heap.size]? = some (.cells #[.int .i64 (n : Int)] 3 (0, 0)) := by
  unfold rdW
  rw [Below.heap_alloc _ _ _ (by rw [World.size_alloc, World.size_alloc]; omega), Below.heap_alloc _ _ _ (by rw [World.size_alloc]; omega)]
  exact heap_alloc_new _ _
theorem rdW_r (w : World) (n : Nat) (a : Option Addr) (L c : Nat) : (rdW w n a L c).heap[w.heap.size + 1]? = some (.cells #[.string ⟨#[]⟩] 9 (0, 0)) := by
  have h := heap_alloc_new (w.alloc (.cells #[.int .i64 (n : Int)] 3)) (.cells #[.string ⟨#[]⟩] 9)
  rw [World.size_alloc] at h
  unfold rdW
  rw [Below.heap_alloc _ _ _ (by rw [World.size_alloc, World.size_alloc]; omega)]
  exact h
theorem rdW_s (w : World) (n : Nat) (a : Option Addr) (L c : Nat) : (rdW w n a L c).heap[w.heap.size + 2]? = some (.cells #[.slice a L c] 48 (0, 0)) := by
  have h := heap_alloc_new ((w.alloc (.cells #[.int .i64 (n : Int)] 3)).alloc (.cells #[.string ⟨#[]⟩] 9)) (.cells #[.slice a L c] 48)
  rw [World.size_alloc, World.size_alloc] at h
  exact h
end Go.Proofs.Ytnpioaidbmllkaa
