/- Digests of 256 bits (layer 3's), as numbers: the filled text, the words of a block, the rounds, the state behind all blocks. No word of the program stands here. What the functions of package sluicegateref03 answer. -/
import Derived.Test.YtlpibpkbgmcclaaGreatDoorBaseX
import Derived.Deep.RegionHeld3
import Derived.BigRegion
namespace Go.Proofs.YtlpibpkbgmcclaaGreatDoor.Sh
/-- a number is reckoned before it goes on -/
def fo {α : Type} (x : Nat) (k : Nat → α) : α := match x with
  | 0 => k 0
  | n + 1 => k (n + 1)
theorem fo_eq {α : Type} (x : Nat) (k : Nat → α) : fo x k = k x := by cases x <;> rfl
def M : Nat := 4294967296
def rot (x n : Nat) : Nat := x >>> n ||| (x <<< (32 - n)) % M
def s0 (x : Nat) : Nat := rot x 7 ^^^ rot x 18 ^^^ x >>> 3
def s1 (x : Nat) : Nat := rot x 17 ^^^ rot x 19 ^^^ x >>> 10
def S0 (x : Nat) : Nat := rot x 2 ^^^ rot x 13 ^^^ rot x 22
def S1 (x : Nat) : Nat := rot x 6 ^^^ rot x 11 ^^^ rot x 25
def ch (x y z : Nat) : Nat := (x &&& y) ^^^ ((M - 1 - x) &&& z)
def mj (x y z : Nat) : Nat := (x &&& y) ^^^ (x &&& z) ^^^ (y &&& z)
def kL : List Nat := [
  0x428a2f98, 0x71374491, 0xb5c0fbcf, 0xe9b5dba5, 0x3956c25b, 0x59f111f1, 0x923f82a4, 0xab1c5ed5,
  0xd807aa98, 0x12835b01, 0x243185be, 0x550c7dc3, 0x72be5d74, 0x80deb1fe, 0x9bdc06a7, 0xc19bf174,
  0xe49b69c1, 0xefbe4786, 0x0fc19dc6, 0x240ca1cc, 0x2de92c6f, 0x4a7484aa, 0x5cb0a9dc, 0x76f988da,
  0x983e5152, 0xa831c66d, 0xb00327c8, 0xbf597fc7, 0xc6e00bf3, 0xd5a79147, 0x06ca6351, 0x14292967,
  0x27b70a85, 0x2e1b2138, 0x4d2c6dfc, 0x53380d13, 0x650a7354, 0x766a0abb, 0x81c2c92e, 0x92722c85,
  0xa2bfe8a1, 0xa81a664b, 0xc24b8b70, 0xc76c51a3, 0xd192e819, 0xd6990624, 0xf40e3585, 0x106aa070,
  0x19a4c116, 0x1e376c08, 0x2748774c, 0x34b0bcb5, 0x391c0cb3, 0x4ed8aa4a, 0x5b9cca4f, 0x682e6ff3,
  0x748f82ee, 0x78a5636f, 0x84c87814, 0x8cc70208, 0x90befffa, 0xa4506ceb, 0xbef9a3f7, 0xc67178f2]
def kk (i : Nat) : Nat := kL.getD i 0
def iv : List Nat := [0x6a09e667, 0xbb67ae85, 0x3c6ef372, 0xa54ff53a, 0x510e527f, 0x9b05688c, 0x1f83d9ab, 0x5be0cd19]
/-- word i of a block's bytes -/
def wd (b : Nat → Nat) (i : Nat) : Nat := b (4 * i) <<< 24 ||| b (4 * i + 1) <<< 16 ||| b (4 * i + 2) <<< 8 ||| b (4 * i + 3)
/-- word k, out of those ahead of it -/
def nxt (b : Nat → Nat) (l : List Nat) (k : Nat) : Nat := if k < 16 then wd b k else (l.getD (k - 16) 0 + s0 (l.getD (k - 15) 0) + l.getD (k - 7) 0 + s1 (l.getD (k - 2) 0)) % M
/-- the first k words -/
def wl (b : Nat → Nat) : Nat → List Nat
  | 0 => []
  | k + 1 => wl b k ++ [nxt b (wl b k) k]
/-- eight words -/
structure S8 where
  a : Nat
  b : Nat
  c : Nat
  d : Nat
  e : Nat
  f : Nat
  g : Nat
  h : Nat
def rT (v : S8) (k w : Nat) : Nat := (v.h + S1 v.e + ch v.e v.f v.g + k + w) % M
def rU (v : S8) : Nat := (S0 v.a + mj v.a v.b v.c) % M
/-- one round -/
def rnd (v : S8) (k w : Nat) : S8 := ⟨(rT v k w + rU v) % M, v.a, v.b, v.c, (v.d + rT v k w) % M, v.e, v.f, v.g⟩
/-- the first n rounds -/
def rnds (w : Nat → Nat) (v : S8) : Nat → S8
  | 0 => v
  | n + 1 => rnd (rnds w v n) (kk n) (w n)
def add8 (v u : S8) : S8 := ⟨(v.a + u.a) % M, (v.b + u.b) % M, (v.c + u.c) % M, (v.d + u.d) % M, (v.e + u.e) % M, (v.f + u.f) % M, (v.g + u.g) % M, (v.h + u.h) % M⟩
/-- the state behind one block -/
def blk (v : S8) (b : Nat → Nat) : S8 := add8 (rnds (fun i => (wl b 64).getD i 0) v 64) v
def iv8 : S8 := ⟨0x6a09e667, 0xbb67ae85, 0x3c6ef372, 0xa54ff53a, 0x510e527f, 0x9b05688c, 0x1f83d9ab, 0x5be0cd19⟩
/-- how many bytes a text of n has when it is filled -/
def fl (n : Nat) : Nat := (n + 72) / 64 * 64
/-- its bytes -/
def fb (f : Nat → Nat) (n p : Nat) : Nat := if p < n then f p else if p = n then 0x80 else if p < fl n - 8 then 0 else (8 * n) >>> (8 * (fl n - 1 - p)) % 256
/-- the state behind k blocks of bytes g -/
def sts (g : Nat → Nat) : Nat → S8
  | 0 => iv8
  | k + 1 => blk (sts g k) (fun p => g (64 * k + p))
/-- the state behind a text -/
def fin (f : Nat → Nat) (n : Nat) : S8 := sts (fb f n) (fl n / 64)
def at8 (v : S8) : Nat → Nat
  | 0 => v.a
  | 1 => v.b
  | 2 => v.c
  | 3 => v.d
  | 4 => v.e
  | 5 => v.f
  | 6 => v.g
  | _ => v.h
/-- byte p of the digest -/
def dg (f : Nat → Nat) (n p : Nat) : Nat := at8 (fin f n) (p / 4) >>> (8 * (3 - p % 4)) % 256
theorem wl_len (b : Nat → Nat) : ∀ k, (wl b k).length = k := by
  intro k
  induction k with
  | zero => rfl
  | succ k ih => rw [wl, List.length_append, ih]; rfl
/-- word i of a block -/
def ww (b : Nat → Nat) (i : Nat) : Nat := nxt b (wl b i) i
theorem wl_at (b : Nat → Nat) : ∀ {k i : Nat}, i < k → (wl b k)[i]? = some (ww b i) := by
  intro k
  induction k with
  | zero => intro i h; omega
  | succ k ih =>
    intro i h
    rw [wl]
    by_cases e : i = k
    · subst e
      rw [List.getElem?_append_right (by rw [wl_len]; exact Nat.le_refl _), wl_len, Nat.sub_self]
      rfl
    · rw [List.getElem?_append_left (by rw [wl_len]; omega), ih (by omega)]
theorem rnds_congr {w w' : Nat → Nat} {v : S8} : ∀ {n}, (∀ i, i < n → w i = w' i) → rnds w v n = rnds w' v n := by
  intro n
  induction n with
  | zero => intro _; rfl
  | succ n ih => intro h; rw [rnds, rnds, ih fun i hi => h i (by omega), h n (by omega)]
theorem blk_ww (v : S8) (b : Nat → Nat) : blk v b = add8 (rnds (ww b) v 64) v := by
  unfold blk
  rw [rnds_congr (w' := ww b) fun i hi => by rw [List.getD_eq_getElem?_getD, wl_at b hi]; rfl]
/- the same, reckoned strictly -/
def fo8 {α : Type} (v : S8) (k : S8 → α) : α := fo v.a fun a => fo v.b fun b => fo v.c fun c => fo v.d fun d => fo v.e fun e => fo v.f fun f => fo v.g fun g => fo v.h fun h => k ⟨a, b, c, d, e, f, g, h⟩
theorem fo8_eq {α : Type} (v : S8) (k : S8 → α) : fo8 v k = k v := by simp only [fo8, fo_eq]
/-- word k, out of those ahead of it, the last first -/
def nxtR (b : Nat → Nat) (l : List Nat) (k : Nat) : Nat := if k < 16 then wd b k else (l.getD 15 0 + s0 (l.getD 14 0) + l.getD 6 0 + s1 (l.getD 1 0)) % M
theorem rev_at {l : List Nat} {k j : Nat} (hl : l.length = k) (hj : j < k) : l.reverse.getD j 0 = l.getD (k - 1 - j) 0 := by
  rw [List.getD_eq_getElem?_getD, List.getD_eq_getElem?_getD, List.getElem?_reverse (by omega), hl]
theorem nxtR_eq (b : Nat → Nat) (k : Nat) : nxtR b (wl b k).reverse k = ww b k := by
  unfold nxtR ww nxt
  by_cases h : k < 16
  · rw [if_pos h, if_pos h]
  · have e := wl_len b k
    rw [if_neg h, if_neg h, rev_at e (by omega), rev_at e (by omega), rev_at e (by omega), rev_at e (by omega),
      show k - 1 - 15 = k - 16 by omega, show k - 1 - 14 = k - 15 by omega, show k - 1 - 6 = k - 7 by omega, show k - 1 - 1 = k - 2 by omega]
def blkF (b : Nat → Nat) : Nat → Nat → List Nat → S8 → S8
  | 0, _, _, v => v
  | n + 1, k, l, v => fo (nxtR b l k) fun x => fo8 (rnd v (kk k) x) fun v' => blkF b n (k + 1) (x :: l) v'
theorem blkF_eq (b : Nat → Nat) (v : S8) : ∀ n k, blkF b n k (wl b k).reverse (rnds (ww b) v k) = rnds (ww b) v (k + n) := by
  intro n
  induction n with
  | zero => intro k; rfl
  | succ n ih =>
    intro k
    rw [blkF, fo_eq, fo8_eq, nxtR_eq]
    have e : ww b k :: (wl b k).reverse = (wl b (k + 1)).reverse := by rw [wl, List.reverse_append]; rfl
    rw [e, show rnd (rnds (ww b) v k) (kk k) (ww b k) = rnds (ww b) v (k + 1) from rfl, ih, show k + 1 + n = k + (n + 1) by omega]
def stsF (g : Nat → Nat) : Nat → Nat → S8 → S8
  | 0, _, v => v
  | n + 1, k, v => fo8 (add8 (blkF (fun p => g (64 * k + p)) 64 0 [] v) v) fun v' => stsF g n (k + 1) v'
theorem stsF_eq (g : Nat → Nat) : ∀ n k, stsF g n k (sts g k) = sts g (k + n) := by
  intro n
  induction n with
  | zero => intro k; rfl
  | succ n ih =>
    intro k
    have e := blkF_eq (fun p => g (64 * k + p)) (sts g k) 64 0
    rw [show (wl (fun p => g (64 * k + p)) 0).reverse = [] from rfl, show rnds (ww fun p => g (64 * k + p)) (sts g k) 0 = sts g k from rfl] at e
    rw [stsF, fo8_eq, e, Nat.zero_add, ← blk_ww, show blk (sts g k) (fun p => g (64 * k + p)) = sts g (k + 1) from rfl, ih, show k + 1 + n = k + (n + 1) by omega]
theorem fin_eq (f : Nat → Nat) (n : Nat) : fin f n = stsF (fb f n) (fl n / 64) 0 iv8 := by
  have := stsF_eq (fb f n) (fl n / 64) 0
  rw [Nat.zero_add] at this
  exact this.symm
def eq8 (v u : S8) : Bool := v.a == u.a && v.b == u.b && v.c == u.c && v.d == u.d && v.e == u.e && v.f == u.f && v.g == u.g && v.h == u.h
theorem eq8_spec {v u : S8} (h : eq8 v u = true) : v = u := by
  cases v; cases u
  simp [eq8] at h
  simp [h]
def abc : S8 := ⟨0xba7816bf, 0x8f01cfea, 0x414140de, 0x5dae2223, 0xb00361a3, 0x96177a9c, 0xb410ff61, 0xf20015ad⟩
def nul : S8 := ⟨0xe3b0c442, 0x98fc1c14, 0x9afbf4c8, 0x996fb924, 0x27ae41e4, 0x649b934c, 0xa495991b, 0x7852b855⟩
theorem fin_abc_b : eq8 (stsF (fb (fun p => 97 + p) 3) 1 0 iv8) abc = true := by decide +kernel
theorem fin_nul_b : eq8 (stsF (fb (fun _ => 0) 0) 1 0 iv8) nul = true := by decide +kernel
theorem fin_abc : fin (fun p => 97 + p) 3 = abc := by rw [fin_eq]; exact eq8_spec fin_abc_b
theorem fin_nul : fin (fun _ => 0) 0 = nul := by rw [fin_eq]; exact eq8_spec fin_nul_b
end Go.Proofs.YtlpibpkbgmcclaaGreatDoor.Sh
namespace Go.Proofs.YtlpibpkbgmcclaaGreatDoor
open Go.RowKit
theorem Sh.rot_lt {x n : Nat} (hx : x < 4294967296) : Sh.rot x n < 4294967296 := by
  unfold Sh.rot
  have h1 : x >>> n < 2 ^ 32 := Nat.lt_of_le_of_lt (Nat.shiftRight_le x n) hx
  have h2 : (x <<< (32 - n)) % Sh.M < 2 ^ 32 := Nat.mod_lt _ (by decide)
  exact Nat.or_lt_two_pow h1 h2
theorem rot_int {x n : Nat} (hx : x < 4294967296) : bits .or .u32 ((x : Int) / 2 ^ n) ((x : Int) * 2 ^ (32 - n) % 4294967296) = ((Sh.rot x n : Nat) : Int) := by
  have e1 : (x : Int) / 2 ^ n = ((x >>> n : Nat) : Int) := by rw [Nat.shiftRight_eq_div_pow]; simp
  have e2 : (x : Int) * 2 ^ (32 - n) % 4294967296 = (((x <<< (32 - n)) % Sh.M : Nat) : Int) := by rw [Nat.shiftLeft_eq]; unfold Sh.M; simp
  rw [e1, e2, u32_or_nat _ _ (Nat.lt_of_le_of_lt (Nat.shiftRight_le x n) hx) (show x <<< (32 - n) % Sh.M < 4294967296 from Nat.mod_lt _ (by decide))]
  rfl
set_option maxRecDepth 100000 in
set_option maxHeartbeats 1000000 in
theorem refRot_any (x n : Nat) (w : World) (hx : x < 4294967296) (h0 : 0 < n) (hn : n < 32) :
    Calls Tryz.prog 49 #[.int .u32 (x : Int), .int .u64 (n : Int)] w fun e w' => e = .returned (.int .u32 (Sh.rot x n : Nat)) ∧ w = w' := by
  go_enter Tryz.func49, Tryz.ntmps49
  go_wp2_with fail
  go_ret
  exact ⟨ret_int (rot_int hx), rfl⟩
theorem kV_at {i : Nat} (hi : i < 64) : (Sh.kL.map fun n : Nat => Value.int .u32 (n : Int))[i]'(by rw [List.length_map]; exact hi) = .int .u32 (Sh.kk i : Nat) := by
  have hl : Sh.kL.length = 64 := rfl
  rw [List.getElem_map]
  unfold Sh.kk
  rw [List.getD_eq_getElem?_getD, List.getElem?_eq_getElem (by omega)]
  rfl
set_option maxRecDepth 100000 in
set_option maxHeartbeats 1000000 in
theorem refK_any (i : Nat) (w : World) (hi : i < 64) :
    Calls Tryz.prog 50 #[.int .i64 (i : Int)] w fun e w' => e = .returned (.int .u32 (Sh.kk i : Nat)) ∧ Below w.heap.size w w' := by
  have hi' : (i : Int) < 64 := by omega
  go_enter Tryz.func50, Tryz.ntmps50
  go_wp2_with fail
  go_ret
  exact ⟨congrArg Ending.returned (kV_at hi), (Below.refl _ _).alloc (Nat.le_refl _) _⟩
end Go.Proofs.YtlpibpkbgmcclaaGreatDoor
