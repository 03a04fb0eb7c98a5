/- Sums of 32 bits over a polynomial (layer 4's), as numbers: linear, and no two states alike come of two that differ. No word of the program stands here. -/
namespace Go.Proofs.YtonhmihmnkicdaaGreat.Cr
/-- the polynomial, and the first state -/
def P : Nat := 0x82F63B78
def F : Nat := 0xFFFFFFFF
/-- one step -/
def st (x : Nat) : Nat := x / 2 ^^^ (if x % 2 = 1 then P else 0)
def stN : Nat → Nat → Nat
  | 0, x => x
  | n + 1, x => stN n (st x)
theorem xor_mod2 (x y : Nat) : (x ^^^ y) % 2 = (x % 2 + y % 2) % 2 := by
  have h := Nat.testBit_xor (x := x) (y := y) (i := 0)
  simp only [Nat.testBit_zero] at h
  rcases Nat.mod_two_eq_zero_or_one x with a | a <;> rcases Nat.mod_two_eq_zero_or_one y with b | b <;> rcases Nat.mod_two_eq_zero_or_one (x ^^^ y) with c | c <;> simp_all
theorem xor_div2 (x y : Nat) : (x ^^^ y) / 2 = x / 2 ^^^ y / 2 := by
  apply Nat.eq_of_testBit_eq
  intro i
  rw [Nat.testBit_xor, Nat.testBit_div_two, Nat.testBit_div_two, Nat.testBit_div_two, Nat.testBit_xor]
theorem st_xor (x y : Nat) : st (x ^^^ y) = st x ^^^ st y := by
  unfold st
  rw [xor_div2, xor_mod2]
  rcases Nat.mod_two_eq_zero_or_one x with a | a <;> rcases Nat.mod_two_eq_zero_or_one y with b | b <;> rw [a, b] <;> simp
  · ac_rfl
  · ac_rfl
  · rw [show x / 2 ^^^ P ^^^ (y / 2 ^^^ P) = x / 2 ^^^ y / 2 ^^^ (P ^^^ P) by ac_rfl, Nat.xor_self, Nat.xor_zero]
theorem st_lt {x : Nat} (h : x < 2 ^ 32) : st x < 2 ^ 32 := by
  unfold st
  apply Nat.xor_lt_two_pow
  · omega
  · split <;> decide
theorem st_zero : st 0 = 0 := rfl
theorem st_two (x : Nat) : st (2 * x) = x := by
  unfold st
  rw [show 2 * x / 2 = x by omega, show 2 * x % 2 = 0 by omega]
  simp
/-- of a number that is not 0 no step makes 0 -/
theorem st_pos {x : Nat} (h : x < 2 ^ 32) (h0 : x ≠ 0) : st x ≠ 0 := by
  intro e
  unfold st at e
  rcases Nat.mod_two_eq_zero_or_one x with a | a
  · rw [if_neg (by omega), Nat.xor_zero] at e
    omega
  · rw [if_pos a] at e
    have h1 := congrArg (fun n => n.testBit 31) e
    simp only [Nat.testBit_xor, Nat.zero_testBit] at h1
    rw [Nat.testBit_lt_two_pow (show x / 2 < 2 ^ 31 by omega)] at h1
    revert h1
    decide
theorem stN_xor (n : Nat) : ∀ x y, stN n (x ^^^ y) = stN n x ^^^ stN n y := by
  induction n with
  | zero => intro x y; rfl
  | succ n ih => intro x y; rw [stN, stN, stN, st_xor, ih]
theorem stN_lt (n : Nat) : ∀ {x}, x < 2 ^ 32 → stN n x < 2 ^ 32 := by
  induction n with
  | zero => intro x h; exact h
  | succ n ih => intro x h; exact ih (st_lt h)
theorem stN_pos (n : Nat) : ∀ {x}, x < 2 ^ 32 → x ≠ 0 → stN n x ≠ 0 := by
  induction n with
  | zero => intro x _ h; exact h
  | succ n ih => intro x h h0; exact ih (st_lt h) (st_pos h h0)
theorem xor_eq_zero {x y : Nat} : x ^^^ y = 0 ↔ x = y := by
  constructor
  · intro h
    have : x ^^^ y ^^^ y = 0 ^^^ y := by rw [h]
    rwa [Nat.xor_assoc, Nat.xor_self, Nat.xor_zero, Nat.zero_xor] at this
  · intro h; rw [h, Nat.xor_self]
theorem stN_inj (n : Nat) {x y : Nat} (hx : x < 2 ^ 32) (hy : y < 2 ^ 32) (h : stN n x = stN n y) : x = y := by
  rw [← xor_eq_zero] at h ⊢
  rw [← stN_xor] at h
  exact Decidable.by_contra fun h0 => stN_pos n (Nat.xor_lt_two_pow hx hy) h0 h
theorem stN_add (m n : Nat) : ∀ x, stN (m + n) x = stN n (stN m x) := by
  induction m with
  | zero => intro x; rw [Nat.zero_add]; rfl
  | succ m ih => intro x; rw [Nat.succ_add, stN, stN, ih]
theorem stN_zero (n : Nat) : stN n 0 = 0 := by
  induction n with
  | zero => rfl
  | succ n ih => rw [stN, st_zero, ih]
/-- what stands above the bits of n steps only comes down -/
theorem stN_high (n : Nat) : ∀ x, stN n (2 ^ n * x) = x := by
  induction n with
  | zero => intro x; rw [Nat.pow_zero, Nat.one_mul]; rfl
  | succ n ih => intro x; rw [stN, show 2 ^ (n + 1) * x = 2 * (2 ^ n * x) by rw [Nat.pow_succ]; ac_rfl, st_two, ih]
theorem low_high {n v : Nat} : v = v % 2 ^ n ^^^ 2 ^ n * (v / 2 ^ n) := by
  apply Nat.eq_of_testBit_eq
  intro i
  rw [Nat.testBit_xor, Nat.testBit_mod_two_pow, Nat.testBit_two_pow_mul, Nat.testBit_div_two_pow]
  by_cases h : i < n
  · have h' : ¬ n ≤ i := by omega
    simp [h, h']
  · have h' : n ≤ i := by omega
    have : i - n + n = i := by omega
    simp [h, h', this]
theorem stN_split (n : Nat) (x v : Nat) : stN n (x ^^^ v) = stN n (x ^^^ v % 2 ^ n) ^^^ v / 2 ^ n := by
  have e : x ^^^ v = x ^^^ v % 2 ^ n ^^^ 2 ^ n * (v / 2 ^ n) := by rw [Nat.xor_assoc, ← low_high]
  rw [e, stN_xor n (x ^^^ v % 2 ^ n), stN_high]
/-- the state behind n bytes, from a first one -/
def crX (a : Nat) (f : Nat → Nat) : Nat → Nat
  | 0 => a
  | n + 1 => stN 8 (crX a f n ^^^ f n)
def cr (f : Nat → Nat) (n : Nat) : Nat := crX F f n
/-- the sum -/
def sum (f : Nat → Nat) (n : Nat) : Nat := cr f n ^^^ F
theorem crX_lt {a : Nat} {f : Nat → Nat} (ha : a < 2 ^ 32) (hf : ∀ p, f p < 256) : ∀ n, crX a f n < 2 ^ 32 := by
  intro n
  induction n with
  | zero => exact ha
  | succ n ih => exact stN_lt 8 (Nat.xor_lt_two_pow ih (Nat.lt_of_lt_of_le (hf n) (by decide)))
theorem cr_lt {f : Nat → Nat} (hf : ∀ p, f p < 256) (n : Nat) : cr f n < 2 ^ 32 := crX_lt (by decide) hf n
theorem sum_lt {f : Nat → Nat} (hf : ∀ p, f p < 256) (n : Nat) : sum f n < 2 ^ 32 := Nat.xor_lt_two_pow (cr_lt hf n) (by decide)
theorem crX_congr {a : Nat} {f g : Nat → Nat} : ∀ {n}, (∀ p, p < n → f p = g p) → crX a f n = crX a g n := by
  intro n
  induction n with
  | zero => intro _; rfl
  | succ n ih => intro h; rw [crX, crX, ih fun p hp => h p (by omega), h n (by omega)]
theorem cr_congr {f g : Nat → Nat} {n : Nat} (h : ∀ p, p < n → f p = g p) : cr f n = cr g n := crX_congr h
theorem crX_xor (a b : Nat) (f g : Nat → Nat) : ∀ n, crX (a ^^^ b) (fun p => f p ^^^ g p) n = crX a f n ^^^ crX b g n := by
  intro n
  induction n with
  | zero => rfl
  | succ n ih =>
    rw [crX, crX, crX, ih, ← stN_xor]
    congr 1
    ac_rfl
/-- of three texts, xored, the sum is theirs, xored -/
theorem sum_three (f g h : Nat → Nat) (n : Nat) : sum (fun p => f p ^^^ g p ^^^ h p) n = sum f n ^^^ sum g n ^^^ sum h n := by
  have e : cr (fun p => f p ^^^ g p ^^^ h p) n = cr f n ^^^ cr g n ^^^ cr h n := by
    unfold cr
    rw [← crX_xor, ← crX_xor, Nat.xor_self, Nat.zero_xor]
  unfold sum
  rw [e, show cr f n ^^^ F ^^^ (cr g n ^^^ F) ^^^ (cr h n ^^^ F) = cr f n ^^^ cr g n ^^^ cr h n ^^^ F ^^^ (F ^^^ F) by ac_rfl, Nat.xor_self, Nat.xor_zero]
/-- byte k of a word -/
def by4 (v k : Nat) : Nat := v / 256 ^ k % 256
theorem by4_lt (v k : Nat) : by4 v k < 256 := Nat.mod_lt _ (by decide)
/-- the state behind four bytes that are a word's -/
theorem crX_word {a : Nat} {f : Nat → Nat} {n v : Nat} (hv : v < 2 ^ 32) (h : ∀ k, k < 4 → f (n + k) = by4 v k) : crX a f (n + 4) = stN 32 (crX a f n ^^^ v) := by
  have e0 := h 0 (by omega)
  have e1 := h 1 (by omega)
  have e2 := h 2 (by omega)
  have e3 := h 3 (by omega)
  simp only [by4, Nat.pow_zero, Nat.div_one, Nat.add_zero] at e0 e1 e2 e3
  rw [show (32 : Nat) = 8 + (8 + (8 + 8)) from rfl, stN_add, stN_split 8 (crX a f n) v, stN_add, stN_split 8 _ (v / 2 ^ 8), stN_add, stN_split 8 _ (v / 2 ^ 8 / 2 ^ 8), stN_split 8 _ (v / 2 ^ 8 / 2 ^ 8 / 2 ^ 8)]
  rw [show v / 2 ^ 8 / 2 ^ 8 / 2 ^ 8 / 2 ^ 8 = 0 by omega, Nat.xor_zero]
  rw [show crX a f (n + 4) = stN 8 (stN 8 (stN 8 (stN 8 (crX a f n ^^^ f n) ^^^ f (n + 1)) ^^^ f (n + 2)) ^^^ f (n + 3)) from rfl, e0, e1, e2, e3]
  rw [show v / 2 ^ 8 % 2 ^ 8 = v / 256 ^ 1 % 256 by omega, show v / 2 ^ 8 / 2 ^ 8 % 2 ^ 8 = v / 256 ^ 2 % 256 by omega, show v / 2 ^ 8 / 2 ^ 8 / 2 ^ 8 % 2 ^ 8 = v / 256 ^ 3 % 256 by omega, show v % 2 ^ 8 = v % 256 from rfl]
/-- the state behind a sealed text is one and the same -/
theorem cr_sealed {f : Nat → Nat} {n : Nat} (hf : ∀ p, f p < 256) (h : ∀ k, k < 4 → f (n + k) = by4 (sum f n) k) : cr f (n + 4) = stN 32 F := by
  unfold cr
  rw [crX_word (sum_lt hf n) h]
  unfold sum cr
  rw [← Nat.xor_assoc, Nat.xor_self, Nat.zero_xor]
theorem word_of_bytes {u v : Nat} (hu : u < 2 ^ 32) (hv : v < 2 ^ 32) (h : ∀ k, k < 4 → by4 u k = by4 v k) : u = v := by
  have e0 := h 0 (by omega)
  have e1 := h 1 (by omega)
  have e2 := h 2 (by omega)
  have e3 := h 3 (by omega)
  simp only [by4, Nat.pow_zero, Nat.div_one] at e0 e1 e2 e3
  omega
/-- .. and of no other text -/
theorem sealed_of {f : Nat → Nat} {n v : Nat} (hf : ∀ p, f p < 256) (hv : v < 2 ^ 32) (hb : ∀ k, k < 4 → f (n + k) = by4 v k) (h : cr f (n + 4) = stN 32 F) : v = sum f n := by
  unfold cr at h
  rw [crX_word hv hb] at h
  have := stN_inj 32 (Nat.xor_lt_two_pow (crX_lt (by decide) hf n) hv) (by decide) h
  show v = crX F f n ^^^ F
  generalize crX F f n = X at this
  rw [← this, ← Nat.xor_assoc, Nat.xor_self, Nat.zero_xor]
/-- unlike ends have unlike sums -/
theorem sum_ends {f g : Nat → Nat} {n a b : Nat} (hf : ∀ p, f p < 256) (he : ∀ p, p < n → f p = g p) (ha : a < 2 ^ 32) (hb : b < 2 ^ 32) (hfa : ∀ k, k < 4 → f (n + k) = by4 a k) (hgb : ∀ k, k < 4 → g (n + k) = by4 b k) (h : sum f (n + 4) = sum g (n + 4)) : a = b := by
  have h' : cr f (n + 4) = cr g (n + 4) := by
    unfold sum at h
    have : cr f (n + 4) ^^^ F ^^^ F = cr g (n + 4) ^^^ F ^^^ F := by rw [h]
    rwa [Nat.xor_assoc, Nat.xor_assoc, Nat.xor_self, Nat.xor_zero, Nat.xor_zero] at this
  unfold cr at h'
  rw [crX_word ha hfa, crX_word hb hgb, ← crX_congr he] at h'
  have hl := crX_lt (a := F) (by decide) hf n
  have := stN_inj 32 (Nat.xor_lt_two_pow hl ha) (Nat.xor_lt_two_pow hl hb) h'
  have h2 : crX F f n ^^^ (crX F f n ^^^ a) = crX F f n ^^^ (crX F f n ^^^ b) := by rw [this]
  rwa [← Nat.xor_assoc, ← Nat.xor_assoc, Nat.xor_self, Nat.zero_xor, Nat.zero_xor] at h2
/-- what is 0 behind the place n changes a state by steps alone -/
theorem crX_tail {a : Nat} {f : Nat → Nat} {n : Nat} (h : ∀ p, n ≤ p → f p = 0) : ∀ m, crX a f (n + m) = stN (8 * m) (crX a f n) := by
  intro m
  induction m with
  | zero => rfl
  | succ m ih =>
    rw [← Nat.add_assoc, crX, h (n + m) (by omega), Nat.xor_zero, ih, show 8 * (m + 1) = 8 * m + 8 by omega, stN_add]
theorem crX_head {f : Nat → Nat} {n : Nat} (h : ∀ p, p < n → f p = 0) : crX 0 f n = 0 := by
  rw [crX_congr (g := fun _ => 0) h]
  have := crX_tail (a := 0) (f := fun _ => 0) (n := 0) (fun _ _ => rfl) n
  rw [Nat.zero_add] at this
  rw [this]
  exact stN_zero _
/-- bits that are turned within four bytes are seen -/
theorem cr_turned {f g : Nat → Nat} {n at' v : Nat} (hv : v < 2 ^ 32) (h0 : v ≠ 0) (hn : at' + 4 ≤ n) (hin : ∀ k, k < 4 → g (at' + k) = f (at' + k) ^^^ by4 v k) (hout : ∀ p, p < at' ∨ at' + 4 ≤ p → g p = f p) : cr g n ≠ cr f n := by
  intro e
  have hx := crX_xor F F g f n
  unfold cr at e
  rw [e, Nat.xor_self, Nat.xor_self] at hx
  have d0 : ∀ p, p < at' → g p ^^^ f p = 0 := fun p hp => by rw [hout p (.inl hp), Nat.xor_self]
  have d1 : ∀ p, at' + 4 ≤ p → g p ^^^ f p = 0 := fun p hp => by rw [hout p (.inr hp), Nat.xor_self]
  have d2 : ∀ k, k < 4 → g (at' + k) ^^^ f (at' + k) = by4 v k := fun k hk => by
    rw [hin k hk, Nat.xor_comm, ← Nat.xor_assoc, Nat.xor_self, Nat.zero_xor]
  have t := crX_tail (a := 0) (f := fun p => g p ^^^ f p) (n := at' + 4) d1 (n - (at' + 4))
  rw [show at' + 4 + (n - (at' + 4)) = n by omega, hx, crX_word hv d2, crX_head d0, Nat.zero_xor] at t
  exact stN_pos _ (stN_lt 32 hv) (stN_pos 32 hv h0) t.symm
/-- bit i of a text -/
def bit (f : Nat → Nat) (i : Nat) : Nat := f (i / 8) / 2 ^ (i % 8) % 2
theorem bit_lt (f : Nat → Nat) (i : Nat) : bit f i < 2 := Nat.mod_lt _ (by decide)
/-- the state behind i bits -/
def crb (f : Nat → Nat) : Nat → Nat
  | 0 => F
  | i + 1 => st (crb f i ^^^ bit f i)
/-- n bits of c, one by one -/
def run : Nat → Nat → Nat → Nat
  | 0, x, _ => x
  | n + 1, x, c => run n (st (x ^^^ c % 2)) (c / 2)
theorem run_eq (n : Nat) : ∀ x c, stN n (x ^^^ c) = run n x c ^^^ c / 2 ^ n := by
  induction n with
  | zero => intro x c; rw [Nat.pow_zero, Nat.div_one]; rfl
  | succ n ih =>
    intro x c
    have e := stN_split 1 x c
    simp only [Nat.pow_one] at e
    rw [stN, show st (x ^^^ c) = st (x ^^^ c % 2) ^^^ c / 2 from e, ih, run, Nat.div_div_eq_div_mul, show 2 * 2 ^ n = 2 ^ (n + 1) by rw [Nat.pow_succ]; omega]
theorem run_byte {x c : Nat} (hc : c < 256) : run 8 x c = stN 8 (x ^^^ c) := by
  rw [run_eq, show c / 2 ^ 8 = 0 by omega, Nat.xor_zero]
theorem crb_part {f : Nat → Nat} {n : Nat} : ∀ j, j ≤ 8 → run (8 - j) (crb f (8 * n + j)) (f n / 2 ^ j) = run 8 (crb f (8 * n)) (f n) := by
  intro j
  induction j with
  | zero => intro _; rw [Nat.pow_zero, Nat.div_one]; rfl
  | succ j ih =>
    intro hj
    rw [← ih (by omega), show 8 - j = (8 - (j + 1)) + 1 by omega, run, ← Nat.add_assoc, crb]
    rw [show bit f (8 * n + j) = f n / 2 ^ j % 2 by unfold bit; rw [show (8 * n + j) / 8 = n by omega, show (8 * n + j) % 8 = j by omega]]
    rw [Nat.div_div_eq_div_mul, Nat.pow_succ]
/-- bit by bit or byte by byte -/
theorem crb_bytes {f : Nat → Nat} (hf : ∀ p, f p < 256) : ∀ n, crb f (8 * n) = cr f n := by
  intro n
  induction n with
  | zero => rfl
  | succ n ih =>
    have := crb_part (f := f) (n := n) 8 (by omega)
    rw [run_byte (hf n), ih] at this
    exact this
theorem crb_lt (f : Nat → Nat) : ∀ i, crb f i < 2 ^ 32 := by
  intro i
  induction i with
  | zero => exact (by decide : F < 2 ^ 32)
  | succ i ih => exact st_lt (Nat.xor_lt_two_pow ih (Nat.lt_of_lt_of_le (Nat.mod_lt _ (by decide)) (by decide)))
theorem st_bit {x b : Nat} (hb : b < 2) : st (x ^^^ b) = x / 2 ^^^ (if x % 2 ^^^ b = 1 then P else 0) := by
  have e : (x ^^^ b) % 2 = 1 ↔ x % 2 ^^^ b = 1 := by
    rw [xor_mod2]
    rcases Nat.mod_two_eq_zero_or_one x with a | a <;> rcases (show b = 0 ∨ b = 1 by omega) with c | c <;> rw [a, c] <;> decide
  unfold st
  rw [xor_div2, show b / 2 = 0 by omega, Nat.xor_zero]
  by_cases h : x % 2 ^^^ b = 1
  · rw [if_pos h, if_pos (e.2 h)]
  · rw [if_neg h, if_neg (fun h' => h (e.1 h'))]
theorem check9 : sum (fun p => 49 + p) 9 = 0xE3069283 := by decide +kernel
end Go.Proofs.YtonhmihmnkicdaaGreat.Cr
