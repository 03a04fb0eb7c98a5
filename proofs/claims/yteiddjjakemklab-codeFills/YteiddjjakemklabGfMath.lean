/- Plain mathematics of the 255 powers of 2 modulo 0x11D: no program is named here. -/
namespace Go.Proofs.Yteiddjjakemklab.Gf
def PN : Nat := 70160881166704368827218703435136616750530459438269794890424969378298545675077208731798828898087927652446353395360628748027273188182808436399538186061104243134188885576122562338679313492324190829158544377810568631194580132524405266702234305646236648896994794467054525044798919765581988418950285252905306116225263236585714808161311289784028762024137133735135393922581566890382566480334369299400480864790538739986285574563168380416343369614948461817839620668187777978661530364712890858126432457562886306102556561631759900551331094983229723298224611133722330829711659991602983068895685602467964643306841827719562658305
def LN : Nat := 22135253156888987530748098150270024343632497605293634117281264061560962248099620766229961468867162294233796152347975563017024165690400661622462404646302566225833645086064538892198543335321514950294300187779610338557442029018619797274438901674641748676613670242915365385819254959901651105240253464034662486586186382979728982817772067067513442677601938078891989292316012868233806586592927239821351197800766822366321181463280924672822998103315976779850880337712374790938628529953751181886374687897611504386983350015558142994211516619836411558782076806704747441947939324473761869443721989389604670425385080942269787340800
/-- the n-th power (n below 255), out of one number that holds all of them -/
def pw (n : Nat) : Nat := (PN >>> (8 * n)) % 256
/-- which power x is -/
def lg (x : Nat) : Nat := (LN >>> (8 * x)) % 256
def dbl (x : Nat) : Nat := if 255 < x * 2 then (x * 2) ^^^ 285 else x * 2
def allN : Nat → (Nat → Bool) → Bool
  | 0, _ => true
  | n + 1, f => f n && allN n f
theorem allN_spec {n : Nat} {f : Nat → Bool} (h : allN n f = true) : ∀ i, i < n → f i = true := by
  induction n with
  | zero => intro i hi; omega
  | succ n ih =>
    simp only [allN, Bool.and_eq_true] at h
    intro i hi
    by_cases e : i = n
    · subst e; exact h.1
    · exact ih h.2 i (by omega)
theorem pw_b : allN 255 (fun n => decide (0 < pw n) && decide (pw n < 256) && lg (pw n) == n) = true := by decide +kernel
theorem lg_b : allN 256 (fun x => x == 0 || (decide (lg x < 255) && pw (lg x) == x)) = true := by decide +kernel
theorem dbl_b : allN 254 (fun n => dbl (pw n) == pw (n + 1)) = true := by decide +kernel
theorem pw_pos {n : Nat} (h : n < 255) : 0 < pw n := by have := allN_spec pw_b n h; simp at this; exact this.1.1
theorem pw_lt {n : Nat} (h : n < 255) : pw n < 256 := by have := allN_spec pw_b n h; simp at this; exact this.1.2
theorem lg_pw {n : Nat} (h : n < 255) : lg (pw n) = n := by have := allN_spec pw_b n h; simp at this; exact this.2
theorem lg_lt {x : Nat} (h0 : 0 < x) (h : x < 256) : lg x < 255 := by have := allN_spec lg_b x h; simp at this; rcases this with h' | h' <;> omega
theorem pw_lg {x : Nat} (h0 : 0 < x) (h : x < 256) : pw (lg x) = x := by have := allN_spec lg_b x h; simp at this; rcases this with h' | h' <;> omega
theorem pw_lt_any (n : Nat) : pw n < 256 := Nat.mod_lt _ (by decide)
theorem lg_lt_any (n : Nat) : lg n < 256 := Nat.mod_lt _ (by decide)
theorem lg_zero : lg 0 = 0 := by decide +kernel
theorem pw_zero : pw 0 = 1 := by decide +kernel
theorem dbl_pw {n : Nat} (h : n < 254) : dbl (pw n) = pw (n + 1) := by have := allN_spec dbl_b n h; simpa using this
theorem dbl_last : dbl (pw 254) = 1 := by decide +kernel
/-- any power: n modulo 255 -/
def pwI (n : Int) : Nat := pw (n % 255).toNat
theorem pwI_lt (n : Int) : pwI n < 256 := pw_lt_any _
theorem pwI_pos (n : Int) : 0 < pwI n := pw_pos (by omega)
theorem lg_pwI (n : Int) : (lg (pwI n) : Int) = n % 255 := by unfold pwI; rw [lg_pw (by omega)]; omega
theorem pwI_lg {x : Nat} (h0 : 0 < x) (h : x < 256) : pwI (lg x) = x := by
  have := lg_lt h0 h; unfold pwI
  rw [show (((lg x : Nat) : Int) % 255).toNat = lg x from by omega]; exact pw_lg h0 h
theorem pwI_congr {a b : Int} (h : a % 255 = b % 255) : pwI a = pwI b := by unfold pwI; rw [h]
theorem pwI_inj {a b : Int} (h : pwI a = pwI b) : a % 255 = b % 255 := by rw [← lg_pwI, ← lg_pwI, h]
def mul (a b : Nat) : Nat := if a = 0 then 0 else if b = 0 then 0 else pwI ((lg a : Int) + (lg b : Int))
def over (a b : Nat) : Nat := if a = 0 then 0 else pwI ((lg a : Int) - (lg b : Int))
theorem mul_lt (a b : Nat) : mul a b < 256 := by
  unfold mul; split
  · omega
  · split
    · omega
    · exact pwI_lt _
theorem over_lt (a b : Nat) : over a b < 256 := by
  unfold over; split
  · omega
  · exact pwI_lt _
theorem mul_pos {a b : Nat} (ha : 0 < a) (hb : 0 < b) : 0 < mul a b := by
  unfold mul; rw [if_neg (by omega), if_neg (by omega)]; exact pwI_pos _
theorem mul_zero (a : Nat) : mul a 0 = 0 := by unfold mul; split <;> rfl
theorem zero_mul (a : Nat) : mul 0 a = 0 := by unfold mul; rfl
theorem mul_of {a b : Nat} (ha : 0 < a) (hb : 0 < b) : mul a b = pwI ((lg a : Int) + (lg b : Int)) := by
  unfold mul; rw [if_neg (by omega), if_neg (by omega)]
theorem lg_mul {a b : Nat} (ha : 0 < a) (hb : 0 < b) : (lg (mul a b) : Int) = ((lg a : Int) + (lg b : Int)) % 255 := by
  rw [mul_of ha hb, lg_pwI]
theorem mul_comm (a b : Nat) : mul a b = mul b a := by
  rcases Nat.eq_zero_or_pos a with ha | ha
  · subst ha; rw [mul_zero, zero_mul]
  rcases Nat.eq_zero_or_pos b with hb | hb
  · subst hb; rw [mul_zero, zero_mul]
  rw [mul_of ha hb, mul_of hb ha, Int.add_comm]
theorem mul_assoc (a b c : Nat) : mul (mul a b) c = mul a (mul b c) := by
  rcases Nat.eq_zero_or_pos a with ha | ha
  · subst ha; simp [zero_mul]
  rcases Nat.eq_zero_or_pos b with hb | hb
  · subst hb; simp [zero_mul, mul_zero]
  rcases Nat.eq_zero_or_pos c with hc | hc
  · subst hc; simp [mul_zero]
  rw [mul_of (mul_pos ha hb) hc, mul_of ha (mul_pos hb hc), lg_mul ha hb, lg_mul hb hc]
  exact pwI_congr (by omega)
theorem mul_one {a : Nat} (h : a < 256) : mul a 1 = a := by
  rcases Nat.eq_zero_or_pos a with ha | ha
  · subst ha; simp [zero_mul]
  rw [mul_of ha (by omega), show lg 1 = 0 from by decide +kernel]; simpa using pwI_lg ha h
theorem one_mul {a : Nat} (h : a < 256) : mul 1 a = a := by rw [mul_comm, mul_one h]
theorem mul_two_b : allN 256 (fun x => mul 2 x == dbl x) = true := by decide +kernel
theorem mul_two {x : Nat} (h : x < 256) : mul 2 x = dbl x := by simpa using allN_spec mul_two_b x h
theorem over_mul {a b : Nat} (ha : a < 256) (hb : 0 < b) : over (mul a b) b = a := by
  rcases Nat.eq_zero_or_pos a with h | h
  · subst h; simp [zero_mul, over]
  · unfold over; rw [if_neg (by have := mul_pos h hb; omega), lg_mul h hb]
    refine Eq.trans (pwI_congr ?_) (pwI_lg h ha); omega
theorem mul_over {a b : Nat} (ha : a < 256) (hb : 0 < b) : mul (over a b) b = a := by
  rcases Nat.eq_zero_or_pos a with h | h
  · subst h; simp [zero_mul, over]
  · have : over a b = pwI ((lg a : Int) - (lg b : Int)) := by unfold over; rw [if_neg (by omega)]
    rw [this, mul_of (pwI_pos _) hb, lg_pwI]
    refine Eq.trans (pwI_congr ?_) (pwI_lg h ha); omega
theorem over_unique {a b x : Nat} (hx : x < 256) (hb : 0 < b) (h : mul x b = a) : over a b = x := by
  rw [← h]; exact over_mul hx hb
-- products over sums
theorem bit_xor (x y i : Nat) : ((x ^^^ y) >>> i) % 2 = ((x >>> i) % 2 + (y >>> i) % 2) % 2 := by
  rw [Nat.shiftRight_xor_distrib]
  generalize x >>> i = a; generalize y >>> i = b
  have h := @Nat.xor_mod_two_eq_one a b
  generalize a ^^^ b = c at *
  omega
theorem xor_lt {x y : Nat} (hx : x < 256) (hy : y < 256) : x ^^^ y < 256 := Nat.xor_lt_two_pow (n := 8) hx hy
theorem dbl_form {x : Nat} (h : x < 256) : dbl x = (x <<< 1) ^^^ (if (x >>> 7) % 2 = 1 then 285 else 0) := by
  have e : x <<< 1 = x * 2 := by rw [Nat.shiftLeft_eq]
  have e7 : x >>> 7 = x / 128 := by rw [Nat.shiftRight_eq_div_pow]
  unfold dbl; rw [e, e7]
  by_cases c : 255 < x * 2
  · rw [if_pos c, if_pos (by omega)]
  · rw [if_neg c, if_neg (by omega)]; simp
theorem dbl_lt {x : Nat} (h : x < 256) : dbl x < 256 := by rw [← mul_two h]; exact mul_lt _ _
theorem ite_xor (p q : Nat) (hp : p < 2) (hq : q < 2) (g : Nat) : (if (p + q) % 2 = 1 then g else 0) = (if p = 1 then g else 0) ^^^ (if q = 1 then g else 0) := by
  have : p = 0 ∨ p = 1 := by omega
  have : q = 0 ∨ q = 1 := by omega
  rcases ‹p = 0 ∨ p = 1› with rfl | rfl <;> rcases ‹q = 0 ∨ q = 1› with rfl | rfl <;> simp
theorem xor4 (a b c d : Nat) : (a ^^^ b) ^^^ (c ^^^ d) = (a ^^^ c) ^^^ (b ^^^ d) := by
  rw [Nat.xor_assoc, ← Nat.xor_assoc b, Nat.xor_comm b c, Nat.xor_assoc c, ← Nat.xor_assoc a]
theorem dbl_xor {x y : Nat} (hx : x < 256) (hy : y < 256) : dbl (x ^^^ y) = dbl x ^^^ dbl y := by
  rw [dbl_form (xor_lt hx hy), dbl_form hx, dbl_form hy, bit_xor, ite_xor _ _ (Nat.mod_lt _ (by decide)) (Nat.mod_lt _ (by decide)), Nat.shiftLeft_xor_distrib, xor4]
theorem mul_pw_succ {n : Nat} (h : n < 254) {x : Nat} : mul (pw (n + 1)) x = dbl (mul (pw n) x) := by
  rw [← dbl_pw h, ← mul_two (pw_lt (by omega)), mul_assoc, mul_two (mul_lt _ _)]
theorem mul_pw_xor : ∀ n, n < 255 → ∀ x y, x < 256 → y < 256 → mul (pw n) (x ^^^ y) = mul (pw n) x ^^^ mul (pw n) y := by
  intro n
  induction n with
  | zero => intro _ x y hx hy; rw [pw_zero, one_mul hx, one_mul hy, one_mul (xor_lt hx hy)]
  | succ n ih =>
    intro h x y hx hy
    rw [mul_pw_succ (by omega), mul_pw_succ (by omega), mul_pw_succ (by omega), ih (by omega) x y hx hy, dbl_xor (mul_lt _ _) (mul_lt _ _)]
theorem mul_xor {a b c : Nat} (ha : a < 256) (hb : b < 256) (hc : c < 256) : mul a (b ^^^ c) = mul a b ^^^ mul a c := by
  rcases Nat.eq_zero_or_pos a with h | h
  · subst h; simp [zero_mul]
  · have := mul_pw_xor (lg a) (lg_lt h ha) b c hb hc
    rwa [pw_lg h ha] at this
theorem xor_mul {a b c : Nat} (ha : a < 256) (hb : b < 256) (hc : c < 256) : mul (b ^^^ c) a = mul b a ^^^ mul c a := by
  rw [mul_comm, mul_xor ha hb hc, mul_comm a b, mul_comm a c]
-- the document's product: as polynomials, then what is beyond is taken away
def refA (a b : Nat) : Nat → Nat
  | 0 => 0
  | i + 1 => if (b >>> i) % 2 = 1 then refA a b i ^^^ (a <<< i) else refA a b i
def refB (p : Nat) : Nat → Nat
  | 0 => p
  | k + 1 => if (refB p k >>> (14 - k)) % 2 = 1 then refB p k ^^^ (285 <<< (6 - k)) else refB p k
def refT (a b : Nat) : Nat := refB (refA a b 8) 7
theorem refA_form (a b i : Nat) : refA a b (i + 1) = refA a b i ^^^ (if (b >>> i) % 2 = 1 then a <<< i else 0) := by
  rw [refA]; split <;> simp
theorem refB_form (p k : Nat) : refB p (k + 1) = refB p k ^^^ (if (refB p k >>> (14 - k)) % 2 = 1 then 285 <<< (6 - k) else 0) := by
  rw [refB]; split <;> simp
theorem refB_xor (p q : Nat) : ∀ k, refB (p ^^^ q) k = refB p k ^^^ refB q k := by
  intro k
  induction k with
  | zero => rfl
  | succ k ih => rw [refB_form, refB_form p, refB_form q, ih, bit_xor, ite_xor _ _ (Nat.mod_lt _ (by decide)) (Nat.mod_lt _ (by decide)), xor4]
theorem refB_zero : ∀ k, refB 0 k = 0 := by
  intro k
  induction k with
  | zero => rfl
  | succ k ih => rw [refB_form, ih]; simp
theorem red_b : allN 256 (fun a => allN 8 (fun i => refB (a <<< i) 7 == mul a (pw i))) = true := by decide +kernel
theorem red {a i : Nat} (ha : a < 256) (hi : i < 8) : refB (a <<< i) 7 = mul a (pw i) := by simpa using allN_spec (allN_spec red_b a ha) i hi
/-- what b's lowest i bits come to -/
def low (b : Nat) : Nat → Nat
  | 0 => 0
  | i + 1 => low b i ^^^ (if (b >>> i) % 2 = 1 then pw i else 0)
theorem low_b : allN 256 (fun b => low b 8 == b) = true := by decide +kernel
theorem low_lt (b : Nat) : ∀ i, low b i < 256 := by
  intro i
  induction i with
  | zero => show 0 < 256; decide
  | succ i ih =>
    rw [low]; refine xor_lt ih ?_; split
    · exact pw_lt_any _
    · decide
theorem refA_low {a : Nat} (ha : a < 256) (b : Nat) : ∀ i, i ≤ 8 → refB (refA a b i) 7 = mul a (low b i) := by
  intro i
  induction i with
  | zero => intro _; rw [show refA a b 0 = 0 from rfl, show low b 0 = 0 from rfl, mul_zero, refB_zero]
  | succ i ih =>
    intro h
    rw [refA_form, refB_xor, ih (by omega), low]
    have hp : (if (b >>> i) % 2 = 1 then pw i else 0) < 256 := by
      split
      · exact pw_lt_any _
      · decide
    rw [mul_xor ha (low_lt _ _) hp]
    congr 1
    split
    · exact red ha (by omega)
    · rw [refB_zero, mul_zero]
theorem refT_eq {a b : Nat} (ha : a < 256) (hb : b < 256) : refT a b = mul a b := by
  unfold refT; rw [refA_low ha b 8 (by omega)]
  have := allN_spec low_b b hb
  rw [show low b 8 = b from by simpa using this]
end Go.Proofs.Yteiddjjakemklab.Gf
