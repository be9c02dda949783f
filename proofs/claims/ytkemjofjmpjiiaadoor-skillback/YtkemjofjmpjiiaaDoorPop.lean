/-
  Plain mathematics for the laws of layer 10 (skill): how many bits a word has, which ones, and how a sum in parallel counts them; no program in it.
-/
import Derived.Lib.TrailingZeros
namespace Go.Proofs.YtkemjofjmpjiiaaDoor

/-- How many of the first n bits are set. -/
def pop : Nat → Nat → Nat
  | 0, _ => 0
  | n + 1, x => x % 2 + pop n (x / 2)
/-- The numbers of the first n bits that are set, from off on, rising. -/
def bitsF : Nat → Nat → Nat → List Nat
  | 0, _, _ => []
  | n + 1, off, x => if x % 2 = 1 then off :: bitsF n (off + 1) (x / 2) else bitsF n (off + 1) (x / 2)

theorem bitsF_succ (n off x : Nat) : bitsF (n + 1) off x = if x % 2 = 1 then off :: bitsF n (off + 1) (x / 2) else bitsF n (off + 1) (x / 2) := rfl
theorem pop_le : ∀ (n x : Nat), pop n x ≤ n
  | 0, _ => Nat.le_refl _
  | n + 1, x => by have := pop_le n (x / 2); unfold pop; omega
theorem bitsF_len : ∀ (n off x : Nat), (bitsF n off x).length = pop n x
  | 0, _, _ => rfl
  | n + 1, off, x => by
    unfold bitsF pop
    have := bitsF_len n (off + 1) (x / 2)
    split
    · simp only [List.length_cons, this]; omega
    · rw [this]; omega
theorem and_div2 (a b : Nat) : (a &&& b) / 2 = a / 2 &&& b / 2 := by
  have := Nat.and_div_two_pow (n := 1) (a := a) (b := b); simpa using this
theorem or_div2 (a b : Nat) : (a ||| b) / 2 = a / 2 ||| b / 2 := by
  have := Nat.or_div_two_pow (n := 1) (a := a) (b := b); simpa using this
theorem and_mod2 (a b : Nat) : (a &&& b) % 2 = a % 2 * (b % 2) := by
  have h := Nat.and_mod_two_pow (n := 1) (a := a) (b := b)
  simp only [Nat.pow_one] at h
  rw [h]
  rcases Nat.mod_two_eq_zero_or_one a with ha | ha <;> rcases Nat.mod_two_eq_zero_or_one b with hb | hb <;> rw [ha, hb] <;> decide
theorem or_mod2 (a b : Nat) : (a ||| b) % 2 + a % 2 * (b % 2) = a % 2 + b % 2 := by
  have h := Nat.or_mod_two_pow (n := 1) (a := a) (b := b)
  simp only [Nat.pow_one] at h
  rw [h]
  rcases Nat.mod_two_eq_zero_or_one a with ha | ha <;> rcases Nat.mod_two_eq_zero_or_one b with hb | hb <;> rw [ha, hb] <;> decide
theorem pop_or_and : ∀ (n a b : Nat), pop n a + pop n b = pop n (a ||| b) + pop n (a &&& b)
  | 0, _, _ => rfl
  | n + 1, a, b => by
    have h := pop_or_and n (a / 2) (b / 2)
    unfold pop
    rw [and_div2, or_div2, and_mod2]
    have := or_mod2 a b
    omega
theorem pop_zero : ∀ n, pop n 0 = 0
  | 0 => rfl
  | n + 1 => by unfold pop; simpa using pop_zero n
theorem pop_bit : ∀ k, k < 62 → pop 64 (2 ^ k) = 1 := by decide +kernel
/-- The lowest bit first, then the others. -/
theorem bitsF_low : ∀ (n off x : Nat), 0 < x → x < 2 ^ n → bitsF n off x = (off + Lib.ctzFrom n x) :: bitsF n off (x &&& (x - 1))
  | 0, _, x, h0, h => by simp at h; omega
  | n + 1, off, x, h0, h => by
    have hm := and_mod2 x (x - 1)
    have hd := and_div2 x (x - 1)
    have e : bitsF (n + 1) off (x &&& (x - 1)) = bitsF n (off + 1) (x / 2 &&& (x - 1) / 2) := by
      conv => lhs; unfold bitsF
      rw [hm, hd]
      rcases Nat.mod_two_eq_zero_or_one x with hx | hx
      · rw [if_neg (by rw [hx]; omega)]
      · have : (x - 1) % 2 = 0 := by omega
        rw [if_neg (by rw [this]; omega)]
    rw [e]
    rw [bitsF_succ]
    unfold Lib.ctzFrom
    by_cases hx : x % 2 = 1
    · rw [if_pos hx, if_pos hx]
      have : (x - 1) / 2 = x / 2 := by omega
      rw [this, Nat.and_self]; rfl
    · rw [if_neg hx, if_neg hx]
      have e2 : (x - 1) / 2 = x / 2 - 1 := by omega
      have hx2 : x / 2 < 2 ^ n := by rw [Nat.pow_succ] at h; omega
      rw [e2, bitsF_low n (off + 1) (x / 2) (by omega) hx2]
      congr 1; omega
theorem bitsF_ctz (x : Nat) (h0 : x ≠ 0) (h : x < 18446744073709551616) : bitsF 64 0 x = Lib.ctz 64 x :: bitsF 64 0 (x &&& (x - 1)) := by
  have := bitsF_low 64 0 x (by omega) h
  rw [this]
  simp [Lib.ctz, h0]
theorem bitsF_zero : ∀ (n off : Nat), bitsF n off 0 = []
  | 0, _ => rfl
  | n + 1, off => by unfold bitsF; simpa using bitsF_zero n (off + 1)
theorem bitsF_mem : ∀ (n off x k : Nat), k ∈ bitsF n off x ↔ off ≤ k ∧ k < off + n ∧ x.testBit (k - off) = true
  | 0, off, x, k => by simp [bitsF]; omega
  | n + 1, off, x, k => by
    have ih := bitsF_mem n (off + 1) (x / 2) k
    have hz : x.testBit 0 = decide (x % 2 = 1) := Nat.testBit_zero x
    unfold bitsF
    by_cases hk : k = off
    · subst hk
      rw [Nat.sub_self, hz]
      split
      · rename_i h; simp [h]
      · rename_i h; rw [ih]; simp [h]; omega
    · have hs : off + 1 ≤ k → x.testBit (k - off) = (x / 2).testBit (k - (off + 1)) := fun hle => by
        rw [show k - off = (k - (off + 1)) + 1 by omega, Nat.testBit_succ]
      have key : (off + 1 ≤ k ∧ k < off + 1 + n ∧ (x / 2).testBit (k - (off + 1)) = true) ↔ (off ≤ k ∧ k < off + (n + 1) ∧ x.testBit (k - off) = true) := by
        constructor
        · rintro ⟨h1, h2, h3⟩; exact ⟨by omega, by omega, by rw [hs h1]; exact h3⟩
        · rintro ⟨h1, h2, h3⟩; have h4 : off + 1 ≤ k := by omega
          exact ⟨h4, by omega, by rw [← hs h4]; exact h3⟩
      split
      · rw [List.mem_cons, ih, key]; simp [hk]
      · rw [ih, key]

/-! Eight bytes at once. -/
def byteSum : Nat → (Nat → Nat) → Nat → Nat
  | 0, _, _ => 0
  | n + 1, f, x => f (x % 256) + 256 * byteSum n f (x / 256)
theorem and_byte (x m k : Nat) (hk : k < 256) : x &&& (256 * m + k) = ((x % 256) &&& k) + 256 * ((x / 256) &&& m) := by
  have h1 := Nat.and_div_two_pow (n := 8) (a := x) (b := 256 * m + k)
  have h2 := Nat.and_mod_two_pow (n := 8) (a := x) (b := 256 * m + k)
  have e1 : (256 * m + k) / 256 = m := by omega
  have e2 : (256 * m + k) % 256 = k := by omega
  simp only [show (2 : Nat) ^ 8 = 256 from rfl, e1, e2] at h1 h2
  omega
def m1 : Nat → Nat
  | 0 => 0
  | n + 1 => 256 * m1 n + 85
def m2 : Nat → Nat
  | 0 => 0
  | n + 1 => 256 * m2 n + 51
def m4 : Nat → Nat
  | 0 => 0
  | n + 1 => 256 * m4 n + 15
def s1 (b : Nat) : Nat := (b / 2 &&& 85) + (b &&& 85)
def s2 (b : Nat) : Nat := (b / 4 &&& 51) + (b &&& 51)
def s4 (b : Nat) : Nat := (b / 16 + b) &&& 15
theorem c1 : ∀ b, b < 256 → ∀ c, c < 2 → (b / 2 + 128 * c) &&& 85 = b / 2 &&& 85 := by decide +kernel
theorem c2 : ∀ b, b < 256 → ∀ c, c < 4 → (b / 4 + 64 * c) &&& 51 = b / 4 &&& 51 := by decide +kernel
theorem c4 : ∀ b, b < 120 → ∀ c, c < 16 → (b / 16 + 16 * c + b) % 256 &&& 15 = (b / 16 + b) &&& 15 := by decide +kernel
theorem b1 : ∀ b, b < 256 → s1 b < 256 := by decide +kernel
theorem b2 : ∀ b, b < 256 → s2 (s1 b) < 120 ∧ s2 (s1 b) % 16 < 5 ∧ s2 (s1 b) / 16 < 5 := by decide +kernel
theorem b4 : ∀ b, b < 256 → s4 (s2 (s1 b)) = pop 8 b := by decide +kernel
theorem step1 : ∀ (n x : Nat), (x / 2 &&& m1 n) + (x &&& m1 n) = byteSum n s1 x
  | 0, x => by simp [m1, byteSum]
  | n + 1, x => by
    have ih := step1 n (x / 256)
    unfold m1 byteSum
    rw [and_byte _ _ 85 (by decide), and_byte _ _ 85 (by decide), ← ih]
    have e1 : x / 2 / 256 = x / 256 / 2 := by omega
    have e2 : x / 2 % 256 = x % 256 / 2 + 128 * (x / 256 % 2) := by omega
    rw [e1, e2, c1 _ (by omega) _ (by omega)]
    unfold s1
    omega
theorem step2 : ∀ (n x : Nat), (x / 4 &&& m2 n) + (x &&& m2 n) = byteSum n s2 x
  | 0, x => by simp [m2, byteSum]
  | n + 1, x => by
    have ih := step2 n (x / 256)
    unfold m2 byteSum
    rw [and_byte _ _ 51 (by decide), and_byte _ _ 51 (by decide), ← ih]
    have e1 : x / 4 / 256 = x / 256 / 4 := by omega
    have e2 : x / 4 % 256 = x % 256 / 4 + 64 * (x / 256 % 4) := by omega
    rw [e1, e2, c2 _ (by omega) _ (by omega)]
    unfold s2
    omega
theorem byteSum_bytes (n : Nat) (f : Nat → Nat) (x : Nat) (hf : ∀ b, b < 256 → f b < 256) : byteSum (n + 1) f x % 256 = f (x % 256) ∧ byteSum (n + 1) f x / 256 = byteSum n f (x / 256) := by
  have := hf (x % 256) (by omega)
  have e : byteSum (n + 1) f x = f (x % 256) + 256 * byteSum n f (x / 256) := rfl
  omega
theorem byteSum_two (f g : Nat → Nat) (hf : ∀ b, b < 256 → f b < 256) : ∀ (n x : Nat), byteSum n g (byteSum n f x) = byteSum n (fun b => g (f b)) x
  | 0, _ => rfl
  | n + 1, x => by
    obtain ⟨h1, h2⟩ := byteSum_bytes n f x hf
    conv => lhs; unfold byteSum
    rw [h1, h2, byteSum_two f g hf n (x / 256)]
    rfl
theorem byteSum_congr (f g : Nat → Nat) (h : ∀ b, b < 256 → f b = g b) : ∀ (n x : Nat), byteSum n f x = byteSum n g x
  | 0, _ => rfl
  | n + 1, x => by unfold byteSum; rw [h _ (by omega), byteSum_congr f g h n (x / 256)]
def s21 (b : Nat) : Nat := s2 (s1 b)
theorem low4 : ∀ (n x : Nat), byteSum n s21 x % 16 < 5
  | 0, _ => by simp [byteSum]
  | n + 1, x => by
    obtain ⟨_, h1, _⟩ := b2 (x % 256) (by omega)
    have e : byteSum (n + 1) s21 x = s2 (s1 (x % 256)) + 256 * byteSum n s21 (x / 256) := rfl
    omega
theorem step4 : ∀ (n x : Nat), ((byteSum n s21 x / 16 + byteSum n s21 x) &&& m4 n) = byteSum n (fun b => s4 (s21 b)) x
  | 0, x => by simp [m4, byteSum]
  | n + 1, x => by
    have ih := step4 n (x / 256)
    obtain ⟨h0, h1, h2⟩ := b2 (x % 256) (by omega)
    have hs : s21 (x % 256) = s2 (s1 (x % 256)) := rfl
    conv => rhs; unfold byteSum
    rw [← ih]
    have hm : m4 (n + 1) = 256 * m4 n + 15 := rfl
    rw [hm, and_byte _ _ 15 (by decide)]
    show _ = s4 (s21 (x % 256)) + _
    have hY : byteSum (n + 1) s21 x = s21 (x % 256) + 256 * byteSum n s21 (x / 256) := rfl
    rw [hY, hs]
    generalize s2 (s1 (x % 256)) = y at h0 h1 h2
    have hl := low4 n (x / 256)
    generalize byteSum n s21 (x / 256) = Y at hl
    have e1 : ((y + 256 * Y) / 16 + (y + 256 * Y)) % 256 = (y / 16 + 16 * (Y % 16) + y) % 256 := by omega
    rw [e1, c4 y h0 _ (by omega)]
    have e2 : ((y + 256 * Y) / 16 + (y + 256 * Y)) / 256 = Y / 16 + Y := by omega
    rw [e2]
    rfl
theorem pop_add : ∀ (n m x : Nat), pop (n + m) x = pop n x + pop m (x / 2 ^ n)
  | 0, m, x => by simp [pop]
  | n + 1, m, x => by
    have h := pop_add n m (x / 2)
    rw [Nat.div_div_eq_div_mul, Nat.mul_comm 2, ← Nat.pow_succ] at h
    rw [show n + 1 + m = (n + m) + 1 by omega]
    show x % 2 + pop (n + m) (x / 2) = x % 2 + pop n (x / 2) + _
    rw [h]; simp only [Nat.succ_eq_add_one]; omega
theorem pop_mod : ∀ (n x : Nat), pop n x = pop n (x % 2 ^ n)
  | 0, _ => rfl
  | n + 1, x => by
    have h := pop_mod n (x / 2)
    have h2 := pop_mod n (x % 2 ^ (n + 1) / 2)
    have e : x % 2 ^ (n + 1) % 2 = x % 2 := Nat.mod_mod_of_dvd x ⟨2 ^ n, by rw [Nat.pow_succ]; omega⟩
    have e2 : x % 2 ^ (n + 1) / 2 = x / 2 % 2 ^ n := by rw [Nat.pow_succ, Nat.mul_comm, Nat.mod_mul_right_div_self]
    show x % 2 + pop n (x / 2) = x % 2 ^ (n + 1) % 2 + pop n (x % 2 ^ (n + 1) / 2)
    rw [e, e2, ← h]
/-- The last three sums, and the cut. -/
theorem fold8 (z p0 p1 p2 p3 p4 p5 p6 p7 z1 z2 z3 z4 z5 z6 : Nat) (h0 : p0 ≤ 8) (h1 : p1 ≤ 8) (h2 : p2 ≤ 8) (h3 : p3 ≤ 8) (h4 : p4 ≤ 8) (h5 : p5 ≤ 8) (h6 : p6 ≤ 8) (h7 : p7 ≤ 8)
    (e0 : z = p0 + 256 * z1) (e1 : z1 = p1 + 256 * z2) (e2 : z2 = p2 + 256 * z3) (e3 : z3 = p3 + 256 * z4) (e4 : z4 = p4 + 256 * z5) (e5 : z5 = p5 + 256 * z6) (e6 : z6 = p6 + 256 * p7) :
    z < 18446744073709551616 ∧ z + z / 256 < 18446744073709551616 ∧ (z + z / 256) + (z + z / 256) / 65536 < 18446744073709551616 ∧
    ((z + z / 256) + (z + z / 256) / 65536) + ((z + z / 256) + (z + z / 256) / 65536) / 4294967296 < 9223372036854775808 ∧
    (((z + z / 256) + (z + z / 256) / 65536) + ((z + z / 256) + (z + z / 256) / 65536) / 4294967296) % 128 = p0 + p1 + p2 + p3 + p4 + p5 + p6 + p7 := by
  have b6 : z6 ≤ 2056 := by clear h0; rw [e6]; exact Nat.add_le_add h6 (Nat.mul_le_mul_left 256 h7)
  have b5 : z5 ≤ 526344 := by clear h0; rw [e5]; exact Nat.add_le_add h5 (Nat.mul_le_mul_left 256 b6)
  have b4 : z4 ≤ 134744072 := by clear h0; rw [e4]; exact Nat.add_le_add h4 (Nat.mul_le_mul_left 256 b5)
  have b3 : z3 ≤ 34494482440 := by clear h0; rw [e3]; exact Nat.add_le_add h3 (Nat.mul_le_mul_left 256 b4)
  have b2 : z2 ≤ 8830587504648 := by clear h0; rw [e2]; exact Nat.add_le_add h2 (Nat.mul_le_mul_left 256 b3)
  have b1 : z1 ≤ 2260630401189896 := by clear h0; rw [e1]; exact Nat.add_le_add h1 (Nat.mul_le_mul_left 256 b2)
  have b0 : z ≤ 578721382704613384 := by rw [e0]; exact Nat.add_le_add h0 (Nat.mul_le_mul_left 256 b1)
  have d0 : z / 256 = z1 := by rw [e0, Nat.add_mul_div_left _ _ (by decide), Nat.div_eq_of_lt (by clear e0 e1 e2 e3 e4 e5 e6 b0 b1 b2 b3 b4 b5 b6; omega), Nat.zero_add]
  rw [d0]
  have f0 : z + z1 = ((p0 + p1) + 256 * (p1 + p2)) + 65536 * (z2 + z3) := by clear h0 h1 h2 h3 h4 h5 h6 h7 b0 b1 b2 b3 b4 b5 b6; clear d0; omega
  have g0 : (z + z1) / 65536 = z2 + z3 := by
    rw [f0, Nat.add_mul_div_left _ _ (by decide), Nat.div_eq_of_lt (by clear e0 e1 e2 e3 e4 e5 e6 b0 b1 b2 b3 b4 b5 b6; clear d0 f0; omega), Nat.zero_add]
  rw [g0]
  clear d0 g0
  have k0 : z + z1 + (z2 + z3) = ((p0 + p1 + (p2 + p3)) + 256 * ((p1 + p2 + (p3 + p4)) + 256 * ((p2 + p3 + (p4 + p5)) + 256 * (p3 + p4 + (p5 + p6))))) + 4294967296 * (z4 + z5 + (z6 + p7)) := by clear h0 h1 h2 h3 h4 h5 h6 h7 b0 b1 b2 b3 b4 b5 b6; clear f0; omega
  clear f0
  have k1 : (z + z1 + (z2 + z3)) / 4294967296 = z4 + z5 + (z6 + p7) := by
    rw [k0, Nat.add_mul_div_left _ _ (by decide), Nat.div_eq_of_lt (by clear e0 e1 e2 e3 e4 e5 e6 b0 b1 b2 b3 b4 b5 b6; clear k0; omega), Nat.zero_add]
  rw [k1]
  clear k1 k0
  refine ⟨by clear h0 h1 h2 h3 h4 h5 h6 h7 e0 e1 e2 e3 e4 e5 e6; omega, by clear h0 h1 h2 h3 h4 h5 h6 h7 e0 e1 e2 e3 e4 e5 e6; omega, by clear h0 h1 h2 h3 h4 h5 h6 h7 e0 e1 e2 e3 e4 e5 e6; omega, by clear h0 h1 h2 h3 h4 h5 h6 e0 e1 e2 e3 e4 e5 e6; omega, ?_⟩
  have k2 : z + z1 + (z2 + z3) + (z4 + z5 + (z6 + p7)) = (p0 + p1 + (p2 + p3) + (p4 + p5 + (p6 + p7))) + 128 * (2 * (z1 + z2 + (z3 + z4) + (z5 + z6 + p7))) := by clear h0 h1 h2 h3 h4 h5 h6 h7 b0 b1 b2 b3 b4 b5 b6; omega
  rw [k2, Nat.add_mul_mod_self_left, Nat.mod_eq_of_lt (by clear e0 e1 e2 e3 e4 e5 e6 b0 b1 b2 b3 b4 b5 b6; clear k2; omega)]
  clear k2
  clear e0 e1 e2 e3 e4 e5 e6 b0 b1 b2 b3 b4 b5 b6; omega
end Go.Proofs.YtkemjofjmpjiiaaDoor
