/-
  What the document's Rune does: how many bytes the rune has that begins here; held against the library's decoder.
-/
import Derived.Test.YtpffhckimilppaaDoorBrow
import Derived.Lib.DecodeN
namespace Go.Proofs.YtpffhckimilppaaDoor
open Go.RowKit

theorem ofInt64' (x : Nat) (h : x < 18446744073709551616) : (BitVec.ofInt 64 (x : Int)).toNat = x := by
  rw [BitVec.toNat_ofInt]; omega
theorem wrap_small' (x : Nat) (h : x < 9223372036854775808) : IntKind.i64.wrap (x : Int) = x := by
  unfold IntKind.wrap; simp [IntKind.signed, IntKind.bits]; omega
theorem or_add (i b v : Nat) (hv : v < 2 ^ i) (hs : 2 ^ i * b + v < 9223372036854775808) : bits .or .i64 ((2 ^ i * b : Nat) : Int) (v : Int) = ((2 ^ i * b + v : Nat) : Int) := by
  show IntKind.i64.wrap ((BitVec.ofInt 64 ((2 ^ i * b : Nat) : Int) ||| BitVec.ofInt 64 (v : Int)).toNat : Int) = _
  rw [BitVec.toNat_or, ofInt64' _ (by omega), ofInt64' _ (by omega), ← Nat.two_pow_add_eq_or_of_lt hv b]
  exact wrap_small' _ hs
/-- What is reckoned of the bytes behind the first. -/
def accX (bs : Nat → Nat) (x0 : Nat) : Nat → Nat
  | 0 => x0
  | k + 1 => accX bs x0 k * 64 + bs (k + 1) % 64
def conts (bs : Nat → Nat) (k : Nat) : Prop := ∀ j, 1 ≤ j → j < k → bs j / 64 = 2
theorem accX_lt (bs : Nat → Nat) (x0 : Nat) : ∀ k, accX bs x0 k < (x0 + 1) * 64 ^ k
  | 0 => by simp [accX]
  | k + 1 => by
    have := accX_lt bs x0 k
    rw [Nat.pow_succ, ← Nat.mul_assoc]
    simp only [accX]
    omega
/-- What Rune answers behind the first byte. -/
def tailM (bs : Nat → Nat) (n least x0 : Nat) : Nat :=
  if bs 1 / 64 = 2 ∧ (2 < n → bs 2 / 64 = 2) ∧ (3 < n → bs 3 / 64 = 2) ∧ ¬ (accX bs x0 (n - 1) < least ∨ 1114111 < accX bs x0 (n - 1) ∨ (55296 ≤ accX bs x0 (n - 1) ∧ accX bs x0 (n - 1) < 57344)) then n else 0
def runeM (N : Nat) (bs : Nat → Nat) : Nat :=
  if bs 0 < 128 then 1
  else if 194 ≤ bs 0 ∧ bs 0 < 224 then (if N < 2 then 0 else tailM bs 2 128 (bs 0 % 32))
  else if 224 ≤ bs 0 ∧ bs 0 < 240 then (if N < 3 then 0 else tailM bs 3 2048 (bs 0 % 16))
  else if 240 ≤ bs 0 ∧ bs 0 < 245 then (if N < 4 then 0 else tailM bs 4 65536 (bs 0 % 8))
  else 0
theorem and_u8 (x m k : Nat) (hx : x < 256) (hm : m < 256) (hk : x &&& m = k) : bits .and .u8 (x : Int) (m : Int) = (k : Int) := by
  have hof : ∀ y : Nat, y < 256 → (BitVec.ofInt 8 (y : Int)).toNat = y := fun y hy => by rw [BitVec.toNat_ofInt]; omega
  show IntKind.u8.wrap ((BitVec.ofInt 8 (x : Int) &&& BitVec.ofInt 8 (m : Int)).toNat : Int) = _
  rw [BitVec.toNat_and, hof x hx, hof m hm, hk]
  have : k ≤ x := by rw [← hk]; exact Nat.and_le_left
  unfold IntKind.wrap; simp [IntKind.signed, IntKind.bits]; omega
theorem and_i64 (x m k : Nat) (hx : x < 256) (hm : m < 256) (hk : x &&& m = k) : bits .and .i64 (x : Int) (m : Int) = (k : Int) := by
  show IntKind.i64.wrap ((BitVec.ofInt 64 (x : Int) &&& BitVec.ofInt 64 (m : Int)).toNat : Int) = _
  rw [BitVec.toNat_and, ofInt64' x (by omega), ofInt64' m (by omega), hk]
  have : k ≤ x := by rw [← hk]; exact Nat.and_le_left
  exact wrap_small' _ (by omega)
theorem m63 (x : Nat) : x &&& 63 = x % 64 := Nat.and_two_pow_sub_one_eq_mod x 6
theorem m31 (x : Nat) : x &&& 31 = x % 32 := Nat.and_two_pow_sub_one_eq_mod x 5
theorem m15 (x : Nat) : x &&& 15 = x % 16 := Nat.and_two_pow_sub_one_eq_mod x 4
theorem m7 (x : Nat) : x &&& 7 = x % 8 := Nat.and_two_pow_sub_one_eq_mod x 3

theorem tail_cont {bs : Nat → Nat} {n least x0 k : Nat} (hn : n ≤ 4) (h1 : 1 ≤ k) (h2 : k < n) (hk : bs k / 64 ≠ 2) : tailM bs n least x0 = 0 := by
  unfold tailM
  rw [if_neg]
  rintro ⟨a, b, c, _⟩
  have : k = 1 ∨ k = 2 ∨ k = 3 := by omega
  rcases this with rfl | rfl | rfl
  · exact hk a
  · exact hk (b h2)
  · exact hk (c h2)
theorem tail_end {bs : Nat → Nat} {n least x0 X : Nat} (hn : 2 ≤ n ∧ n ≤ 4) (hc : conts bs n) (hX : accX bs x0 (n - 1) = X) :
    ((X < least ∨ 1114111 < X ∨ (55296 ≤ X ∧ X < 57344)) → tailM bs n least x0 = 0) ∧ (¬ (X < least ∨ 1114111 < X ∨ (55296 ≤ X ∧ X < 57344)) → tailM bs n least x0 = n) := by
  unfold tailM
  rw [hX]
  refine ⟨fun h => if_neg (fun g => g.2.2.2 h), fun h => if_pos ⟨hc 1 (by omega) (by omega), fun h2 => hc 2 (by omega) h2, fun h3 => hc 3 (by omega) h3, h⟩⟩
set_option maxRecDepth 100000 in
set_option maxHeartbeats 1600000 in
theorem rune_two (z : Addr) (N cap : Nat) (bs : Nat → Nat) (w : World) (hc : ∀ j, j < N → w.cell? (z.add j) = some (.int .u8 (bs j))) (hb : ∀ j, bs j < 256) (hN : 2 ≤ N) (hN2 : N ≤ 9223372036854775807) (c1 : 194 ≤ bs 0) (c2 : bs 0 < 224) :
    Calls Tryd.prog 31 #[.slice (some z) N cap] w fun e w' => e = .returned (.int .i64 (tailM bs 2 128 (bs 0 % 32))) ∧ w' = w := by
  have e0 := hc 0 (by omega)
  rw [show z.add 0 = z from rfl] at e0
  have b0 := hb 0
  obtain ⟨c, hcc⟩ : ∃ c, bs 0 = c := ⟨_, rfl⟩
  rw [hcc] at e0 b0 c1 c2 ⊢
  have k1 : ¬ (c : Int) < 128 := by omega
  have k2 : (194 : Int) ≤ (c : Int) := by omega
  have k3 : (c : Int) < 224 := by omega
  have a1 : bits .and .i64 (c : Int) 31 = ((c % 32 : Nat) : Int) := and_i64 c 31 _ b0 (by decide) (m31 c)
  obtain ⟨x0, hx0⟩ : ∃ x0, c % 32 = x0 := ⟨_, rfl⟩
  rw [hx0] at a1 ⊢
  have hx1 : x0 < 32 := by omega
  have i0 : (0 : Int) < (N : Int) := by omega
  have i2 : ¬ (N : Int) < 2 := by omega
  have HC := hide hc
  clear hc hx0 hcc
  go_enter Tryd.func31, Tryd.ntmps31
  go_wp2
  go_loop [6, 7] (fun x i => ∃ k : Nat, i = .int .i64 k ∧ 1 ≤ k ∧ k ≤ 2 ∧ x = .int .i64 (accX bs x0 (k - 1)) ∧ conts bs k) (fun _ i => 2 - (intOf i).toNat)
  case atStart => exact ⟨1, rfl, by omega, by omega, rfl, fun j h1 h2 => by omega⟩
  case round =>
    obtain ⟨k, rfl, hk1, hk2, rfl, hco⟩ := hrel
    have HCo := hide hco
    clear hco
    have hX := accX_lt bs x0 (k - 1)
    have hXb : accX bs x0 (k - 1) < 16777216 := by
      have : (x0 + 1) * 64 ^ (k - 1) ≤ 32 * 64 ^ 3 := Nat.mul_le_mul (by omega) (Nat.pow_le_pow_right (by decide) (by omega))
      omega
    clear hX
    by_cases hlt : k < 2
    · have ek := HC.out k (by omega)
      have bk := hb k
      have HS : Hid (accX bs x0 k = accX bs x0 (k - 1) * 64 + bs k % 64) := by
        show _ = _
        obtain ⟨m, rfl⟩ : ∃ m, k = m + 1 := ⟨k - 1, by omega⟩
        rfl
      obtain ⟨d, hd⟩ : ∃ d, bs k = d := ⟨_, rfl⟩
      rw [hd] at ek bk HS
      have a2 : bits .and .u8 (d : Int) 63 = ((d % 64 : Nat) : Int) := and_u8 d 63 _ bk (by decide) (m63 d)
      obtain ⟨X, hXe⟩ : ∃ X, accX bs x0 (k - 1) = X := ⟨_, rfl⟩
      rw [hXe] at HS hXb ⊢
      have i3 : (k : Int) < (N : Int) := by omega
      by_cases hd2 : d / 64 = 2
      · have o1 : bits .or .i64 ((X : Int) * 64) ((d : Int) % 64) = (X : Int) * 64 + (d : Int) % 64 := by
          have := or_add 6 X (d % 64) (by omega) (by omega)
          rw [show ((2 ^ 6 * X : Nat) : Int) = (X : Int) * 64 by omega, show ((d % 64 : Nat) : Int) = (d : Int) % 64 by omega] at this
          rw [this]; omega
        have g1 : ((d : Int) / 64 != 2) = false := by simp only [bne_eq_false_iff_eq]; omega
        have HCo2 : Hid (conts bs (k + 1)) := fun j h1 h2 => by
          by_cases e : j = k
          · subst e; rw [hd]; exact hd2
          · exact HCo.out j h1 (by omega)
        clear hd hXe
        go_wp2
        go_round
        case rel => exact ⟨k + 1, by go_num, by omega, by omega, by rw [show k + 1 - 1 = k by omega, HS.out]; congr 1, HCo2.out⟩
        case measure => simp [intOf]; omega
      · have g1 : ((d : Int) / 64 != 2) = true := by simp only [bne_iff_ne, ne_eq]; omega
        have HR : Hid (tailM bs 2 128 x0 = 0) := tail_cont (by omega) hk1 hlt (by rw [hd]; exact hd2)
        clear hd hXe
        go_wp2
        go_ret
        exact ⟨by rw [HR.out]; rfl, rfl⟩
    · obtain rfl : k = 2 := by omega
      obtain ⟨X, hXe⟩ : ∃ X, accX bs x0 (2 - 1) = X := ⟨_, rfl⟩
      rw [hXe] at hXb ⊢
      have HT := tail_end (n := 2) (least := 128) (by omega) HCo.out hXe
      have hcs : X < 128 ∨ (¬ X < 128 ∧ 1114111 < X) ∨ (¬ X < 128 ∧ ¬ 1114111 < X ∧ 55296 ≤ X ∧ X < 57344) ∨ (¬ X < 128 ∧ ¬ 1114111 < X ∧ ¬ 55296 ≤ X) ∨ (¬ X < 128 ∧ ¬ 1114111 < X ∧ 55296 ≤ X ∧ ¬ X < 57344) := by omega
      clear hXe hlt
      rcases hcs with h1 | ⟨h1, h2⟩ | ⟨h1, h2, h3, h4⟩ | ⟨h1, h2, h3⟩ | ⟨h1, h2, h3, h4⟩
      · have HR := hide (HT.1 (.inl h1))
        have r1 : (X : Int) < 128 := by omega
        clear HT h1
        go_wp2
        go_ret
        exact ⟨by rw [HR.out]; rfl, rfl⟩
      · have HR := hide (HT.1 (.inr (.inl h2)))
        have r1 : ¬ (X : Int) < 128 := by omega
        have r2 : (1114111 : Int) < (X : Int) := by omega
        clear HT h1 h2
        go_wp2
        go_ret
        exact ⟨by rw [HR.out]; rfl, rfl⟩
      · have HR := hide (HT.1 (.inr (.inr ⟨h3, h4⟩)))
        have r1 : ¬ (X : Int) < 128 := by omega
        have r2 : ¬ (1114111 : Int) < (X : Int) := by omega
        have r3 : (55296 : Int) ≤ (X : Int) := by omega
        have r4 : (X : Int) < 57344 := by omega
        clear HT h1 h2 h3 h4
        go_wp2
        go_ret
        exact ⟨by rw [HR.out]; rfl, rfl⟩
      · have HR := hide (HT.2 (by omega))
        have r1 : ¬ (X : Int) < 128 := by omega
        have r2 : ¬ (1114111 : Int) < (X : Int) := by omega
        have r3 : ¬ (55296 : Int) ≤ (X : Int) := by omega
        clear HT h1 h2 h3
        go_wp2
        go_ret
        exact ⟨by rw [HR.out]; rfl, rfl⟩
      · have HR := hide (HT.2 (by omega))
        have r1 : ¬ (X : Int) < 128 := by omega
        have r2 : ¬ (1114111 : Int) < (X : Int) := by omega
        have r3 : (55296 : Int) ≤ (X : Int) := by omega
        have r4 : ¬ (X : Int) < 57344 := by omega
        clear HT h1 h2 h3 h4
        go_wp2
        go_ret
        exact ⟨by rw [HR.out]; rfl, rfl⟩
set_option maxRecDepth 100000 in
set_option maxHeartbeats 1600000 in
theorem rune_three (z : Addr) (N cap : Nat) (bs : Nat → Nat) (w : World) (hc : ∀ j, j < N → w.cell? (z.add j) = some (.int .u8 (bs j))) (hb : ∀ j, bs j < 256) (hN : 3 ≤ N) (hN2 : N ≤ 9223372036854775807) (c1 : 224 ≤ bs 0) (c2 : bs 0 < 240) :
    Calls Tryd.prog 31 #[.slice (some z) N cap] w fun e w' => e = .returned (.int .i64 (tailM bs 3 2048 (bs 0 % 16))) ∧ w' = w := by
  have e0 := hc 0 (by omega)
  rw [show z.add 0 = z from rfl] at e0
  have b0 := hb 0
  obtain ⟨c, hcc⟩ : ∃ c, bs 0 = c := ⟨_, rfl⟩
  rw [hcc] at e0 b0 c1 c2 ⊢
  have k1 : ¬ (c : Int) < 128 := by omega
  have k2 : (194 : Int) ≤ (c : Int) := by omega
  have k3 : ¬ (c : Int) < 224 := by omega
  have k4 : (224 : Int) ≤ (c : Int) := by omega
  have k5 : (c : Int) < 240 := by omega
  have a1 : bits .and .i64 (c : Int) 15 = ((c % 16 : Nat) : Int) := and_i64 c 15 _ b0 (by decide) (m15 c)
  obtain ⟨x0, hx0⟩ : ∃ x0, c % 16 = x0 := ⟨_, rfl⟩
  rw [hx0] at a1 ⊢
  have hx1 : x0 < 16 := by omega
  have i0 : (0 : Int) < (N : Int) := by omega
  have i2 : ¬ (N : Int) < 3 := by omega
  have HC := hide hc
  clear hc hx0 hcc
  go_enter Tryd.func31, Tryd.ntmps31
  go_wp2
  go_loop [6, 7] (fun x i => ∃ k : Nat, i = .int .i64 k ∧ 1 ≤ k ∧ k ≤ 3 ∧ x = .int .i64 (accX bs x0 (k - 1)) ∧ conts bs k) (fun _ i => 3 - (intOf i).toNat)
  case atStart => exact ⟨1, rfl, by omega, by omega, rfl, fun j h1 h2 => by omega⟩
  case round =>
    obtain ⟨k, rfl, hk1, hk2, rfl, hco⟩ := hrel
    have HCo := hide hco
    clear hco
    have hX := accX_lt bs x0 (k - 1)
    have hXb : accX bs x0 (k - 1) < 16777216 := by
      have : (x0 + 1) * 64 ^ (k - 1) ≤ 16 * 64 ^ 3 := Nat.mul_le_mul (by omega) (Nat.pow_le_pow_right (by decide) (by omega))
      omega
    clear hX
    by_cases hlt : k < 3
    · have ek := HC.out k (by omega)
      have bk := hb k
      have HS : Hid (accX bs x0 k = accX bs x0 (k - 1) * 64 + bs k % 64) := by
        show _ = _
        obtain ⟨m, rfl⟩ : ∃ m, k = m + 1 := ⟨k - 1, by omega⟩
        rfl
      obtain ⟨d, hd⟩ : ∃ d, bs k = d := ⟨_, rfl⟩
      rw [hd] at ek bk HS
      have a2 : bits .and .u8 (d : Int) 63 = ((d % 64 : Nat) : Int) := and_u8 d 63 _ bk (by decide) (m63 d)
      obtain ⟨X, hXe⟩ : ∃ X, accX bs x0 (k - 1) = X := ⟨_, rfl⟩
      rw [hXe] at HS hXb ⊢
      have i3 : (k : Int) < (N : Int) := by omega
      by_cases hd2 : d / 64 = 2
      · have o1 : bits .or .i64 ((X : Int) * 64) ((d : Int) % 64) = (X : Int) * 64 + (d : Int) % 64 := by
          have := or_add 6 X (d % 64) (by omega) (by omega)
          rw [show ((2 ^ 6 * X : Nat) : Int) = (X : Int) * 64 by omega, show ((d % 64 : Nat) : Int) = (d : Int) % 64 by omega] at this
          rw [this]; omega
        have g1 : ((d : Int) / 64 != 2) = false := by simp only [bne_eq_false_iff_eq]; omega
        have HCo2 : Hid (conts bs (k + 1)) := fun j h1 h2 => by
          by_cases e : j = k
          · subst e; rw [hd]; exact hd2
          · exact HCo.out j h1 (by omega)
        clear hd hXe
        go_wp2
        go_round
        case rel => exact ⟨k + 1, by go_num, by omega, by omega, by rw [show k + 1 - 1 = k by omega, HS.out]; congr 1, HCo2.out⟩
        case measure => simp [intOf]; omega
      · have g1 : ((d : Int) / 64 != 2) = true := by simp only [bne_iff_ne, ne_eq]; omega
        have HR : Hid (tailM bs 3 2048 x0 = 0) := tail_cont (by omega) hk1 hlt (by rw [hd]; exact hd2)
        clear hd hXe
        go_wp2
        go_ret
        exact ⟨by rw [HR.out]; rfl, rfl⟩
    · obtain rfl : k = 3 := by omega
      obtain ⟨X, hXe⟩ : ∃ X, accX bs x0 (3 - 1) = X := ⟨_, rfl⟩
      rw [hXe] at hXb ⊢
      have HT := tail_end (n := 3) (least := 2048) (by omega) HCo.out hXe
      have hcs : X < 2048 ∨ (¬ X < 2048 ∧ 1114111 < X) ∨ (¬ X < 2048 ∧ ¬ 1114111 < X ∧ 55296 ≤ X ∧ X < 57344) ∨ (¬ X < 2048 ∧ ¬ 1114111 < X ∧ ¬ 55296 ≤ X) ∨ (¬ X < 2048 ∧ ¬ 1114111 < X ∧ 55296 ≤ X ∧ ¬ X < 57344) := by omega
      clear hXe hlt
      rcases hcs with h1 | ⟨h1, h2⟩ | ⟨h1, h2, h3, h4⟩ | ⟨h1, h2, h3⟩ | ⟨h1, h2, h3, h4⟩
      · have HR := hide (HT.1 (.inl h1))
        have r1 : (X : Int) < 2048 := by omega
        clear HT h1
        go_wp2
        go_ret
        exact ⟨by rw [HR.out]; rfl, rfl⟩
      · have HR := hide (HT.1 (.inr (.inl h2)))
        have r1 : ¬ (X : Int) < 2048 := by omega
        have r2 : (1114111 : Int) < (X : Int) := by omega
        clear HT h1 h2
        go_wp2
        go_ret
        exact ⟨by rw [HR.out]; rfl, rfl⟩
      · have HR := hide (HT.1 (.inr (.inr ⟨h3, h4⟩)))
        have r1 : ¬ (X : Int) < 2048 := by omega
        have r2 : ¬ (1114111 : Int) < (X : Int) := by omega
        have r3 : (55296 : Int) ≤ (X : Int) := by omega
        have r4 : (X : Int) < 57344 := by omega
        clear HT h1 h2 h3 h4
        go_wp2
        go_ret
        exact ⟨by rw [HR.out]; rfl, rfl⟩
      · have HR := hide (HT.2 (by omega))
        have r1 : ¬ (X : Int) < 2048 := by omega
        have r2 : ¬ (1114111 : Int) < (X : Int) := by omega
        have r3 : ¬ (55296 : Int) ≤ (X : Int) := by omega
        clear HT h1 h2 h3
        go_wp2
        go_ret
        exact ⟨by rw [HR.out]; rfl, rfl⟩
      · have HR := hide (HT.2 (by omega))
        have r1 : ¬ (X : Int) < 2048 := by omega
        have r2 : ¬ (1114111 : Int) < (X : Int) := by omega
        have r3 : (55296 : Int) ≤ (X : Int) := by omega
        have r4 : ¬ (X : Int) < 57344 := by omega
        clear HT h1 h2 h3 h4
        go_wp2
        go_ret
        exact ⟨by rw [HR.out]; rfl, rfl⟩
set_option maxRecDepth 100000 in
set_option maxHeartbeats 1600000 in
theorem rune_four (z : Addr) (N cap : Nat) (bs : Nat → Nat) (w : World) (hc : ∀ j, j < N → w.cell? (z.add j) = some (.int .u8 (bs j))) (hb : ∀ j, bs j < 256) (hN : 4 ≤ N) (hN2 : N ≤ 9223372036854775807) (c1 : 240 ≤ bs 0) (c2 : bs 0 < 245) :
    Calls Tryd.prog 31 #[.slice (some z) N cap] w fun e w' => e = .returned (.int .i64 (tailM bs 4 65536 (bs 0 % 8))) ∧ w' = w := by
  have e0 := hc 0 (by omega)
  rw [show z.add 0 = z from rfl] at e0
  have b0 := hb 0
  obtain ⟨c, hcc⟩ : ∃ c, bs 0 = c := ⟨_, rfl⟩
  rw [hcc] at e0 b0 c1 c2 ⊢
  have k1 : ¬ (c : Int) < 128 := by omega
  have k2 : (194 : Int) ≤ (c : Int) := by omega
  have k3 : ¬ (c : Int) < 224 := by omega
  have k4 : (224 : Int) ≤ (c : Int) := by omega
  have k5 : ¬ (c : Int) < 240 := by omega
  have k6 : (240 : Int) ≤ (c : Int) := by omega
  have k7 : (c : Int) < 245 := by omega
  have a1 : bits .and .i64 (c : Int) 7 = ((c % 8 : Nat) : Int) := and_i64 c 7 _ b0 (by decide) (m7 c)
  obtain ⟨x0, hx0⟩ : ∃ x0, c % 8 = x0 := ⟨_, rfl⟩
  rw [hx0] at a1 ⊢
  have hx1 : x0 < 8 := by omega
  have i0 : (0 : Int) < (N : Int) := by omega
  have i2 : ¬ (N : Int) < 4 := by omega
  have HC := hide hc
  clear hc hx0 hcc
  go_enter Tryd.func31, Tryd.ntmps31
  go_wp2
  go_loop [6, 7] (fun x i => ∃ k : Nat, i = .int .i64 k ∧ 1 ≤ k ∧ k ≤ 4 ∧ x = .int .i64 (accX bs x0 (k - 1)) ∧ conts bs k) (fun _ i => 4 - (intOf i).toNat)
  case atStart => exact ⟨1, rfl, by omega, by omega, rfl, fun j h1 h2 => by omega⟩
  case round =>
    obtain ⟨k, rfl, hk1, hk2, rfl, hco⟩ := hrel
    have HCo := hide hco
    clear hco
    have hX := accX_lt bs x0 (k - 1)
    have hXb : accX bs x0 (k - 1) < 16777216 := by
      have : (x0 + 1) * 64 ^ (k - 1) ≤ 8 * 64 ^ 3 := Nat.mul_le_mul (by omega) (Nat.pow_le_pow_right (by decide) (by omega))
      omega
    clear hX
    by_cases hlt : k < 4
    · have ek := HC.out k (by omega)
      have bk := hb k
      have HS : Hid (accX bs x0 k = accX bs x0 (k - 1) * 64 + bs k % 64) := by
        show _ = _
        obtain ⟨m, rfl⟩ : ∃ m, k = m + 1 := ⟨k - 1, by omega⟩
        rfl
      obtain ⟨d, hd⟩ : ∃ d, bs k = d := ⟨_, rfl⟩
      rw [hd] at ek bk HS
      have a2 : bits .and .u8 (d : Int) 63 = ((d % 64 : Nat) : Int) := and_u8 d 63 _ bk (by decide) (m63 d)
      obtain ⟨X, hXe⟩ : ∃ X, accX bs x0 (k - 1) = X := ⟨_, rfl⟩
      rw [hXe] at HS hXb ⊢
      have i3 : (k : Int) < (N : Int) := by omega
      by_cases hd2 : d / 64 = 2
      · have o1 : bits .or .i64 ((X : Int) * 64) ((d : Int) % 64) = (X : Int) * 64 + (d : Int) % 64 := by
          have := or_add 6 X (d % 64) (by omega) (by omega)
          rw [show ((2 ^ 6 * X : Nat) : Int) = (X : Int) * 64 by omega, show ((d % 64 : Nat) : Int) = (d : Int) % 64 by omega] at this
          rw [this]; omega
        have g1 : ((d : Int) / 64 != 2) = false := by simp only [bne_eq_false_iff_eq]; omega
        have HCo2 : Hid (conts bs (k + 1)) := fun j h1 h2 => by
          by_cases e : j = k
          · subst e; rw [hd]; exact hd2
          · exact HCo.out j h1 (by omega)
        clear hd hXe
        go_wp2
        go_round
        case rel => exact ⟨k + 1, by go_num, by omega, by omega, by rw [show k + 1 - 1 = k by omega, HS.out]; congr 1, HCo2.out⟩
        case measure => simp [intOf]; omega
      · have g1 : ((d : Int) / 64 != 2) = true := by simp only [bne_iff_ne, ne_eq]; omega
        have HR : Hid (tailM bs 4 65536 x0 = 0) := tail_cont (by omega) hk1 hlt (by rw [hd]; exact hd2)
        clear hd hXe
        go_wp2
        go_ret
        exact ⟨by rw [HR.out]; rfl, rfl⟩
    · obtain rfl : k = 4 := by omega
      obtain ⟨X, hXe⟩ : ∃ X, accX bs x0 (4 - 1) = X := ⟨_, rfl⟩
      rw [hXe] at hXb ⊢
      have HT := tail_end (n := 4) (least := 65536) (by omega) HCo.out hXe
      have hcs : X < 65536 ∨ (¬ X < 65536 ∧ 1114111 < X) ∨ (¬ X < 65536 ∧ ¬ 1114111 < X ∧ 55296 ≤ X ∧ X < 57344) ∨ (¬ X < 65536 ∧ ¬ 1114111 < X ∧ ¬ 55296 ≤ X) ∨ (¬ X < 65536 ∧ ¬ 1114111 < X ∧ 55296 ≤ X ∧ ¬ X < 57344) := by omega
      clear hXe hlt
      rcases hcs with h1 | ⟨h1, h2⟩ | ⟨h1, h2, h3, h4⟩ | ⟨h1, h2, h3⟩ | ⟨h1, h2, h3, h4⟩
      · have HR := hide (HT.1 (.inl h1))
        have r1 : (X : Int) < 65536 := by omega
        clear HT h1
        go_wp2
        go_ret
        exact ⟨by rw [HR.out]; rfl, rfl⟩
      · have HR := hide (HT.1 (.inr (.inl h2)))
        have r1 : ¬ (X : Int) < 65536 := by omega
        have r2 : (1114111 : Int) < (X : Int) := by omega
        clear HT h1 h2
        go_wp2
        go_ret
        exact ⟨by rw [HR.out]; rfl, rfl⟩
      · have HR := hide (HT.1 (.inr (.inr ⟨h3, h4⟩)))
        have r1 : ¬ (X : Int) < 65536 := by omega
        have r2 : ¬ (1114111 : Int) < (X : Int) := by omega
        have r3 : (55296 : Int) ≤ (X : Int) := by omega
        have r4 : (X : Int) < 57344 := by omega
        clear HT h1 h2 h3 h4
        go_wp2
        go_ret
        exact ⟨by rw [HR.out]; rfl, rfl⟩
      · have HR := hide (HT.2 (by omega))
        have r1 : ¬ (X : Int) < 65536 := by omega
        have r2 : ¬ (1114111 : Int) < (X : Int) := by omega
        have r3 : ¬ (55296 : Int) ≤ (X : Int) := by omega
        clear HT h1 h2 h3
        go_wp2
        go_ret
        exact ⟨by rw [HR.out]; rfl, rfl⟩
      · have HR := hide (HT.2 (by omega))
        have r1 : ¬ (X : Int) < 65536 := by omega
        have r2 : ¬ (1114111 : Int) < (X : Int) := by omega
        have r3 : (55296 : Int) ≤ (X : Int) := by omega
        have r4 : ¬ (X : Int) < 57344 := by omega
        clear HT h1 h2 h3 h4
        go_wp2
        go_ret
        exact ⟨by rw [HR.out]; rfl, rfl⟩

set_option maxRecDepth 100000 in
set_option maxHeartbeats 1600000 in
theorem rune_any (z : Addr) (N cap : Nat) (bs : Nat → Nat) (w : World) (hc : ∀ j, j < N → w.cell? (z.add j) = some (.int .u8 (bs j))) (hb : ∀ j, bs j < 256) (hN : 1 ≤ N) (hN2 : N ≤ 9223372036854775807) :
    Calls Tryd.prog 31 #[.slice (some z) N cap] w fun e w' => e = .returned (.int .i64 (runeM N bs)) ∧ w' = w := by
  have e0 := hc 0 (by omega)
  rw [show z.add 0 = z from rfl] at e0
  have b0 := hb 0
  unfold runeM
  by_cases c1 : bs 0 < 128
  · rw [if_pos c1]
    obtain ⟨c, hcc⟩ : ∃ c, bs 0 = c := ⟨_, rfl⟩
    rw [hcc] at e0 c1
    have k1 : (c : Int) < 128 := by omega
    have i0 : (0 : Int) < (N : Int) := by omega
    clear hc hb hcc
    go_enter Tryd.func31, Tryd.ntmps31
    go_wp2
    go_ret
    exact ⟨rfl, rfl⟩
  rw [if_neg c1]
  by_cases c2 : 194 ≤ bs 0 ∧ bs 0 < 224
  · rw [if_pos c2]
    by_cases hN3 : N < 2
    · rw [if_pos hN3]
      obtain ⟨c, hcc⟩ : ∃ c, bs 0 = c := ⟨_, rfl⟩
      rw [hcc] at e0 b0 c2
      have k1 : ¬ (c : Int) < 128 := by omega
      have k2 : (194 : Int) ≤ (c : Int) := by omega
      have k3 : (c : Int) < 224 := by omega
      have i0 : (0 : Int) < (N : Int) := by omega
      have i1 : (N : Int) < 2 := by omega
      clear hc hb hcc
      go_enter Tryd.func31, Tryd.ntmps31
      go_wp2
      go_ret
      exact ⟨rfl, rfl⟩
    · rw [if_neg hN3]
      exact rune_two z N cap bs w hc hb (by omega) hN2 c2.1 c2.2
  rw [if_neg c2]
  by_cases c3 : 224 ≤ bs 0 ∧ bs 0 < 240
  · rw [if_pos c3]
    by_cases hN3 : N < 3
    · rw [if_pos hN3]
      obtain ⟨c, hcc⟩ : ∃ c, bs 0 = c := ⟨_, rfl⟩
      rw [hcc] at e0 b0 c3
      have k1 : ¬ (c : Int) < 128 := by omega
      have k2 : (194 : Int) ≤ (c : Int) := by omega
      have k3 : ¬ (c : Int) < 224 := by omega
      have k4 : (224 : Int) ≤ (c : Int) := by omega
      have k5 : (c : Int) < 240 := by omega
      have i0 : (0 : Int) < (N : Int) := by omega
      have i1 : (N : Int) < 3 := by omega
      clear hc hb hcc
      go_enter Tryd.func31, Tryd.ntmps31
      go_wp2
      go_ret
      exact ⟨rfl, rfl⟩
    · rw [if_neg hN3]
      exact rune_three z N cap bs w hc hb (by omega) hN2 c3.1 c3.2
  rw [if_neg c3]
  by_cases c4 : 240 ≤ bs 0 ∧ bs 0 < 245
  · rw [if_pos c4]
    by_cases hN3 : N < 4
    · rw [if_pos hN3]
      obtain ⟨c, hcc⟩ : ∃ c, bs 0 = c := ⟨_, rfl⟩
      rw [hcc] at e0 b0 c4
      have k1 : ¬ (c : Int) < 128 := by omega
      have k2 : (194 : Int) ≤ (c : Int) := by omega
      have k3 : ¬ (c : Int) < 224 := by omega
      have k4 : (224 : Int) ≤ (c : Int) := by omega
      have k5 : ¬ (c : Int) < 240 := by omega
      have k6 : (240 : Int) ≤ (c : Int) := by omega
      have k7 : (c : Int) < 245 := by omega
      have i0 : (0 : Int) < (N : Int) := by omega
      have i1 : (N : Int) < 4 := by omega
      clear hc hb hcc
      go_enter Tryd.func31, Tryd.ntmps31
      go_wp2
      go_ret
      exact ⟨rfl, rfl⟩
    · rw [if_neg hN3]
      exact rune_four z N cap bs w hc hb (by omega) hN2 c4.1 c4.2
  rw [if_neg c4]
  obtain ⟨c, hcc⟩ : ∃ c, bs 0 = c := ⟨_, rfl⟩
  rw [hcc] at e0 b0 c1 c2 c3 c4
  have k1 : ¬ (c : Int) < 128 := by omega
  have i0 : (0 : Int) < (N : Int) := by omega
  have hcs : c < 194 ∨ 245 ≤ c := by omega
  clear hc hb hcc c2 c3 c4
  rcases hcs with k2 | k2
  · have r1 : ¬ (194 : Int) ≤ (c : Int) := by omega
    have r2 : ¬ (224 : Int) ≤ (c : Int) := by omega
    have r3 : ¬ (240 : Int) ≤ (c : Int) := by omega
    clear k2
    go_enter Tryd.func31, Tryd.ntmps31
    go_wp2
    go_ret
    exact ⟨rfl, rfl⟩
  · have r1 : (194 : Int) ≤ (c : Int) := by omega
    have r2 : ¬ (c : Int) < 224 := by omega
    have r3 : (224 : Int) ≤ (c : Int) := by omega
    have r4 : ¬ (c : Int) < 240 := by omega
    have r5 : (240 : Int) ≤ (c : Int) := by omega
    have r6 : ¬ (c : Int) < 245 := by omega
    clear k2
    go_enter Tryd.func31, Tryd.ntmps31
    go_wp2
    go_ret
    exact ⟨rfl, rfl⟩
set_option maxHeartbeats 4000000 in
theorem dec_plain (N b0 b1 b2 b3 : Nat) (h0 : b0 < 256) (h1 : b1 < 256) :
    (if b0 < 128 then 1
      else if 194 ≤ b0 ∧ b0 < 224 then (if N < 2 then 0 else if b1 / 64 = 2 ∧ (2 < 2 → b2 / 64 = 2) ∧ (3 < 2 → b3 / 64 = 2) ∧ ¬ (b0 % 32 * 64 + b1 % 64 < 128 ∨ 1114111 < b0 % 32 * 64 + b1 % 64 ∨ (55296 ≤ b0 % 32 * 64 + b1 % 64 ∧ b0 % 32 * 64 + b1 % 64 < 57344)) then 2 else 0)
      else if 224 ≤ b0 ∧ b0 < 240 then (if N < 3 then 0 else if b1 / 64 = 2 ∧ (2 < 3 → b2 / 64 = 2) ∧ (3 < 3 → b3 / 64 = 2) ∧ ¬ ((b0 % 16 * 64 + b1 % 64) * 64 + b2 % 64 < 2048 ∨ 1114111 < (b0 % 16 * 64 + b1 % 64) * 64 + b2 % 64 ∨ (55296 ≤ (b0 % 16 * 64 + b1 % 64) * 64 + b2 % 64 ∧ (b0 % 16 * 64 + b1 % 64) * 64 + b2 % 64 < 57344)) then 3 else 0)
      else if 240 ≤ b0 ∧ b0 < 245 then (if N < 4 then 0 else if b1 / 64 = 2 ∧ (2 < 4 → b2 / 64 = 2) ∧ (3 < 4 → b3 / 64 = 2) ∧ ¬ (((b0 % 8 * 64 + b1 % 64) * 64 + b2 % 64) * 64 + b3 % 64 < 65536 ∨ 1114111 < ((b0 % 8 * 64 + b1 % 64) * 64 + b2 % 64) * 64 + b3 % 64 ∨ (55296 ≤ ((b0 % 8 * 64 + b1 % 64) * 64 + b2 % 64) * 64 + b3 % 64 ∧ ((b0 % 8 * 64 + b1 % 64) * 64 + b2 % 64) * 64 + b3 % 64 < 57344)) then 4 else 0)
      else 0) = if Lib.decodeN N b0 b1 b2 b3 = (65533, 1) then 0 else (Lib.decodeN N b0 b1 b2 b3).2 := by
  have e1 : ∀ (x m : Nat), m ≠ 1 → (if ((x, m) : Nat × Nat) = (65533, 1) then 0 else ((x, m) : Nat × Nat).2) = m := fun x m hm => by rw [if_neg (by simp [hm])]
  have e0 : (if ((65533, 1) : Nat × Nat) = (65533, 1) then 0 else ((65533, 1) : Nat × Nat).2) = 0 := if_pos rfl
  unfold Lib.decodeN
  by_cases c1 : b0 < 128
  · simp only [if_pos c1]
    rw [if_neg (by simp; omega)]
  simp only [if_neg c1]
  by_cases k2 : b0 / 32 = 6 ∧ 1 < N ∧ b1 / 64 = 2
  · simp only [if_pos k2]
    by_cases g : b0 % 32 * 64 + b1 % 64 ≥ 128
    · simp only [if_pos g]
      rw [e1 _ 2 (by decide)]
      repeat' split
      all_goals first | omega | simp_all
    · simp only [if_neg g]
      try rw [e0]
      repeat' split
      all_goals first | omega | simp_all
  simp only [if_neg k2]
  by_cases k3 : b0 / 16 = 14 ∧ (1 < N ∧ b1 / 64 = 2) ∧ 2 < N ∧ b2 / 64 = 2
  · simp only [if_pos k3]
    by_cases g : b0 % 16 * 4096 + b1 % 64 * 64 + b2 % 64 ≥ 2048 ∧ (b0 % 16 * 4096 + b1 % 64 * 64 + b2 % 64 < 55296 ∨ 57344 ≤ b0 % 16 * 4096 + b1 % 64 * 64 + b2 % 64 ∧ b0 % 16 * 4096 + b1 % 64 * 64 + b2 % 64 ≤ 1114111)
    · simp only [if_pos g]
      rw [e1 _ 3 (by decide)]
      repeat' split
      all_goals first | omega | simp_all
    · simp only [if_neg g]
      try rw [e0]
      repeat' split
      all_goals first | omega | simp_all
  simp only [if_neg k3]
  by_cases k4 : b0 / 8 = 30 ∧ (1 < N ∧ b1 / 64 = 2) ∧ (2 < N ∧ b2 / 64 = 2) ∧ 3 < N ∧ b3 / 64 = 2
  · simp only [if_pos k4]
    by_cases g : b0 % 8 * 262144 + b1 % 64 * 4096 + b2 % 64 * 64 + b3 % 64 ≥ 65536 ∧ (b0 % 8 * 262144 + b1 % 64 * 4096 + b2 % 64 * 64 + b3 % 64 < 55296 ∨ 57344 ≤ b0 % 8 * 262144 + b1 % 64 * 4096 + b2 % 64 * 64 + b3 % 64 ∧ b0 % 8 * 262144 + b1 % 64 * 4096 + b2 % 64 * 64 + b3 % 64 ≤ 1114111)
    · simp only [if_pos g]
      rw [e1 _ 4 (by decide)]
      repeat' split
      all_goals first | omega | simp_all
    · simp only [if_neg g]
      try rw [e0]
      repeat' split
      all_goals first | omega | simp_all
  simp only [if_neg k4]
  try rw [e0]
  repeat' split
  all_goals first | omega | simp_all
/-- Rune against the library's decoder: nothing begins here just where it tells an error of one byte. -/
theorem rune_dec (N : Nat) (bs : Nat → Nat) (hb : ∀ j, bs j < 256) :
    runeM N bs = if Lib.decodeN N (bs 0) (bs 1) (bs 2) (bs 3) = (65533, 1) then 0 else (Lib.decodeN N (bs 0) (bs 1) (bs 2) (bs 3)).2 :=
  dec_plain N (bs 0) (bs 1) (bs 2) (bs 3) (hb 0) (hb 1)
end Go.Proofs.YtpffhckimilppaaDoor
