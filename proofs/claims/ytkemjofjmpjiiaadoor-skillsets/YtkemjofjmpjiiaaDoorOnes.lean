/-
  What math/bits.OnesCount64 does: it answers how many bits are set.
-/
import Derived.Test.YtkemjofjmpjiiaaDoorProg
import Derived.Test.YtkemjofjmpjiiaaDoorPop
import Derived.WalkKit
import Derived.WalkSpells
import Derived.WalkLawsBesides
import Derived.Laws.Bits64b
import Derived.Laws.Bits128
import Derived.Laws.ShiftsVar
namespace Go.Proofs.YtkemjofjmpjiiaaDoor
open Go.RowKit

theorem hide {p : Prop} (h : p) : Hid p := h
theorem s421 : ∀ b, b < 256 → s4 (s21 b) = pop 8 b := b4
theorem bytes8 (x : Nat) : byteSum 8 (fun b => s4 (s21 b)) x = byteSum 8 (pop 8) x := byteSum_congr _ _ s421 8 x
theorem pop64 (x : Nat) : pop 64 x = pop 8 (x % 256) + pop 8 (x / 256 % 256) + pop 8 (x / 256 / 256 % 256) + pop 8 (x / 256 / 256 / 256 % 256) + pop 8 (x / 256 / 256 / 256 / 256 % 256) + pop 8 (x / 256 / 256 / 256 / 256 / 256 % 256) + pop 8 (x / 256 / 256 / 256 / 256 / 256 / 256 % 256) + pop 8 (x / 256 / 256 / 256 / 256 / 256 / 256 / 256 % 256) := by
  have a : ∀ n x, pop (8 + n) x = pop 8 (x % 256) + pop n (x / 256) := fun n x => by
    rw [pop_add, pop_mod 8 x]
  rw [show 64 = 8 + (8 + (8 + (8 + (8 + (8 + (8 + (8 + 0))))))) from rfl]
  simp only [a]
  simp [pop]
  omega
theorem byteSum_succ (n : Nat) (f : Nat → Nat) (x : Nat) : byteSum (n + 1) f x = f (x % 256) + 256 * byteSum n f (x / 256) := rfl
theorem bnd : ∀ (n : Nat) (f : Nat → Nat) (x : Nat), (∀ b, b < 256 → f b < 256) → byteSum n f x < 256 ^ n
  | 0, _, _, _ => by simp [byteSum]
  | n + 1, f, x, hf => by
    have h1 := bnd n f (x / 256) hf
    have h2 := hf (x % 256) (by omega)
    rw [byteSum_succ, Nat.pow_succ]
    omega
theorem bb_step (y Y P : Nat) (h1 : 255 * Y + 68 ≤ 68 * P) (h2 : y ≤ 68) : 255 * (y + 256 * Y) + 68 ≤ 68 * (P * 256) := by omega
theorem bb : ∀ (n : Nat) (f : Nat → Nat) (x : Nat), (∀ b, b < 256 → f b ≤ 68) → 255 * byteSum n f x + 68 ≤ 68 * 256 ^ n
  | 0, _, _, _ => by simp [byteSum]
  | n + 1, f, x, hf => by
    have h1 := bb n f (x / 256) hf
    have h2 := hf (x % 256) (by omega)
    rw [byteSum_succ, Nat.pow_succ]
    exact bb_step _ _ _ h1 h2
theorem le68 (b : Nat) (hb : b < 256) : s21 b ≤ 68 := by
  obtain ⟨_, h1, h2⟩ := b2 b hb
  have : s21 b = s2 (s1 b) := rfl
  omega
/-- The sums that the library's text makes, one behind the other. -/
theorem ones_plain (x : Nat) : ∃ y1 y2 y3 y4 y5 y6 : Nat, (x / 2 &&& 6148914691236517205) + (x &&& 6148914691236517205) = y1 ∧ y1 < 18446744073709551616 ∧
    (y1 / 4 &&& 3689348814741910323) + (y1 &&& 3689348814741910323) = y2 ∧ y2 < 18446744073709551616 ∧ y2 / 16 + y2 < 18446744073709551616 ∧ ((y2 / 16 + y2) &&& 1085102592571150095) = y3 ∧ y3 < 18446744073709551616 ∧
    y3 + y3 / 256 = y4 ∧ y4 < 18446744073709551616 ∧ y4 + y4 / 65536 = y5 ∧ y5 < 18446744073709551616 ∧ y5 + y5 / 4294967296 = y6 ∧ y6 < 9223372036854775808 ∧ y6 % 128 = pop 64 x := by
  have e1 : (x / 2 &&& 6148914691236517205) + (x &&& 6148914691236517205) = byteSum 8 s1 x := step1 8 x
  have e2 : (byteSum 8 s1 x / 4 &&& 3689348814741910323) + (byteSum 8 s1 x &&& 3689348814741910323) = byteSum 8 s21 x := by
    have := step2 8 (byteSum 8 s1 x)
    rw [byteSum_two s1 s2 b1] at this
    exact this
  have e3 : ((byteSum 8 s21 x / 16 + byteSum 8 s21 x) &&& 1085102592571150095) = byteSum 8 (pop 8) x := by
    rw [← bytes8]; exact step4 8 x
  have u1 := bnd 8 s1 x b1
  have u2 : byteSum 8 s21 x ≤ 4919131752989213764 := by
    have := bb 8 s21 x le68
    have h8 : (256 : Nat) ^ 8 = 18446744073709551616 := by decide +kernel
    rw [h8] at this
    generalize byteSum 8 s21 x = y at this
    omega
  have p8 : ∀ x, pop 8 x ≤ 8 := pop_le 8
  have key := fold8 (byteSum 8 (pop 8) x) _ _ _ _ _ _ _ _ (byteSum 7 (pop 8) (x / 256)) (byteSum 6 (pop 8) (x / 256 / 256)) (byteSum 5 (pop 8) (x / 256 / 256 / 256)) (byteSum 4 (pop 8) (x / 256 / 256 / 256 / 256)) (byteSum 3 (pop 8) (x / 256 / 256 / 256 / 256 / 256)) (byteSum 2 (pop 8) (x / 256 / 256 / 256 / 256 / 256 / 256))
    (p8 (x % 256)) (p8 (x / 256 % 256)) (p8 (x / 256 / 256 % 256)) (p8 (x / 256 / 256 / 256 % 256)) (p8 (x / 256 / 256 / 256 / 256 % 256)) (p8 (x / 256 / 256 / 256 / 256 / 256 % 256)) (p8 (x / 256 / 256 / 256 / 256 / 256 / 256 % 256)) (p8 (x / 256 / 256 / 256 / 256 / 256 / 256 / 256 % 256))
    (byteSum_succ 7 _ _) (byteSum_succ 6 _ _) (byteSum_succ 5 _ _) (byteSum_succ 4 _ _) (byteSum_succ 3 _ _) (byteSum_succ 2 _ _) (by rw [byteSum_succ 1, byteSum_succ 0]; simp [byteSum])
  rw [← pop64] at key
  exact ⟨_, _, _, _, _, _, e1, u1, e2, by omega, by omega, e3, key.1, rfl, key.2.1, rfl, key.2.2.1, rfl, key.2.2.2.1, key.2.2.2.2⟩
theorem and127 (y : Nat) : bits .and .i64 (y : Int) 127 = ((y % 128 : Nat) : Int) := by
  rw [i64_and127]; omega
set_option maxHeartbeats 1000000 in
theorem ones_any (x : Nat) (hx : x < 18446744073709551616) (w : World) :
    Calls Tryd.prog 15 #[.int .u64 x] w fun e w' => e = .returned (.int .i64 (pop 64 x)) ∧ w' = w := by
  obtain ⟨y1, y2, y3, y4, y5, y6, e1, u1, e2, u2, u2b, e3, u3, e4, u4, e5, u5, e6, u6, hp⟩ := ones_plain x
  have k1 : IntKind.u64.wrap (bits .and .u64 ((x : Int) / 2) 6148914691236517205 + bits .and .u64 (x : Int) 6148914691236517205) = (y1 : Int) := by
    rw [show (x : Int) / 2 = ((x / 2 : Nat) : Int) by omega, show (6148914691236517205 : Int) = ((6148914691236517205 : Nat) : Int) from rfl, bits_and_u64_nat _ _ (by omega) (by omega), bits_and_u64_nat _ _ (by omega) (by omega), IntKind.wrap_u64]
    omega
  have k2 : IntKind.u64.wrap (bits .and .u64 ((y1 : Int) / 4) 3689348814741910323 + bits .and .u64 (y1 : Int) 3689348814741910323) = (y2 : Int) := by
    rw [show (y1 : Int) / 4 = ((y1 / 4 : Nat) : Int) by omega, show (3689348814741910323 : Int) = ((3689348814741910323 : Nat) : Int) from rfl, bits_and_u64_nat _ _ (by omega) (by omega), bits_and_u64_nat _ _ (by omega) (by omega), IntKind.wrap_u64]
    omega
  have k3 : bits .and .u64 (IntKind.u64.wrap ((y2 : Int) / 16 + (y2 : Int))) 1085102592571150095 = (y3 : Int) := by
    rw [IntKind.wrap_u64, show ((y2 : Int) / 16 + (y2 : Int)) % 18446744073709551616 = ((y2 / 16 + y2 : Nat) : Int) by omega, show (1085102592571150095 : Int) = ((1085102592571150095 : Nat) : Int) from rfl, bits_and_u64_nat _ _ (by omega) (by omega), e3]
  have k4 : IntKind.u64.wrap ((y3 : Int) + (y3 : Int) / 256) = (y4 : Int) := by rw [IntKind.wrap_u64]; omega
  have k5 : IntKind.u64.wrap ((y4 : Int) + (y4 : Int) / 65536) = (y5 : Int) := by rw [IntKind.wrap_u64]; omega
  have k6 : IntKind.u64.wrap ((y5 : Int) + (y5 : Int) / 4294967296) = (y6 : Int) := by rw [IntKind.wrap_u64]; omega
  have k7 := and127 y6
  rw [hp] at k7
  have k3b : bits .and .u64 ((y2 : Int) / 16 + (y2 : Int)) 1085102592571150095 = (y3 : Int) := by
    rwa [IntKind.wrap_u64, show ((y2 : Int) / 16 + (y2 : Int)) % 18446744073709551616 = (y2 : Int) / 16 + (y2 : Int) by omega] at k3
  have k4b : (y3 : Int) + (y3 : Int) / 256 = (y4 : Int) := by omega
  have k5b : (y4 : Int) + (y4 : Int) / 65536 = (y5 : Int) := by omega
  have k6b : (y5 : Int) + (y5 : Int) / 4294967296 = (y6 : Int) := by omega
  clear e1 e2 e3 e4 e5 e6 hp
  go_enter Tryd.func15, Tryd.ntmps15
  go_wp2
  go_ret
  exact ⟨rfl, rfl⟩
end Go.Proofs.YtkemjofjmpjiiaaDoor
