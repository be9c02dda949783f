/-
  Plain mathematics on products, signs and the limit.
-/
import Derived.Test.YtafhahgfodlohabDoorWalkB
import Derived.Laws.BitsLemmas
namespace Go.Proofs.YtafhahgfodlohabDoor
open Go.RowKit

theorem i64_and1 (n : Int) : bits .and .i64 n 1 = n % 2 := by
  have h1 : (BitVec.ofInt 64 1).toNat = 2 ^ 1 - 1 := by decide
  have key : (BitVec.ofInt 64 n &&& BitVec.ofInt 64 1).toNat = (n % ((2 ^ 64 : Nat) : Int)).toNat % 2 ^ 1 := by
    rw [BitVec.toNat_and, BitVec.toNat_ofInt, h1, Nat.and_two_pow_sub_one_eq_mod]
  show IntKind.i64.wrap ((BitVec.ofInt 64 n &&& BitVec.ofInt 64 1).toNat : Nat) = n % 2
  rw [key, IntKind.wrap_i64]
  omega
theorem fits_abs (a : Int) : fitsB a = decide (a.natAbs ≤ 4611686018427387903) := by
  rw [Bool.eq_iff_iff, fitsB_iff, decide_eq_true_eq]; omega
theorem fits_sub (a b m : Int) (h0 : 0 ≤ m) (h1 : m ≤ b) (h : fitsB (a * b) = true) : fitsB (a * m) = true := by
  rw [fits_abs, decide_eq_true_eq, Int.natAbs_mul] at *
  exact Nat.le_trans (Nat.mul_le_mul_left _ (by omega)) h
theorem mul_not (a b m : Int) (h0 : 0 ≤ m) (h1 : m ≤ b) (h : fitsB (a * m) = false) : mulV a b = 0 ∧ mulE a b = 10 := by
  cases hb : fitsB (a * b)
  · simp [mulV, mulE, mulOk, hb]
  · rw [fits_sub a b m h0 h1 hb] at h; simp at h
theorem div_step (b : Int) (k : Nat) (h : 1 ≤ k) : b / 2 ^ k = b / 2 ^ (k - 1) / 2 := by
  obtain ⟨j, rfl⟩ : ∃ j, k = j + 1 := ⟨k - 1, by omega⟩
  rw [Int.pow_succ, Nat.add_sub_cancel, Int.ediv_ediv_of_nonneg (Int.le_of_lt (Int.pow_pos (by omega)))]
theorem div_pow_le (b : Int) (k : Nat) (h : 0 ≤ b) : 0 ≤ b / 2 ^ k ∧ b / 2 ^ k ≤ b :=
  ⟨Int.ediv_nonneg h (Int.le_of_lt (Int.pow_pos (by omega))), Int.ediv_le_self _ h⟩
theorem mul_neg2 (a b : Int) : mulV (-a) (-b) = mulV a b ∧ mulE (-a) (-b) = mulE a b := by
  have h : mulOk (-a) (-b) = mulOk a b := by
    have ha : fitsB (-a) = fitsB a := by rw [fits_abs, fits_abs, Int.natAbs_neg]
    have hb : fitsB (-b) = fitsB b := by rw [fits_abs, fits_abs, Int.natAbs_neg]
    simp [mulOk, ha, hb, Int.neg_mul_neg]
  simp [mulV, mulE, h, Int.neg_mul_neg]

end Go.Proofs.YtafhahgfodlohabDoor
