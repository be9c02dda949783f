/-
  What the call of the document's product does.
-/
import Derived.Test.YtafhahgfodlohaaDoorWalkB
import Derived.Laws.BitsLemmas
namespace Go.Proofs.YtafhahgfodlohaaDoor
open Go.RowKit

theorem i64_and1 (n : Int) : bits .and .i64 n 1 = n % 2 := by
  have h1 : (BitVec.ofInt 64 1).toNat = 2 ^ 1 - 1 := by decide
  have key : (BitVec.ofInt 64 n &&& BitVec.ofInt 64 1).toNat = (n % ((2 ^ 64 : Nat) : Int)).toNat % 2 ^ 1 := by
    rw [BitVec.toNat_and, BitVec.toNat_ofInt, h1, Nat.and_two_pow_sub_one_eq_mod]
  show IntKind.i64.wrap ((BitVec.ofInt 64 n &&& BitVec.ofInt 64 1).toNat : Nat) = n % 2
  rw [key, IntKind.wrap_i64]
  omega
theorem fits_abs (a : Int) : fitsB a = decide (a.natAbs ≤ 4611686018427387903) := by
  rw [Bool.eq_iff_iff, fitsB_iff, decide_eq_true_eq]; omega
theorem fits_sub (a b m : Int) (h0 : 0 ≤ m) (h1 : m ≤ b) (h : fitsB (a * b) = true) : fitsB (a * m) = true := by
  rw [fits_abs, decide_eq_true_eq, Int.natAbs_mul] at *
  exact Nat.le_trans (Nat.mul_le_mul_left _ (by omega)) h
theorem mul_not (a b m : Int) (h0 : 0 ≤ m) (h1 : m ≤ b) (h : fitsB (a * m) = false) : mulV a b = 0 ∧ mulE a b = 10 := by
  cases hb : fitsB (a * b)
  · simp [mulV, mulE, mulOk, hb]
  · rw [fits_sub a b m h0 h1 hb] at h; simp at h
theorem div_step (b : Int) (k : Nat) (h : 1 ≤ k) : b / 2 ^ k = b / 2 ^ (k - 1) / 2 := by
  obtain ⟨j, rfl⟩ : ∃ j, k = j + 1 := ⟨k - 1, by omega⟩
  rw [Int.pow_succ, Nat.add_sub_cancel, Int.ediv_ediv_of_nonneg (Int.le_of_lt (Int.pow_pos (by omega)))]
theorem div_pow_le (b : Int) (k : Nat) (h : 0 ≤ b) : 0 ≤ b / 2 ^ k ∧ b / 2 ^ k ≤ b :=
  ⟨Int.ediv_nonneg h (Int.le_of_lt (Int.pow_pos (by omega))), Int.ediv_le_self _ h⟩
theorem mul_neg2 (a b : Int) : mulV (-a) (-b) = mulV a b ∧ mulE (-a) (-b) = mulE a b := by
  have h : mulOk (-a) (-b) = mulOk a b := by
    have ha : fitsB (-a) = fitsB a := by rw [fits_abs, fits_abs, Int.natAbs_neg]
    have hb : fitsB (-b) = fitsB b := by rw [fits_abs, fits_abs, Int.natAbs_neg]
    simp [mulOk, ha, hb, Int.neg_mul_neg]
  simp [mulV, mulE, h, Int.neg_mul_neg]

set_option maxHeartbeats 800000 in
theorem rmul_pos (a b : Int) (w : World) (ha : fitsB a = true) (hb : fitsB b = true) (hn : 0 ≤ b) :
    Calls Tryd.prog 13 #[.int .i64 a, .int .i64 b] w fun e w' => e = .returned (.tuple #[.int .i64 (mulV a b), .int .i64 (mulE a b)]) ∧ w' = w := by
  obtain ⟨ha1, ha2⟩ := (fitsB_iff a).1 ha
  obtain ⟨hb1, hb2⟩ := (fitsB_iff b).1 hb
  go_enter Tryd.func13, Tryd.ntmps13
  go_wp2_with (go_at_call 15; refine (rfits_any _ _).mono ?_; rintro e w' ⟨rfl, rfl⟩)
  go_loop [6, 7] (fun o i => ∃ (k : Nat) (v : Int), k ≤ 62 ∧ i = .int .i64 ((k : Int) - 1) ∧ o = .int .i64 v ∧ v = a * (b / 2 ^ k) ∧ fitsB v = true) (fun _ i => (intOf i + 1).toNat)
  case atStart => exact ⟨62, 0, by omega, rfl, rfl, by rw [Int.ediv_eq_zero_of_lt hn (by omega)]; simp, by decide⟩
  case round =>
    obtain ⟨k, v, hk, rfl, rfl, hv, hf⟩ := hrel
    have HV : Hid (v = a * (b / 2 ^ k)) := hv
    clear hv
    obtain ⟨hv1, hv2⟩ := (fitsB_iff v).1 hf
    by_cases hlt : 1 ≤ k
    · have HQ : Hid (b / 2 ^ k = b / 2 ^ (k - 1) / 2) := div_step b k hlt
      have HB : Hid (0 ≤ b / 2 ^ (k - 1) ∧ b / 2 ^ (k - 1) ≤ b) := div_pow_le b (k - 1) hn
      have H2 : Hid (2 * v = a * (2 * (b / 2 ^ (k - 1) / 2))) := by
        show _ = _; rw [HV.out, HQ.out]; rw [← Int.mul_assoc, ← Int.mul_assoc, Int.mul_comm 2 a]
      cases h2 : fitsB (2 * v)
      · have HR : Hid (mulV a b = 0 ∧ mulE a b = 10) := by
          have hq := HB.out
          exact mul_not a b (2 * (b / 2 ^ (k - 1) / 2)) (by omega) (by omega) (by rw [← H2.out]; exact h2)
        go_wp2_with (go_at_call 15; refine (rfits_any _ _).mono ?_; rintro e w' ⟨rfl, rfl⟩)
        go_ret2
        exact ⟨by rw [HR.out.1, HR.out.2]; rfl, rfl⟩
      · obtain ⟨h21, h22⟩ := (fitsB_iff (2 * v)).1 h2
        cases hbit : (bits BinOp.and IntKind.i64 (b / 2 ^ (k - 1)) 1 == 1)
        · have HN : Hid (2 * v = a * (b / 2 ^ (k - 1))) := by
            show _ = _
            rw [i64_and1, beq_eq_false_iff_ne] at hbit
            rw [H2.out]
            congr 1
            omega
          go_wp2_with (go_at_call 15; refine (rfits_any _ _).mono ?_; rintro e w' ⟨rfl, rfl⟩)
          go_round
          case rel => exact ⟨k - 1, 2 * v, by omega, by rw [show ((k - 1 : Nat) : Int) = (k : Int) - 1 by omega], rfl, HN.out, h2⟩
          case measure => simp [intOf]; omega
        · have HN : Hid (2 * v + a = a * (b / 2 ^ (k - 1))) := by
            show _ = _
            rw [i64_and1, beq_iff_eq] at hbit
            rw [H2.out]
            have e : b / 2 ^ (k - 1) = 2 * (b / 2 ^ (k - 1) / 2) + 1 := by omega
            generalize b / 2 ^ (k - 1) / 2 = q at *
            rw [e, Int.mul_add, Int.mul_one]
          cases h3 : fitsB (2 * v + a)
          · have HR : Hid (mulV a b = 0 ∧ mulE a b = 10) := by
              have hq := HB.out
              exact mul_not a b (b / 2 ^ (k - 1)) hq.1 hq.2 (by rw [← HN.out]; exact h3)
            go_wp2_with (go_at_call 15; refine (rfits_any _ _).mono ?_; rintro e w' ⟨rfl, rfl⟩)
            go_ret2
            exact ⟨by rw [HR.out.1, HR.out.2]; rfl, rfl⟩
          · go_wp2_with (go_at_call 15; refine (rfits_any _ _).mono ?_; rintro e w' ⟨rfl, rfl⟩)
            go_round
            case rel => exact ⟨k - 1, 2 * v + a, by omega, by rw [show ((k - 1 : Nat) : Int) = (k : Int) - 1 by omega], rfl, HN.out, h3⟩
            case measure => simp [intOf]; omega
    · have HR : Hid (mulV a b = v ∧ mulE a b = 0) := by
        obtain rfl : k = 0 := by omega
        have hv : v = a * b := by rw [HV.out]; simp
        show _ ∧ _
        rw [hv] at hf
        simp [mulV, mulE, mulOk, ha, hb, hf, hv]
      go_wp2
      go_ret2
      exact ⟨by rw [HR.out.1, HR.out.2]; rfl, rfl⟩

set_option maxHeartbeats 400000 in
theorem rmul_no (a b : Int) (w : World) (h : (fitsB a && fitsB b) = false) :
    Calls Tryd.prog 13 #[.int .i64 a, .int .i64 b] w fun e w' => e = .returned (.tuple #[.int .i64 (mulV a b), .int .i64 (mulE a b)]) ∧ w' = w := by
  have HR : Hid (mulV a b = 0 ∧ mulE a b = 10) := by show _ ∧ _; simp [mulV, mulE, mulOk, h]
  cases ha : fitsB a
  · go_enter Tryd.func13, Tryd.ntmps13
    go_wp2_with (go_at_call 15; refine (rfits_any _ _).mono ?_; rintro e w' ⟨rfl, rfl⟩)
    go_ret2
    exact ⟨by rw [HR.out.1, HR.out.2]; rfl, rfl⟩
  · have hb : fitsB b = false := by simpa [ha] using h
    clear h
    go_enter Tryd.func13, Tryd.ntmps13
    go_wp2_with (go_at_call 15; refine (rfits_any _ _).mono ?_; rintro e w' ⟨rfl, rfl⟩)
    go_ret2
    exact ⟨by rw [HR.out.1, HR.out.2]; rfl, rfl⟩

end Go.Proofs.YtafhahgfodlohaaDoor
