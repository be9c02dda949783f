/-
  Plain mathematics for the laws of layer 1 (num): the decimal numeral of a number, read again; no program in it.
-/
import Derived.Test.YtjknlglbejhkkaaDoorText
import Derived.Lib.ItoaNum
import Derived.Lib.ItoaMem
namespace Go.Proofs.YtjknlglbejhkkaaDoor

theorem digit_of (d : Nat) (h : d < 10) : (UInt8.ofNat (48 + d)).toNat = 48 + d := by
  rw [UInt8.toNat_ofNat']; omega
theorem digB_of (d : Nat) (h : d < 10) : digB (UInt8.ofNat (48 + d)) = true := by
  simp only [digB, digit_of d h, decide_eq_true_eq]; omega
theorem decS (u : Nat) (h : u < 10) : Lib.decDigits u = [UInt8.ofNat (48 + u)] := by
  rw [Lib.decDigits, dif_pos h]
theorem decT (u : Nat) (h : ¬ u < 10) : Lib.decDigits u = Lib.decDigits (u / 10) ++ [UInt8.ofNat (48 + u % 10)] := by
  rw [Lib.decDigits, dif_neg h]

theorem dec_all (u : Nat) : (Lib.decDigits u).all digB = true := by
  induction u using Nat.strongRecOn with
  | _ u ih =>
    by_cases h : u < 10
    · rw [decS u h, List.all_cons, digB_of u h]; rfl
    · rw [decT u h, List.all_append, ih (u / 10) (by omega), List.all_cons, digB_of (u % 10) (by omega)]; rfl
theorem dec_val (u : Nat) : valN (Lib.decDigits u) = u := by
  induction u using Nat.strongRecOn with
  | _ u ih =>
    by_cases h : u < 10
    · rw [decS u h]; simp only [valN, List.foldl_cons, List.foldl_nil, digit_of u h]; omega
    · rw [decT u h, valN_snoc, ih (u / 10) (by omega), digit_of (u % 10) (by omega)]; omega
theorem dec_len (u : Nat) : 1 ≤ (Lib.decDigits u).length ∧ (Lib.decDigits u).length ≤ u / 10 + 1 := by
  induction u using Nat.strongRecOn with
  | _ u ih =>
    by_cases h : u < 10
    · rw [decS u h]; simp
    · have := ih (u / 10) (by omega)
      rw [decT u h, List.length_append]; simp only [List.length_singleton]; omega
theorem dec_head (u : Nat) (h0 : 1 ≤ u) : ∃ c t, Lib.decDigits u = c :: t ∧ c ≠ 48 := by
  induction u using Nat.strongRecOn with
  | _ u ih =>
    by_cases h : u < 10
    · refine ⟨_, [], decS u h, ?_⟩
      intro e
      have := congrArg UInt8.toNat e
      rw [digit_of u h] at this
      have h48 : (48 : UInt8).toNat = 48 := rfl
      omega
    · obtain ⟨c, t, e, hc⟩ := ih (u / 10) (by omega) (by omega)
      exact ⟨c, t ++ [UInt8.ofNat (48 + u % 10)], by rw [decT u h, e]; rfl, hc⟩
theorem dec_plain (u : Nat) : plainB (Lib.decDigits u) = true := by
  have hl := dec_len u
  have ha := dec_all u
  by_cases h0 : 1 ≤ u
  · obtain ⟨c, t, e, hc⟩ := dec_head u h0
    rw [e] at ha ⊢
    simp only [plainB, ha]
    simp [hc]
  · obtain rfl : u = 0 := by omega
    rw [decS 0 (by omega)]; decide
theorem dec_below (u : Nat) : belowB (Lib.decDigits u) = false := by
  have ha := dec_all u
  have hl := dec_len u
  cases hd : Lib.decDigits u with
  | nil => rw [hd] at hl; simp at hl
  | cons c t =>
    rw [hd] at ha
    simp only [List.all_cons, Bool.and_eq_true] at ha
    simp only [belowB, List.head?_cons]
    rw [beq_eq_false_iff_ne]
    intro e
    obtain rfl := Option.some.inj e
    exact absurd ha.1 (by decide)
theorem dec_zero (u : Nat) (h0 : 1 ≤ u) : (Lib.decDigits u == [48]) = false := by
  obtain ⟨c, t, e, hc⟩ := dec_head u h0
  rw [e, beq_eq_false_iff_ne]
  intro h
  exact hc (List.cons.inj h).1

/-- A number's numeral, read: the number if it fits, else the fault. -/
theorem back_pos (n : Int) (h : 0 ≤ n) : parV (Lib.itoa n) = (bif fitsB n then n else 0) ∧ parE (Lib.itoa n) = (bif fitsB n then 0 else 10) := by
  have e : Lib.itoa n = Lib.decDigits n.toNat := by rw [Lib.itoa, if_neg (by omega)]
  have hp := dec_plain n.toNat
  have hb := dec_below n.toNat
  have hv := dec_val n.toNat
  rw [e]
  simp only [parV, parE, parOk, digitsL, hb, cond_false, hp, cntV, cntE, hv]
  have hf : fitsB n = decide (n.toNat ≤ 4611686018427387903) := by
    rw [Bool.eq_iff_iff, fitsB_iff, decide_eq_true_eq]; omega
  rw [hf]
  have ht : (n.toNat : Int) = n := by omega
  rw [ht]
  simp
theorem back_neg (n : Int) (h : n < 0) : parV (Lib.itoa n) = (bif fitsB n then n else 0) ∧ parE (Lib.itoa n) = (bif fitsB n then 0 else 10) := by
  have e : Lib.itoa n = 45 :: Lib.decDigits n.natAbs := by rw [Lib.itoa, if_pos h]
  have hp := dec_plain n.natAbs
  have hz := dec_zero n.natAbs (by omega)
  have hv := dec_val n.natAbs
  have hb : belowB (45 :: Lib.decDigits n.natAbs) = true := rfl
  have hd : digitsL (45 :: Lib.decDigits n.natAbs) = Lib.decDigits n.natAbs := by simp [digitsL, hb]
  rw [e]
  simp only [parV, parE, parOk, hd, hb, cond_true, hp, hz, cntV, cntE, hv]
  have hf : fitsB n = decide (n.natAbs ≤ 4611686018427387903) := by
    rw [Bool.eq_iff_iff, fitsB_iff, decide_eq_true_eq]; omega
  rw [hf]
  have ht : -(n.natAbs : Int) = n := by omega
  by_cases hq : n.natAbs ≤ 4611686018427387903
  · simp [hq, ht]
  · simp [hq]
theorem back_num (n : Int) : parV (Lib.itoa n) = (bif fitsB n then n else 0) ∧ parE (Lib.itoa n) = (bif fitsB n then 0 else 10) := by
  by_cases h : n < 0
  · exact back_neg n h
  · exact back_pos n (by omega)
theorem itoa_len (n : Int) (h0 : -9223372036854775808 ≤ n) (h1 : n ≤ 9223372036854775807) : (Lib.itoa n).length ≤ 1000000000000000000 := by
  unfold Lib.itoa
  split
  · have := dec_len n.natAbs; simp only [List.length_cons]; omega
  · have := dec_len n.toNat; omega

end Go.Proofs.YtjknlglbejhkkaaDoor
