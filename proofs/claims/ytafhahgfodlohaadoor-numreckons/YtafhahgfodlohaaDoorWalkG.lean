/-
  What the call of the document's product does where the second number is below nothing, and at every two numbers.
-/
import Derived.Test.YtafhahgfodlohaaDoorWalkF
namespace Go.Proofs.YtafhahgfodlohaaDoor
open Go.RowKit

set_option maxHeartbeats 800000 in
theorem rmul_neg (a b A B : Int) (w : World) (ha : fitsB a = true) (hb : fitsB b = true) (hneg : b < 0) (hA : -a = A) (hB : -b = B) :
    Calls Tryd.prog 13 #[.int .i64 a, .int .i64 b] w fun e w' => e = .returned (.tuple #[.int .i64 (mulV a b), .int .i64 (mulE a b)]) ∧ w' = w := by
  obtain ⟨ha1, ha2⟩ := (fitsB_iff a).1 ha
  obtain ⟨hb1, hb2⟩ := (fitsB_iff b).1 hb
  have hA1 : -4611686018427387903 ≤ A := by omega
  have hA2 : A ≤ 4611686018427387903 := by omega
  have hB2 : B ≤ 4611686018427387903 := by omega
  have hn : 0 ≤ B := by omega
  have hfA : fitsB A = true := (fitsB_iff A).2 ⟨hA1, hA2⟩
  have hfB : fitsB B = true := (fitsB_iff B).2 ⟨by omega, hB2⟩
  have HM : Hid (mulV A B = mulV a b ∧ mulE A B = mulE a b) := by
    rw [← hA, ← hB]; exact mul_neg2 a b
  go_enter Tryd.func13, Tryd.ntmps13
  go_wp2_with (go_at_call 15; refine (rfits_any _ _).mono ?_; rintro e w' ⟨rfl, rfl⟩)
  go_loop [6, 7] (fun o i => ∃ (k : Nat) (v : Int), k ≤ 62 ∧ i = .int .i64 ((k : Int) - 1) ∧ o = .int .i64 v ∧ v = A * (B / 2 ^ k) ∧ fitsB v = true) (fun _ i => (intOf i + 1).toNat)
  case atStart => exact ⟨62, 0, by omega, rfl, rfl, by rw [Int.ediv_eq_zero_of_lt hn (by omega)]; simp, by decide⟩
  case round =>
    obtain ⟨k, v, hk, rfl, rfl, hv, hf⟩ := hrel
    have HV : Hid (v = A * (B / 2 ^ k)) := hv
    clear hv
    obtain ⟨hv1, hv2⟩ := (fitsB_iff v).1 hf
    by_cases hlt : 1 ≤ k
    · have HQ : Hid (B / 2 ^ k = B / 2 ^ (k - 1) / 2) := div_step B k hlt
      have HB : Hid (0 ≤ B / 2 ^ (k - 1) ∧ B / 2 ^ (k - 1) ≤ B) := div_pow_le B (k - 1) hn
      have H2 : Hid (2 * v = A * (2 * (B / 2 ^ (k - 1) / 2))) := by
        show _ = _; rw [HV.out, HQ.out]; rw [← Int.mul_assoc, ← Int.mul_assoc, Int.mul_comm 2 A]
      cases h2 : fitsB (2 * v)
      · have HR : Hid (mulV a b = 0 ∧ mulE a b = 10) := by
          have hq := HB.out
          have hm := mul_not A B (2 * (B / 2 ^ (k - 1) / 2)) (by omega) (by omega) (by rw [← H2.out]; exact h2)
          rw [HM.out.1, HM.out.2] at hm; exact hm
        go_wp2_with (go_at_call 15; refine (rfits_any _ _).mono ?_; rintro e w' ⟨rfl, rfl⟩)
        go_ret2
        exact ⟨by rw [HR.out.1, HR.out.2]; rfl, rfl⟩
      · obtain ⟨h21, h22⟩ := (fitsB_iff (2 * v)).1 h2
        cases hbit : (bits BinOp.and IntKind.i64 (B / 2 ^ (k - 1)) 1 == 1)
        · have HN : Hid (2 * v = A * (B / 2 ^ (k - 1))) := by
            show _ = _
            rw [i64_and1, beq_eq_false_iff_ne] at hbit
            rw [H2.out]
            congr 1
            omega
          go_wp2_with (go_at_call 15; refine (rfits_any _ _).mono ?_; rintro e w' ⟨rfl, rfl⟩)
          go_round
          case rel => exact ⟨k - 1, 2 * v, by omega, by rw [show ((k - 1 : Nat) : Int) = (k : Int) - 1 by omega], rfl, HN.out, h2⟩
          case measure => simp [intOf]; omega
        · have HN : Hid (2 * v + A = A * (B / 2 ^ (k - 1))) := by
            show _ = _
            rw [i64_and1, beq_iff_eq] at hbit
            rw [H2.out]
            have e : B / 2 ^ (k - 1) = 2 * (B / 2 ^ (k - 1) / 2) + 1 := by omega
            generalize B / 2 ^ (k - 1) / 2 = q at *
            rw [e, Int.mul_add, Int.mul_one]
          cases h3 : fitsB (2 * v + A)
          · have HR : Hid (mulV a b = 0 ∧ mulE a b = 10) := by
              have hq := HB.out
              have hm := mul_not A B (B / 2 ^ (k - 1)) hq.1 hq.2 (by rw [← HN.out]; exact h3)
              rw [HM.out.1, HM.out.2] at hm; exact hm
            go_wp2_with (go_at_call 15; refine (rfits_any _ _).mono ?_; rintro e w' ⟨rfl, rfl⟩)
            go_ret2
            exact ⟨by rw [HR.out.1, HR.out.2]; rfl, rfl⟩
          · go_wp2_with (go_at_call 15; refine (rfits_any _ _).mono ?_; rintro e w' ⟨rfl, rfl⟩)
            go_round
            case rel => exact ⟨k - 1, 2 * v + A, by omega, by rw [show ((k - 1 : Nat) : Int) = (k : Int) - 1 by omega], rfl, HN.out, h3⟩
            case measure => simp [intOf]; omega
    · have HR : Hid (mulV a b = v ∧ mulE a b = 0) := by
        obtain rfl : k = 0 := by omega
        have hv : v = A * B := by rw [HV.out]; simp
        show _ ∧ _
        rw [hv] at hf
        rw [← HM.out.1, ← HM.out.2]
        simp [mulV, mulE, mulOk, hfA, hfB, hf, hv]
      go_wp2
      go_ret2
      exact ⟨by rw [HR.out.1, HR.out.2]; rfl, rfl⟩

theorem rmul_any (a b : Int) (w : World) :
    Calls Tryd.prog 13 #[.int .i64 a, .int .i64 b] w fun e w' => e = .returned (.tuple #[.int .i64 (mulV a b), .int .i64 (mulE a b)]) ∧ w' = w := by
  cases h : (fitsB a && fitsB b)
  · exact rmul_no a b w h
  · rw [Bool.and_eq_true] at h
    by_cases hn : 0 ≤ b
    · exact rmul_pos a b w h.1 h.2 hn
    · exact rmul_neg a b (-a) (-b) w h.1 h.2 (by omega) rfl rfl

end Go.Proofs.YtafhahgfodlohaaDoor
