/-
  What the law SkillSets does.
-/
import Derived.Test.YtkemjofjmpjiiaaDoorNums
namespace Go.Proofs.YtkemjofjmpjiiaaDoor
open Go.RowKit

/-- Has the first each of the second's first k bits? -/
def covK (a b : Nat) : Nat → Bool
  | 0 => true
  | k + 1 => covK a b k && (decide (b / 2 ^ k % 2 = 0) || decide (a / 2 ^ k % 2 = 1))
theorem testBit_div (x k : Nat) : x.testBit k = decide (x / 2 ^ k % 2 = 1) := by rw [Nat.testBit_eq_decide_div_mod_eq]
theorem covK_iff (a b : Nat) : ∀ k, covK a b k = true ↔ ∀ j, j < k → b.testBit j = true → a.testBit j = true
  | 0 => by simp [covK]
  | k + 1 => by
    unfold covK
    rw [Bool.and_eq_true, covK_iff a b k, Bool.or_eq_true, decide_eq_true_eq, decide_eq_true_eq]
    have hb := testBit_div b k
    have ha := testBit_div a k
    constructor
    · rintro ⟨h1, h2⟩ j hj h3
      rcases Nat.lt_or_ge j k with h | h
      · exact h1 j h h3
      · obtain rfl : j = k := by omega
        rw [hb] at h3
        rw [ha]
        simp only [decide_eq_true_eq] at h3 ⊢
        omega
    · intro h
      refine ⟨fun j hj => h j (by omega), ?_⟩
      have := h k (by omega)
      rw [ha, hb] at this
      simp only [decide_eq_true_eq] at this
      omega
theorem covK_all (a b : Nat) (hb : b < 18446744073709551616) : covK a b 64 = coversB a b := by
  rw [Bool.eq_iff_iff, covK_iff]
  simp only [coversB, decide_eq_true_eq]
  constructor
  · intro h
    refine Nat.eq_of_testBit_eq fun k => ?_
    rw [Nat.testBit_or]
    rcases Nat.lt_or_ge k 64 with hk | hk
    · have := h k hk
      cases hB : b.testBit k
      · simp
      · simp [this hB]
    · rw [Nat.testBit_lt_two_pow (Nat.lt_of_lt_of_le hb (Nat.pow_le_pow_right (n := 2) (by decide) hk))]; simp
  · intro h j _ hB
    have h1 := congrArg (·.testBit j) h
    simp only [Nat.testBit_or, hB, Bool.or_true] at h1
    exact h1.symm
set_option maxRecDepth 100000 in
set_option maxHeartbeats 3200000 in
theorem sets_any {w : World} {ad : Option Addr} {n ca : Nat} {zs : List Int} (a b : Nat) (ha : IntsAt w ad zs) (la : zs.length = n) (ca0 : ad = none → ca = 0) (ma : n ≤ 9223372036854775807) (hx : a < 18446744073709551616) (hy : b < 18446744073709551616) (hT : Tab w) :
    Calls Tryd.prog 3 #[.slice ad n ca, .int .u64 a, .int .u64 b] w fun e w' => e = .returned (.bool true) ∧ Below w.heap.size w w' := by
  have R0 := hide ha
  have HL := hide la
  have HC := hide ca0
  have HT0 := hide hT
  have HB0 := hide (Below.refl w.heap.size w)
  clear ha la ca0 hT
  by_cases g1 : 1000 < n
  · have j1 : (1000 : Int) < (n : Int) := by omega
    go_enter Tryd.func3, Tryd.ntmps3
    go_wp2_with (first
      | (go_at_call 5; refine (awake_any _).mono ?_; rintro e w1 ⟨rfl, k2⟩; have HB1 := hide (below_on HB0.out k2); clear k2))
    go_ret
    exact ⟨rfl, HB1.out⟩
  have j1 : ¬ (1000 : Int) < (n : Int) := by omega
  obtain ⟨s, k, e, HV⟩ : ∃ s k e, Hid (ofM zs = (s, k, e)) := ⟨_, _, _, rfl⟩
  have HLN := hide (bitsI_len a)
  have hp := pop_le 64 a
  have HNU := hide (fun w => numbers_any a hx w)
  have HLI := hide (fun w h => list_any a hx w h)
  have HCN := hide (fun w => count_any a hx w)
  generalize pop 64 a = m at HLN hp HNU HLI HCN
  have HO1 : Hid (∀ (w' : World) a c, IntsAt w' a zs → Calls Tryd.prog 6 #[.slice a n c] w' fun e' w'' => e' = .returned (.tuple #[.int .u64 s, .int .i64 k, .int .i64 e]) ∧ w'' = w') := fun w' a c h => by
    have := of_any (ca := c) h HL.out (by omega)
    rw [HV.out] at this
    exact this
  have HO2 : Hid (∀ (w' : World) a c, IntsAt w' a zs → Calls Tryd.prog 7 #[.slice a n c] w' fun e' w'' => e' = .returned (.tuple #[.int .u64 s, .int .i64 k, .int .i64 e]) ∧ Below w'.heap.size w' w'') := fun w' a c h => by
    have := skills_any (ca := c) h HL.out (by omega)
    rw [HV.out] at this
    exact this
  have HK := hide (covK_all a b hy)
  have z1 : ((s : Int) == (s : Int)) = true := by simp
  have z2 : ((k : Int) == (k : Int)) = true := by simp
  have z3 : ((e : Int) == (e : Int)) = true := by simp
  have z4 : ((m : Int) == (m : Int)) = true := by simp
  go_enter Tryd.func3, Tryd.ntmps3
  go_wp2_with (first
    | (go_at_call 5; refine (awake_any _).mono ?_; rintro e w1 ⟨rfl, k2⟩; have HB1 := hide (below_on HB0.out k2); have R1 := hide (R0.out.later k2); have HT1 := hide (HT0.out.later k2); clear k2)
    | (go_at_call 6; refine (HO1.out _ _ _ O2.out).mono ?_; rintro e w4 ⟨rfl, hw⟩; rw [hw]; clear hw)
    | (at_builtin; refine app_ints (.tmp 22) (.tmp 23) rfl rfl rfl rfl HL.out R1.out HC.out (by omega) HB1.out ?_; intro a_x c_x w2 k1 k2 k3; have HB2 := hide k3; have O2 := hide k1.ints; have R2 := hide (R1.out.later k2); have HT2 := hide (HT1.out.later k2); clear k1 k2 k3)
    | (go_at_call 7; refine (HO2.out _ _ _ R2.out).mono ?_; rintro e w3 ⟨rfl, k2⟩; have HB3 := hide (below_on HB2.out k2); have HT3 := hide (HT2.out.later k2); clear k2)
    | (go_at_call 8; refine (HNU.out _).mono ?_; rintro e w4 ⟨an, cn, rfl, k1, k2⟩; have HB4 := hide (below_on HB3.out k2); have HT4 := hide (HT3.out.later k2); have RN := hide k1.ints; clear k1 k2))
  go_loopw [14, 15] (fun vc vi wr => ∃ i : Nat, vi = .int .i64 i ∧ vc = .bool (covK a b i) ∧ i ≤ 64 ∧ Hid (wr = w4)) (fun _ vi _ => 64 - (intOf vi).toNat)
  case atStart => exact ⟨0, rfl, rfl, by decide, rfl⟩
  case round =>
    obtain ⟨i, rfl, rfl, hi, HR⟩ := hrel
    have HW := HR.out
    subst HW
    clear HR
    by_cases hil : i < 64
    · have i1 : (i : Int) < 64 := by omega
      have HS : Hid (covK a b (i + 1) = (covK a b i && (decide (b / 2 ^ i % 2 = 0) || decide (a / 2 ^ i % 2 = 1)))) := rfl
      have ha1 := shr_nat a i
      have hb1 := shr_nat b i
      have ha2 := and_one (a / 2 ^ i) (Nat.lt_of_le_of_lt (Nat.div_le_self _ _) hx)
      have hb2 := and_one (b / 2 ^ i) (Nat.lt_of_le_of_lt (Nat.div_le_self _ _) hy)
      have hmin : min i 64 = i := by omega
      generalize a / 2 ^ i = a' at HS ha1 ha2
      generalize b / 2 ^ i = b' at HS hb1 hb2
      generalize covK a b i = c at HS
      have fin : ∀ c', covK a b (i + 1) = c' → ∃ i_1 : Nat, Value.int .i64 ((i : Int) + 1) = .int .i64 i_1 ∧ Value.bool c' = .bool (covK a b i_1) ∧ i_1 ≤ 64 := fun c' h => ⟨i + 1, by simp, by rw [h], by omega⟩
      have HFN := hide fin
      clear fin
      have HD : Hid ((((64 - (intOf (.int .i64 ((i : Int) + 1))).toNat : Nat)) < 64 - (intOf (.int .i64 (i : Int))).toNat)) := by
        show _ < _
        simp [intOf]; omega
      cases c
      · go_wp2
        go_roundw
        case rel => exact ⟨i + 1, by go_num, by rw [HS.out]; rfl, by omega, hide trivial⟩
        case measure => simp [intOf]; omega
      · rcases Nat.mod_two_eq_zero_or_one b' with h2 | h2
        · rw [h2] at hb2 HS
          rw [show ((0 : Nat) : Int) = 0 from rfl] at hb2
          have y0 : ((0 : Int) == 0) = true := rfl
          clear h2
          go_wp2
          go_roundw
          case rel => exact ⟨i + 1, by go_num, by rw [HS.out]; rfl, by omega, hide trivial⟩
          case measure => simp [intOf]; omega
        · rw [h2] at hb2 HS
          rw [show ((1 : Nat) : Int) = 1 from rfl] at hb2
          have y0 : ((1 : Int) == 0) = false := rfl
          clear h2
          rcases Nat.mod_two_eq_zero_or_one a' with h3 | h3
          · rw [h3] at ha2 HS
            rw [show ((0 : Nat) : Int) = 0 from rfl] at ha2
            have y1 : ((0 : Int) == 1) = false := rfl
            clear h3
            go_wp2
            go_roundw
            case rel => exact ⟨i + 1, by go_num, by rw [HS.out]; rfl, by omega, hide trivial⟩
            case measure => simp [intOf]; omega
          · rw [h3] at ha2 HS
            rw [show ((1 : Nat) : Int) = 1 from rfl] at ha2
            have y1 : ((1 : Int) == 1) = true := rfl
            clear h3
            go_wp2
            go_roundw
            case rel => exact ⟨i + 1, by go_num, by rw [HS.out]; rfl, by omega, hide trivial⟩
            case measure => simp [intOf]; omega
    · have i1 : ¬ (i : Int) < 64 := by omega
      have h64 : i = 64 := by omega
      subst h64
      rw [HK.out]
      have hq : ∃ q : Bool, decide (a < 4611686018427387904) = q ∧ decide ((a : Int) < 4611686018427387904) = q := by
        by_cases h : a < 4611686018427387904
        · exact ⟨true, by simpa using h, by simp; omega⟩
        · exact ⟨false, by simpa using h, by simp; omega⟩
      obtain ⟨q, q1, q2⟩ := hq
      have q3 : (q == q) = true := by simp
      generalize hcv : coversB a b = cv
      have HCV : Hid (∀ w', Calls Tryd.prog 13 #[.int .u64 a, .int .u64 b] w' fun e w'' => e = .returned (.bool cv) ∧ w'' = w') := fun w' => by rw [← hcv]; exact covers_any a b hx hy w'
      have q4 : (cv == cv) = true := by simp
      clear hcv
      cases q <;> cases cv
      all_goals
        go_wp2_with (first
          | (go_at_call 9; refine (valid_any a _).mono ?_; rintro e w3 ⟨rfl, hw⟩; rw [hw]; clear hw)
          | (go_at_call 11; refine (HLI.out _ HT4.out).mono ?_; rintro e w5 ⟨a5, c5, rfl, k1, k2⟩; have HB5 := hide (below_on HB4.out k2); have R5 := hide k1.ints; have RN5 := hide (RN.out.later k2); clear k1 k2)
          | (go_at_call 10; refine (sameInts_true R5.out RN5.out HLN.out (by omega)).mono ?_; rintro e w6 ⟨rfl, k2⟩; have HB6 := hide (below_on HB5.out k2); clear k2)
          | (go_at_call 12; refine (HCN.out _).mono ?_; rintro e w7 ⟨rfl, hw⟩; rw [hw]; clear hw)
          | (go_at_call 13; refine (HCV.out _).mono ?_; rintro e w7 ⟨rfl, hw⟩; rw [hw]; clear hw))
        go_ret
        exact ⟨rfl, HB6.out⟩
end Go.Proofs.YtkemjofjmpjiiaaDoor
