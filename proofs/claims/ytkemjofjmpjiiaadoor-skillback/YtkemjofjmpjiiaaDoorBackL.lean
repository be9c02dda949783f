/-
  What the law SkillBack does.
-/
import Derived.Test.YtkemjofjmpjiiaaDoorNums
namespace Go.Proofs.YtkemjofjmpjiiaaDoor
open Go.RowKit

theorem bitsF_up : ∀ (n off x : Nat), (bitsF n off x).Pairwise (· < ·)
  | 0, _, _ => List.Pairwise.nil
  | n + 1, off, x => by
    have ih := bitsF_up n (off + 1) (x / 2)
    rw [bitsF_succ]
    split
    · refine List.pairwise_cons.2 ⟨fun k hk => ?_, ih⟩
      have := (bitsF_mem _ _ _ _).1 hk
      omega
    · exact ih
theorem bits_bitsI (x : Nat) (hx : x < 18446744073709551616) : Bits x (bitsI x) := fun k => by
  have h : (k : Int) ∈ bitsI x ↔ k ∈ bitsF 64 0 x := by
    unfold bitsI
    rw [List.mem_map]
    constructor
    · rintro ⟨j, hj, e⟩
      rw [show k = j by omega]; exact hj
    · exact fun h => ⟨k, h, rfl⟩
  rw [h, bitsF_mem]
  simp only [Nat.zero_le, Nat.zero_add, Nat.sub_zero, true_and]
  constructor
  · intro hb
    refine ⟨?_, hb⟩
    rcases Nat.lt_or_ge k 64 with h | h
    · exact h
    · rw [Nat.testBit_lt_two_pow (Nat.lt_of_lt_of_le hx (Nat.pow_le_pow_right (n := 2) (by decide) h))] at hb; cases hb
  · exact fun h => h.2
theorem fine_bitsI (x : Nat) (hx : x < 4611686018427387904) : Fine (bitsI x) := by
  have hB := bits_bitsI x (by omega)
  refine ⟨fun z hz => ?_, ?_⟩
  · obtain ⟨j, _, rfl⟩ := List.mem_map.1 hz
    have hb := (hB j).2 hz
    rcases Nat.lt_or_ge j 62 with h | h
    · omega
    · rw [Nat.testBit_lt_two_pow (Nat.lt_of_lt_of_le hx (Nat.pow_le_pow_right (n := 2) (by decide) h))] at hb; cases hb
  · unfold bitsI List.Nodup
    rw [List.pairwise_map]
    exact (bitsF_up 64 0 x).imp fun h => by omega
theorem of_bitsI (x : Nat) (hx : x < 4611686018427387904) : ofM (bitsI x) = (x, 0, 0) := by
  obtain ⟨t, e, hb, _, _⟩ := ofM_good (fine_bitsI x hx)
  rw [e, bits_same hb (bits_bitsI x (by omega)) (fun _ => Iff.rfl)]
theorem cov_self (a : Nat) : coversB a a = true := by simp [coversB]
theorem cov_and (a b : Nat) : coversB a (a &&& b) = true := by
  simp only [coversB, decide_eq_true_eq]
  refine Nat.eq_of_testBit_eq fun k => ?_
  rw [Nat.testBit_or, Nat.testBit_and]
  cases a.testBit k <;> simp
theorem cov_or (a b : Nat) : coversB (a ||| b) b = true := by
  simp only [coversB, decide_eq_true_eq]
  refine Nat.eq_of_testBit_eq fun k => ?_
  rw [Nat.testBit_or, Nat.testBit_or]
  cases b.testBit k <;> simp
set_option maxRecDepth 100000 in
set_option maxHeartbeats 3200000 in
theorem back_any (x y : Nat) (hx : x < 18446744073709551616) (hy : y < 18446744073709551616) (w : World) (hT : Tab w) :
    Calls Tryd.prog 4 #[.int .u64 x, .int .u64 y] w fun e w' => e = .returned (.bool true) ∧ Below w.heap.size w w' := by
  have HT0 := hide hT
  have HB0 := hide (Below.refl w.heap.size w)
  obtain ⟨a, ha⟩ : ∃ a, x / 4 = a := ⟨_, rfl⟩
  obtain ⟨b, hb⟩ : ∃ b, y / 4 = b := ⟨_, rfl⟩
  have ea : (x : Int) / 4 = (a : Int) := by omega
  have eb : (y : Int) / 4 = (b : Int) := by omega
  have la : a < 4611686018427387904 := by omega
  have lb : b < 4611686018427387904 := by omega
  have la2 : a < 18446744073709551616 := by omega
  have lb2 : b < 18446744073709551616 := by omega
  have hand := bits_and_u64_nat a b (by omega) (by omega)
  have hor := bits_or_u64_nat a b (by omega) (by omega)
  have lc : a &&& b < 18446744073709551616 := Nat.lt_of_le_of_lt Nat.and_le_left la2
  have ld : a ||| b < 18446744073709551616 := Nat.or_lt_two_pow (n := 64) la2 lb2
  have q1 := cov_self a
  have q2 := cov_and a b
  have q3 := cov_or a b
  have q4 : coversB a b = decide (a ||| b = a) := rfl
  have hpop := pop_or_and 64 a b
  have HOF := hide (of_bitsI a la)
  have HLN := hide (bitsI_len a)
  have p1 := pop_le 64 a
  have p2 := pop_le 64 b
  have p3 := pop_le 64 (a ||| b)
  have p4 := pop_le 64 (a &&& b)
  have hvv : decide (a < 4611686018427387904) = true := by simpa using la
  generalize a &&& b = c at hand lc q2 hpop p4
  generalize a ||| b = d at hor ld q3 q4 hpop p3
  generalize hpa : pop 64 a = na at hpop HLN p1
  generalize hpb : pop 64 b = nb at hpop p2
  generalize hpd : pop 64 d = nd at hpop p3
  generalize hpc : pop 64 c = nc at hpop p4
  have r1 : ((a : Int) == (a : Int)) = true := by simp
  have r2 : ((na : Int) + (nb : Int) == (nd : Int) + (nc : Int)) = true := by simp; omega
  have HCA : Hid (∀ w', Calls Tryd.prog 12 #[.int .u64 a] w' fun e w'' => e = .returned (.int .i64 na) ∧ w'' = w') := fun w' => by rw [← hpa]; exact count_any a la2 w'
  have HCB : Hid (∀ w', Calls Tryd.prog 12 #[.int .u64 b] w' fun e w'' => e = .returned (.int .i64 nb) ∧ w'' = w') := fun w' => by rw [← hpb]; exact count_any b lb2 w'
  have HCC : Hid (∀ w', Calls Tryd.prog 12 #[.int .u64 c] w' fun e w'' => e = .returned (.int .i64 nc) ∧ w'' = w') := fun w' => by rw [← hpc]; exact count_any c lc w'
  have HCD : Hid (∀ w', Calls Tryd.prog 12 #[.int .u64 d] w' fun e w'' => e = .returned (.int .i64 nd) ∧ w'' = w') := fun w' => by rw [← hpd]; exact count_any d ld w'
  have HLI : Hid (∀ w', Tab w' → Calls Tryd.prog 11 #[.int .u64 a] w' fun e w'' => ∃ ad c, e = .returned (.slice ad na c) ∧ IRow w'' w'.heap.size (.slice ad na c) (bitsI a) ∧ Below w'.heap.size w' w'') := fun w' h => by rw [← hpa]; exact list_any a la2 w' h
  have HO : Hid (∀ (w' : World) ad cp, IntsAt w' ad (bitsI a) → Calls Tryd.prog 6 #[.slice ad na cp] w' fun e w'' => e = .returned (.tuple #[.int .u64 a, .int .i64 0, .int .i64 0]) ∧ w'' = w') := fun w' ad cp h => by
    have := of_any (ca := cp) h HLN.out (by omega)
    rw [HOF.out] at this
    exact this
  have M1 : Hid True := trivial
  have M2 : Hid True := trivial
  have M3 : Hid True := trivial
  have M4 : Hid True := trivial
  have M5 : Hid True := trivial
  have M6 : Hid True := trivial
  clear hT ha hb hpa hpb hpc hpd hpop hx hy
  have hq : ∃ q : Bool, coversB a b = q ∧ ((d : Int) == (a : Int)) = q := by
    by_cases hda : d = a
    · exact ⟨true, by rw [q4]; simpa using hda, by rw [hda]; simp⟩
    · exact ⟨false, by rw [q4]; simpa using hda, by simp; omega⟩
  obtain ⟨q, q5, r3⟩ := hq
  clear q4
  cases q
  all_goals
    go_enter Tryd.func4, Tryd.ntmps4
    go_wp2_with (first
      | (go_at_call 5; refine (awake_any _).mono ?_; rintro e w1 ⟨rfl, k2⟩; have HB1 := hide (below_on HB0.out k2); have HT1 := hide (HT0.out.later k2); clear k2)
      | (go_at_call 11; refine (HLI.out w1 HT1.out).mono ?_; rintro e w2 ⟨ad, cp, rfl, k1, k2⟩; have HB2 := hide (below_on HB1.out k2); have R2 := hide k1.ints; clear k1 k2)
      | (go_at_call 6; refine (HO.out _ _ _ R2.out).mono ?_; rintro e w3 ⟨rfl, hw⟩; rw [hw]; clear hw)
      | (go_at_call 9; refine (valid_any a _).mono ?_; rintro e w3 ⟨rfl, hw⟩; rw [hw]; clear hw)
      | (go_at_call 13; clear M1; refine (covers_any a a la2 la2 _).mono ?_; rintro e w3 ⟨rfl, hw⟩; rw [hw]; clear hw)
      | (go_at_call 13; clear M2; refine (covers_any a c la2 lc _).mono ?_; rintro e w3 ⟨rfl, hw⟩; rw [hw]; clear hw)
      | (go_at_call 13; clear M3; refine (covers_any d b ld lb2 _).mono ?_; rintro e w3 ⟨rfl, hw⟩; rw [hw]; clear hw)
      | (go_at_call 13; refine (covers_any a b la2 lb2 _).mono ?_; rintro e w3 ⟨rfl, hw⟩; rw [hw]; clear hw)
      | (go_at_call 12; clear M4; refine (HCA.out _).mono ?_; rintro e w3 ⟨rfl, hw⟩; rw [hw]; clear hw)
      | (go_at_call 12; clear M5; refine (HCB.out _).mono ?_; rintro e w3 ⟨rfl, hw⟩; rw [hw]; clear hw)
      | (go_at_call 12; clear M6; refine (HCD.out _).mono ?_; rintro e w3 ⟨rfl, hw⟩; rw [hw]; clear hw)
      | (go_at_call 12; refine (HCC.out _).mono ?_; rintro e w3 ⟨rfl, hw⟩; rw [hw]; clear hw))
    go_ret
    exact ⟨rfl, HB2.out⟩
end Go.Proofs.YtkemjofjmpjiiaaDoor
