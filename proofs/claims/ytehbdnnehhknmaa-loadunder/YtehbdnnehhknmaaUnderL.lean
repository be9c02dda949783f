/-
  What the law LoadUnder does.
-/
import Derived.Test.YtehbdnnehhknmaaIs
namespace Go.Proofs.Ytehbdnnehhknmaa
open Go.RowKit

set_option maxRecDepth 100000 in
set_option maxHeartbeats 3200000 in
theorem lawUnder_any {w : World} {a b c : Option Addr} {na nb nc ca cb cc : Nat} {za zb zc : List Int} (ha : IntsAt w a za) (hb : IntsAt w b zb) (hc : IntsAt w c zc) (la : za.length = na) (lb : zb.length = nb) (lc : zc.length = nc)
    (ca0 : a = none → ca = 0) (cb0 : b = none → cb = 0) (cc0 : c = none → cc = 0) (ma : na ≤ 9223372036854775807) (mb : nb ≤ 9223372036854775807) (mc : nc ≤ 9223372036854775807) :
    Calls Try.prog 5 #[.slice a na ca, .slice b nb cb, .slice c nc cc] w fun e w' => e = .returned (.bool true) ∧ Below w.heap.size w w' := by
  have R0_a := hide ha
  have R0_b := hide hb
  have R0_c := hide hc
  have HL_a := hide la
  have HL_b := hide lb
  have HL_c := hide lc
  have HC_a := hide ca0
  have HC_b := hide cb0
  have HC_c := hide cc0
  have HB0 := hide (Below.refl w.heap.size w)
  clear ha hb hc la lb lc ca0 cb0 cc0
  by_cases g1 : 500 < na
  · have j1 : (500 : Int) < (na : Int) := by omega
    go_enter Try.func5, Try.ntmps5
    go_wp2_with (first
      | (go_at_call 7; refine (awake_any _).mono ?_; rintro e w1 ⟨rfl, k2⟩; have HB1 := hide (below_on HB0.out k2); have R1_a := hide (R0_a.out.later k2); have R1_b := hide (R0_b.out.later k2); have R1_c := hide (R0_c.out.later k2); clear k2))
    go_ret
    exact ⟨rfl, HB1.out⟩
  by_cases g2 : 500 < nb
  · have j1 : ¬ (500 : Int) < (na : Int) := by omega
    have j2 : (500 : Int) < (nb : Int) := by omega
    go_enter Try.func5, Try.ntmps5
    go_wp2_with (first
      | (go_at_call 7; refine (awake_any _).mono ?_; rintro e w1 ⟨rfl, k2⟩; have HB1 := hide (below_on HB0.out k2); have R1_a := hide (R0_a.out.later k2); have R1_b := hide (R0_b.out.later k2); have R1_c := hide (R0_c.out.later k2); clear k2))
    go_ret
    exact ⟨rfl, HB1.out⟩
  by_cases g3 : 500 < nc
  · have j1 : ¬ (500 : Int) < (na : Int) := by omega
    have j2 : ¬ (500 : Int) < (nb : Int) := by omega
    have j3 : (500 : Int) < (nc : Int) := by omega
    go_enter Try.func5, Try.ntmps5
    go_wp2_with (first
      | (go_at_call 7; refine (awake_any _).mono ?_; rintro e w1 ⟨rfl, k2⟩; have HB1 := hide (below_on HB0.out k2); have R1_a := hide (R0_a.out.later k2); have R1_b := hide (R0_b.out.later k2); have R1_c := hide (R0_c.out.later k2); clear k2))
    go_ret
    exact ⟨rfl, HB1.out⟩
  have j1 : ¬ (500 : Int) < (na : Int) := by omega
  have j2 : ¬ (500 : Int) < (nb : Int) := by omega
  have j3 : ¬ (500 : Int) < (nc : Int) := by omega
  obtain ⟨ms, me, HV⟩ : ∃ ms me, Hid (eachM mostF zb zc = (ms, me)) := ⟨_, _, rfl⟩
  have HK : Hid (ms.length = ms.length) := rfl
  have hml : ms.length ≤ 500 := by
    have := eachM_len mostF zb zc
    rw [HV.out, HL_b.out] at this
    exact Nat.le_trans this (by omega)
  generalize hmk : ms.length = k at hml HK
  have HKM : Hid (ms.length = k) := hmk
  clear hmk HK
  have hself := under_self za
  cases hP : underB za zb
  · by_cases hz : me = 0
    · subst hz
      have z1 : ((0 : Int) != 0) = false := rfl
      go_enter Try.func5, Try.ntmps5
      go_wp2_with (first
        | (go_at_call 18; refine (under_any R6_a.out R6_b.out HL_a.out HL_b.out (by omega) (by omega)).mono ?_; rintro e w7 ⟨rfl, k2⟩; have HB7 := hide (below_on HB6.out k2); have R7_a := hide (R6_a.out.later k2); have R7_b := hide (R6_b.out.later k2); have R7_c := hide (R6_c.out.later k2); have R7_x := hide (R6_x.out.later k2); have R7_y := hide (R6_y.out.later k2); have R7_m := hide (R6_m.out.later k2); clear k2)
        | (go_at_call 18; refine (under_any R5_a.out R5_b.out HL_a.out HL_b.out (by omega) (by omega)).mono ?_; rintro e w6 ⟨rfl, k2⟩; have HB6 := hide (below_on HB5.out k2); have R6_a := hide (R5_a.out.later k2); have R6_b := hide (R5_b.out.later k2); have R6_c := hide (R5_c.out.later k2); have R6_x := hide (R5_x.out.later k2); have R6_y := hide (R5_y.out.later k2); have R6_m := hide (R5_m.out.later k2); clear k2)
        | (go_at_call 18; refine (under_any R4_a.out R4_a.out HL_a.out HL_a.out (by omega) (by omega)).mono ?_; rintro e w5 ⟨rfl, k2⟩; have HB5 := hide (below_on HB4.out k2); have R5_a := hide (R4_a.out.later k2); have R5_b := hide (R4_b.out.later k2); have R5_c := hide (R4_c.out.later k2); have R5_x := hide (R4_x.out.later k2); have R5_y := hide (R4_y.out.later k2); have R5_m := hide (R4_m.out.later k2); clear k2)
        | (go_at_call 13; refine (most_is HV HKM R3_x.out R3_y.out HL_b.out HL_c.out (by omega) (by omega)).mono ?_; rintro e w4 ⟨a_m, c_m, rfl, k1, k2⟩; have HB4 := hide (below_on HB3.out k2); have R4_m := hide k1.ints; have O4_m := hide k1; have R4_a := hide (R3_a.out.later k2); have R4_b := hide (R3_b.out.later k2); have R4_c := hide (R3_c.out.later k2); have R4_x := hide (R3_x.out.later k2); have R4_y := hide (R3_y.out.later k2); clear k1 k2)
        | (at_builtin; refine app_ints (.tmp 28) (.tmp 29) rfl rfl rfl rfl HL_c.out R2_c.out HC_c.out (by omega) HB2.out ?_; intro a_y c_y w3 k1 k2 k3; have HB3 := hide k3; have R3_y := hide k1.ints; have O3_y := hide k1; have R3_a := hide (R2_a.out.later k2); have R3_b := hide (R2_b.out.later k2); have R3_c := hide (R2_c.out.later k2); have R3_x := hide (R2_x.out.later k2); clear k1 k2 k3)
        | (at_builtin; refine app_ints (.tmp 25) (.tmp 26) rfl rfl rfl rfl HL_b.out R1_b.out HC_b.out (by omega) HB1.out ?_; intro a_x c_x w2 k1 k2 k3; have HB2 := hide k3; have R2_x := hide k1.ints; have O2_x := hide k1; have R2_a := hide (R1_a.out.later k2); have R2_b := hide (R1_b.out.later k2); have R2_c := hide (R1_c.out.later k2); clear k1 k2 k3)
        | (go_at_call 7; refine (awake_any _).mono ?_; rintro e w1 ⟨rfl, k2⟩; have HB1 := hide (below_on HB0.out k2); have R1_a := hide (R0_a.out.later k2); have R1_b := hide (R0_b.out.later k2); have R1_c := hide (R0_c.out.later k2); clear k2))
      go_ret
      exact ⟨rfl, HB7.out⟩
    · have z1 : (me != 0) = true := by simpa using hz
      go_enter Try.func5, Try.ntmps5
      go_wp2_with (first
        | (go_at_call 18; refine (under_any R5_a.out R5_b.out HL_a.out HL_b.out (by omega) (by omega)).mono ?_; rintro e w6 ⟨rfl, k2⟩; have HB6 := hide (below_on HB5.out k2); have R6_a := hide (R5_a.out.later k2); have R6_b := hide (R5_b.out.later k2); have R6_c := hide (R5_c.out.later k2); have R6_x := hide (R5_x.out.later k2); have R6_y := hide (R5_y.out.later k2); have R6_m := hide (R5_m.out.later k2); clear k2)
        | (go_at_call 18; refine (under_any R4_a.out R4_a.out HL_a.out HL_a.out (by omega) (by omega)).mono ?_; rintro e w5 ⟨rfl, k2⟩; have HB5 := hide (below_on HB4.out k2); have R5_a := hide (R4_a.out.later k2); have R5_b := hide (R4_b.out.later k2); have R5_c := hide (R4_c.out.later k2); have R5_x := hide (R4_x.out.later k2); have R5_y := hide (R4_y.out.later k2); have R5_m := hide (R4_m.out.later k2); clear k2)
        | (go_at_call 13; refine (most_is HV HKM R3_x.out R3_y.out HL_b.out HL_c.out (by omega) (by omega)).mono ?_; rintro e w4 ⟨a_m, c_m, rfl, k1, k2⟩; have HB4 := hide (below_on HB3.out k2); have R4_m := hide k1.ints; have O4_m := hide k1; have R4_a := hide (R3_a.out.later k2); have R4_b := hide (R3_b.out.later k2); have R4_c := hide (R3_c.out.later k2); have R4_x := hide (R3_x.out.later k2); have R4_y := hide (R3_y.out.later k2); clear k1 k2)
        | (at_builtin; refine app_ints (.tmp 28) (.tmp 29) rfl rfl rfl rfl HL_c.out R2_c.out HC_c.out (by omega) HB2.out ?_; intro a_y c_y w3 k1 k2 k3; have HB3 := hide k3; have R3_y := hide k1.ints; have O3_y := hide k1; have R3_a := hide (R2_a.out.later k2); have R3_b := hide (R2_b.out.later k2); have R3_c := hide (R2_c.out.later k2); have R3_x := hide (R2_x.out.later k2); clear k1 k2 k3)
        | (at_builtin; refine app_ints (.tmp 25) (.tmp 26) rfl rfl rfl rfl HL_b.out R1_b.out HC_b.out (by omega) HB1.out ?_; intro a_x c_x w2 k1 k2 k3; have HB2 := hide k3; have R2_x := hide k1.ints; have O2_x := hide k1; have R2_a := hide (R1_a.out.later k2); have R2_b := hide (R1_b.out.later k2); have R2_c := hide (R1_c.out.later k2); clear k1 k2 k3)
        | (go_at_call 7; refine (awake_any _).mono ?_; rintro e w1 ⟨rfl, k2⟩; have HB1 := hide (below_on HB0.out k2); have R1_a := hide (R0_a.out.later k2); have R1_b := hide (R0_b.out.later k2); have R1_c := hide (R0_c.out.later k2); clear k2))
      go_ret
      exact ⟨rfl, HB6.out⟩
  · cases hQ : underB zb zc
    · by_cases hz : me = 0
      · subst hz
        have z1 : ((0 : Int) != 0) = false := rfl
        have ham := under_trans hP (most_above HV.out).1
        go_enter Try.func5, Try.ntmps5
        go_wp2_with (first
          | (go_at_call 18; refine (under_any R8_a.out R8_m.out HL_a.out HKM.out (by omega) (by omega)).mono ?_; rintro e w9 ⟨rfl, k2⟩; have HB9 := hide (below_on HB8.out k2); have R9_a := hide (R8_a.out.later k2); have R9_b := hide (R8_b.out.later k2); have R9_c := hide (R8_c.out.later k2); have R9_x := hide (R8_x.out.later k2); have R9_y := hide (R8_y.out.later k2); have R9_m := hide (R8_m.out.later k2); clear k2)
          | (go_at_call 18; refine (under_any R7_a.out R7_b.out HL_a.out HL_b.out (by omega) (by omega)).mono ?_; rintro e w8 ⟨rfl, k2⟩; have HB8 := hide (below_on HB7.out k2); have R8_a := hide (R7_a.out.later k2); have R8_b := hide (R7_b.out.later k2); have R8_c := hide (R7_c.out.later k2); have R8_x := hide (R7_x.out.later k2); have R8_y := hide (R7_y.out.later k2); have R8_m := hide (R7_m.out.later k2); clear k2)
          | (go_at_call 18; refine (under_any R6_b.out R6_c.out HL_b.out HL_c.out (by omega) (by omega)).mono ?_; rintro e w7 ⟨rfl, k2⟩; have HB7 := hide (below_on HB6.out k2); have R7_a := hide (R6_a.out.later k2); have R7_b := hide (R6_b.out.later k2); have R7_c := hide (R6_c.out.later k2); have R7_x := hide (R6_x.out.later k2); have R7_y := hide (R6_y.out.later k2); have R7_m := hide (R6_m.out.later k2); clear k2)
          | (go_at_call 18; refine (under_any R5_a.out R5_b.out HL_a.out HL_b.out (by omega) (by omega)).mono ?_; rintro e w6 ⟨rfl, k2⟩; have HB6 := hide (below_on HB5.out k2); have R6_a := hide (R5_a.out.later k2); have R6_b := hide (R5_b.out.later k2); have R6_c := hide (R5_c.out.later k2); have R6_x := hide (R5_x.out.later k2); have R6_y := hide (R5_y.out.later k2); have R6_m := hide (R5_m.out.later k2); clear k2)
          | (go_at_call 18; refine (under_any R4_a.out R4_a.out HL_a.out HL_a.out (by omega) (by omega)).mono ?_; rintro e w5 ⟨rfl, k2⟩; have HB5 := hide (below_on HB4.out k2); have R5_a := hide (R4_a.out.later k2); have R5_b := hide (R4_b.out.later k2); have R5_c := hide (R4_c.out.later k2); have R5_x := hide (R4_x.out.later k2); have R5_y := hide (R4_y.out.later k2); have R5_m := hide (R4_m.out.later k2); clear k2)
          | (go_at_call 13; refine (most_is HV HKM R3_x.out R3_y.out HL_b.out HL_c.out (by omega) (by omega)).mono ?_; rintro e w4 ⟨a_m, c_m, rfl, k1, k2⟩; have HB4 := hide (below_on HB3.out k2); have R4_m := hide k1.ints; have O4_m := hide k1; have R4_a := hide (R3_a.out.later k2); have R4_b := hide (R3_b.out.later k2); have R4_c := hide (R3_c.out.later k2); have R4_x := hide (R3_x.out.later k2); have R4_y := hide (R3_y.out.later k2); clear k1 k2)
          | (at_builtin; refine app_ints (.tmp 28) (.tmp 29) rfl rfl rfl rfl HL_c.out R2_c.out HC_c.out (by omega) HB2.out ?_; intro a_y c_y w3 k1 k2 k3; have HB3 := hide k3; have R3_y := hide k1.ints; have O3_y := hide k1; have R3_a := hide (R2_a.out.later k2); have R3_b := hide (R2_b.out.later k2); have R3_c := hide (R2_c.out.later k2); have R3_x := hide (R2_x.out.later k2); clear k1 k2 k3)
          | (at_builtin; refine app_ints (.tmp 25) (.tmp 26) rfl rfl rfl rfl HL_b.out R1_b.out HC_b.out (by omega) HB1.out ?_; intro a_x c_x w2 k1 k2 k3; have HB2 := hide k3; have R2_x := hide k1.ints; have O2_x := hide k1; have R2_a := hide (R1_a.out.later k2); have R2_b := hide (R1_b.out.later k2); have R2_c := hide (R1_c.out.later k2); clear k1 k2 k3)
          | (go_at_call 7; refine (awake_any _).mono ?_; rintro e w1 ⟨rfl, k2⟩; have HB1 := hide (below_on HB0.out k2); have R1_a := hide (R0_a.out.later k2); have R1_b := hide (R0_b.out.later k2); have R1_c := hide (R0_c.out.later k2); clear k2))
        go_ret
        exact ⟨rfl, HB9.out⟩
      · have z1 : (me != 0) = true := by simpa using hz
        go_enter Try.func5, Try.ntmps5
        go_wp2_with (first
          | (go_at_call 18; refine (under_any R6_b.out R6_c.out HL_b.out HL_c.out (by omega) (by omega)).mono ?_; rintro e w7 ⟨rfl, k2⟩; have HB7 := hide (below_on HB6.out k2); have R7_a := hide (R6_a.out.later k2); have R7_b := hide (R6_b.out.later k2); have R7_c := hide (R6_c.out.later k2); have R7_x := hide (R6_x.out.later k2); have R7_y := hide (R6_y.out.later k2); have R7_m := hide (R6_m.out.later k2); clear k2)
          | (go_at_call 18; refine (under_any R5_a.out R5_b.out HL_a.out HL_b.out (by omega) (by omega)).mono ?_; rintro e w6 ⟨rfl, k2⟩; have HB6 := hide (below_on HB5.out k2); have R6_a := hide (R5_a.out.later k2); have R6_b := hide (R5_b.out.later k2); have R6_c := hide (R5_c.out.later k2); have R6_x := hide (R5_x.out.later k2); have R6_y := hide (R5_y.out.later k2); have R6_m := hide (R5_m.out.later k2); clear k2)
          | (go_at_call 18; refine (under_any R4_a.out R4_a.out HL_a.out HL_a.out (by omega) (by omega)).mono ?_; rintro e w5 ⟨rfl, k2⟩; have HB5 := hide (below_on HB4.out k2); have R5_a := hide (R4_a.out.later k2); have R5_b := hide (R4_b.out.later k2); have R5_c := hide (R4_c.out.later k2); have R5_x := hide (R4_x.out.later k2); have R5_y := hide (R4_y.out.later k2); have R5_m := hide (R4_m.out.later k2); clear k2)
          | (go_at_call 13; refine (most_is HV HKM R3_x.out R3_y.out HL_b.out HL_c.out (by omega) (by omega)).mono ?_; rintro e w4 ⟨a_m, c_m, rfl, k1, k2⟩; have HB4 := hide (below_on HB3.out k2); have R4_m := hide k1.ints; have O4_m := hide k1; have R4_a := hide (R3_a.out.later k2); have R4_b := hide (R3_b.out.later k2); have R4_c := hide (R3_c.out.later k2); have R4_x := hide (R3_x.out.later k2); have R4_y := hide (R3_y.out.later k2); clear k1 k2)
          | (at_builtin; refine app_ints (.tmp 28) (.tmp 29) rfl rfl rfl rfl HL_c.out R2_c.out HC_c.out (by omega) HB2.out ?_; intro a_y c_y w3 k1 k2 k3; have HB3 := hide k3; have R3_y := hide k1.ints; have O3_y := hide k1; have R3_a := hide (R2_a.out.later k2); have R3_b := hide (R2_b.out.later k2); have R3_c := hide (R2_c.out.later k2); have R3_x := hide (R2_x.out.later k2); clear k1 k2 k3)
          | (at_builtin; refine app_ints (.tmp 25) (.tmp 26) rfl rfl rfl rfl HL_b.out R1_b.out HC_b.out (by omega) HB1.out ?_; intro a_x c_x w2 k1 k2 k3; have HB2 := hide k3; have R2_x := hide k1.ints; have O2_x := hide k1; have R2_a := hide (R1_a.out.later k2); have R2_b := hide (R1_b.out.later k2); have R2_c := hide (R1_c.out.later k2); clear k1 k2 k3)
          | (go_at_call 7; refine (awake_any _).mono ?_; rintro e w1 ⟨rfl, k2⟩; have HB1 := hide (below_on HB0.out k2); have R1_a := hide (R0_a.out.later k2); have R1_b := hide (R0_b.out.later k2); have R1_c := hide (R0_c.out.later k2); clear k2))
        go_ret
        exact ⟨rfl, HB7.out⟩
    · by_cases hz : me = 0
      · subst hz
        have z1 : ((0 : Int) != 0) = false := rfl
        have ham := under_trans hP (most_above HV.out).1
        have hac := under_trans hP hQ
        go_enter Try.func5, Try.ntmps5
        go_wp2_with (first
          | (go_at_call 18; refine (under_any R9_a.out R9_m.out HL_a.out HKM.out (by omega) (by omega)).mono ?_; rintro e w10 ⟨rfl, k2⟩; have HB10 := hide (below_on HB9.out k2); have R10_a := hide (R9_a.out.later k2); have R10_b := hide (R9_b.out.later k2); have R10_c := hide (R9_c.out.later k2); have R10_x := hide (R9_x.out.later k2); have R10_y := hide (R9_y.out.later k2); have R10_m := hide (R9_m.out.later k2); clear k2)
          | (go_at_call 18; refine (under_any R8_a.out R8_b.out HL_a.out HL_b.out (by omega) (by omega)).mono ?_; rintro e w9 ⟨rfl, k2⟩; have HB9 := hide (below_on HB8.out k2); have R9_a := hide (R8_a.out.later k2); have R9_b := hide (R8_b.out.later k2); have R9_c := hide (R8_c.out.later k2); have R9_x := hide (R8_x.out.later k2); have R9_y := hide (R8_y.out.later k2); have R9_m := hide (R8_m.out.later k2); clear k2)
          | (go_at_call 18; refine (under_any R7_a.out R7_c.out HL_a.out HL_c.out (by omega) (by omega)).mono ?_; rintro e w8 ⟨rfl, k2⟩; have HB8 := hide (below_on HB7.out k2); have R8_a := hide (R7_a.out.later k2); have R8_b := hide (R7_b.out.later k2); have R8_c := hide (R7_c.out.later k2); have R8_x := hide (R7_x.out.later k2); have R8_y := hide (R7_y.out.later k2); have R8_m := hide (R7_m.out.later k2); clear k2)
          | (go_at_call 18; refine (under_any R6_b.out R6_c.out HL_b.out HL_c.out (by omega) (by omega)).mono ?_; rintro e w7 ⟨rfl, k2⟩; have HB7 := hide (below_on HB6.out k2); have R7_a := hide (R6_a.out.later k2); have R7_b := hide (R6_b.out.later k2); have R7_c := hide (R6_c.out.later k2); have R7_x := hide (R6_x.out.later k2); have R7_y := hide (R6_y.out.later k2); have R7_m := hide (R6_m.out.later k2); clear k2)
          | (go_at_call 18; refine (under_any R5_a.out R5_b.out HL_a.out HL_b.out (by omega) (by omega)).mono ?_; rintro e w6 ⟨rfl, k2⟩; have HB6 := hide (below_on HB5.out k2); have R6_a := hide (R5_a.out.later k2); have R6_b := hide (R5_b.out.later k2); have R6_c := hide (R5_c.out.later k2); have R6_x := hide (R5_x.out.later k2); have R6_y := hide (R5_y.out.later k2); have R6_m := hide (R5_m.out.later k2); clear k2)
          | (go_at_call 18; refine (under_any R4_a.out R4_a.out HL_a.out HL_a.out (by omega) (by omega)).mono ?_; rintro e w5 ⟨rfl, k2⟩; have HB5 := hide (below_on HB4.out k2); have R5_a := hide (R4_a.out.later k2); have R5_b := hide (R4_b.out.later k2); have R5_c := hide (R4_c.out.later k2); have R5_x := hide (R4_x.out.later k2); have R5_y := hide (R4_y.out.later k2); have R5_m := hide (R4_m.out.later k2); clear k2)
          | (go_at_call 13; refine (most_is HV HKM R3_x.out R3_y.out HL_b.out HL_c.out (by omega) (by omega)).mono ?_; rintro e w4 ⟨a_m, c_m, rfl, k1, k2⟩; have HB4 := hide (below_on HB3.out k2); have R4_m := hide k1.ints; have O4_m := hide k1; have R4_a := hide (R3_a.out.later k2); have R4_b := hide (R3_b.out.later k2); have R4_c := hide (R3_c.out.later k2); have R4_x := hide (R3_x.out.later k2); have R4_y := hide (R3_y.out.later k2); clear k1 k2)
          | (at_builtin; refine app_ints (.tmp 28) (.tmp 29) rfl rfl rfl rfl HL_c.out R2_c.out HC_c.out (by omega) HB2.out ?_; intro a_y c_y w3 k1 k2 k3; have HB3 := hide k3; have R3_y := hide k1.ints; have O3_y := hide k1; have R3_a := hide (R2_a.out.later k2); have R3_b := hide (R2_b.out.later k2); have R3_c := hide (R2_c.out.later k2); have R3_x := hide (R2_x.out.later k2); clear k1 k2 k3)
          | (at_builtin; refine app_ints (.tmp 25) (.tmp 26) rfl rfl rfl rfl HL_b.out R1_b.out HC_b.out (by omega) HB1.out ?_; intro a_x c_x w2 k1 k2 k3; have HB2 := hide k3; have R2_x := hide k1.ints; have O2_x := hide k1; have R2_a := hide (R1_a.out.later k2); have R2_b := hide (R1_b.out.later k2); have R2_c := hide (R1_c.out.later k2); clear k1 k2 k3)
          | (go_at_call 7; refine (awake_any _).mono ?_; rintro e w1 ⟨rfl, k2⟩; have HB1 := hide (below_on HB0.out k2); have R1_a := hide (R0_a.out.later k2); have R1_b := hide (R0_b.out.later k2); have R1_c := hide (R0_c.out.later k2); clear k2))
        go_ret
        exact ⟨rfl, HB10.out⟩
      · have z1 : (me != 0) = true := by simpa using hz
        have hac := under_trans hP hQ
        go_enter Try.func5, Try.ntmps5
        go_wp2_with (first
          | (go_at_call 18; refine (under_any R7_a.out R7_c.out HL_a.out HL_c.out (by omega) (by omega)).mono ?_; rintro e w8 ⟨rfl, k2⟩; have HB8 := hide (below_on HB7.out k2); have R8_a := hide (R7_a.out.later k2); have R8_b := hide (R7_b.out.later k2); have R8_c := hide (R7_c.out.later k2); have R8_x := hide (R7_x.out.later k2); have R8_y := hide (R7_y.out.later k2); have R8_m := hide (R7_m.out.later k2); clear k2)
          | (go_at_call 18; refine (under_any R6_b.out R6_c.out HL_b.out HL_c.out (by omega) (by omega)).mono ?_; rintro e w7 ⟨rfl, k2⟩; have HB7 := hide (below_on HB6.out k2); have R7_a := hide (R6_a.out.later k2); have R7_b := hide (R6_b.out.later k2); have R7_c := hide (R6_c.out.later k2); have R7_x := hide (R6_x.out.later k2); have R7_y := hide (R6_y.out.later k2); have R7_m := hide (R6_m.out.later k2); clear k2)
          | (go_at_call 18; refine (under_any R5_a.out R5_b.out HL_a.out HL_b.out (by omega) (by omega)).mono ?_; rintro e w6 ⟨rfl, k2⟩; have HB6 := hide (below_on HB5.out k2); have R6_a := hide (R5_a.out.later k2); have R6_b := hide (R5_b.out.later k2); have R6_c := hide (R5_c.out.later k2); have R6_x := hide (R5_x.out.later k2); have R6_y := hide (R5_y.out.later k2); have R6_m := hide (R5_m.out.later k2); clear k2)
          | (go_at_call 18; refine (under_any R4_a.out R4_a.out HL_a.out HL_a.out (by omega) (by omega)).mono ?_; rintro e w5 ⟨rfl, k2⟩; have HB5 := hide (below_on HB4.out k2); have R5_a := hide (R4_a.out.later k2); have R5_b := hide (R4_b.out.later k2); have R5_c := hide (R4_c.out.later k2); have R5_x := hide (R4_x.out.later k2); have R5_y := hide (R4_y.out.later k2); have R5_m := hide (R4_m.out.later k2); clear k2)
          | (go_at_call 13; refine (most_is HV HKM R3_x.out R3_y.out HL_b.out HL_c.out (by omega) (by omega)).mono ?_; rintro e w4 ⟨a_m, c_m, rfl, k1, k2⟩; have HB4 := hide (below_on HB3.out k2); have R4_m := hide k1.ints; have O4_m := hide k1; have R4_a := hide (R3_a.out.later k2); have R4_b := hide (R3_b.out.later k2); have R4_c := hide (R3_c.out.later k2); have R4_x := hide (R3_x.out.later k2); have R4_y := hide (R3_y.out.later k2); clear k1 k2)
          | (at_builtin; refine app_ints (.tmp 28) (.tmp 29) rfl rfl rfl rfl HL_c.out R2_c.out HC_c.out (by omega) HB2.out ?_; intro a_y c_y w3 k1 k2 k3; have HB3 := hide k3; have R3_y := hide k1.ints; have O3_y := hide k1; have R3_a := hide (R2_a.out.later k2); have R3_b := hide (R2_b.out.later k2); have R3_c := hide (R2_c.out.later k2); have R3_x := hide (R2_x.out.later k2); clear k1 k2 k3)
          | (at_builtin; refine app_ints (.tmp 25) (.tmp 26) rfl rfl rfl rfl HL_b.out R1_b.out HC_b.out (by omega) HB1.out ?_; intro a_x c_x w2 k1 k2 k3; have HB2 := hide k3; have R2_x := hide k1.ints; have O2_x := hide k1; have R2_a := hide (R1_a.out.later k2); have R2_b := hide (R1_b.out.later k2); have R2_c := hide (R1_c.out.later k2); clear k1 k2 k3)
          | (go_at_call 7; refine (awake_any _).mono ?_; rintro e w1 ⟨rfl, k2⟩; have HB1 := hide (below_on HB0.out k2); have R1_a := hide (R0_a.out.later k2); have R1_b := hide (R0_b.out.later k2); have R1_c := hide (R0_c.out.later k2); clear k2))
        go_ret
        exact ⟨rfl, HB8.out⟩
end Go.Proofs.Ytehbdnnehhknmaa
