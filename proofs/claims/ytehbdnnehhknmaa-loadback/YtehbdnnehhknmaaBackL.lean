/-
  What the law LoadBack does.
-/
import Derived.Test.YtehbdnnehhknmaaIs
namespace Go.Proofs.Ytehbdnnehhknmaa
open Go.RowKit

theorem addF_comm (x y : Int) : addF x y = addF y x := by
  unfold addF addV addE addOk
  rw [Int.add_comm x y, Bool.and_comm (fitsB x) (fitsB y)]
theorem addM_comm (xs ys : List Int) : eachM addF ys xs = eachM addF xs ys := by
  rcases eachM_cases addF xs ys with ⟨h, e⟩ | ⟨h, k, hk, h1, h2, e⟩ | ⟨h, h2, e⟩
  · rw [e, eachM_ne (fun h' => h h'.symm)]
  · rw [e, eachM_bad (k := k) h.symm (by omega) (fun i hi => by rw [addF_comm]; exact h2 i hi) (by rw [addF_comm]; exact h1), addF_comm]
  · rw [e, eachM_ok h.symm (fun i hi => by rw [addF_comm]; exact h2 i (by omega)), h]
    congr 1
    apply List.map_congr_left
    intro i _
    rw [addF_comm]
theorem eachM_err {f : Int → Int → Int × Int} {xs ys ms : List Int} {e : Int} (h : eachM f xs ys = (ms, e)) (he : e ≠ 0) : ms.length = 0 := by
  rcases eachM_cases f xs ys with ⟨_, e1⟩ | ⟨_, k, _, _, _, e1⟩ | ⟨_, _, e1⟩
  · rw [e1] at h; cases h; rfl
  · rw [e1] at h; cases h; rfl
  · rw [e1] at h; cases h; exact absurd rfl he
theorem eachM_yes {f : Int → Int → Int × Int} {xs ys ms : List Int} (h : eachM f xs ys = (ms, 0)) : xs.length = ys.length ∧ (∀ i, i < xs.length → (f xs[i]! ys[i]!).2 = 0) ∧ ms = (List.range xs.length).map (fun i => (f xs[i]! ys[i]!).1) := by
  rcases eachM_cases f xs ys with ⟨_, e1⟩ | ⟨_, k, _, h1, _, e1⟩ | ⟨hl, h2, e1⟩
  · rw [e1] at h; cases h
  · rw [e1] at h; exact absurd (congrArg Prod.snd h) h1
  · rw [e1] at h; cases h; exact ⟨hl, h2, rfl⟩
theorem addE_zero {x y : Int} (h : addE x y = 0) : fitsB x = true ∧ fitsB y = true ∧ fitsB (x + y) = true ∧ addV x y = x + y := by
  unfold addE at h
  cases ho : addOk x y
  · rw [ho] at h; cases h
  · have h2 := ho
    simp only [addOk, Bool.and_eq_true] at h2
    exact ⟨h2.1.1, h2.1.2, h2.2, by unfold addV; rw [ho]; rfl⟩
theorem sub_back {x y : Int} (h : addE x y = 0) : subF (addV x y) y = (x, 0) := by
  obtain ⟨h1, h2, h3, h4⟩ := addE_zero h
  have h5 : fitsB (-y) = true := by rw [fitsB_iff] at h2 ⊢; omega
  have h6 : x + y + -y = x := by omega
  unfold subF
  rw [if_pos h2, h4]
  simp [addV, addE, addOk, h3, h5, h6, h1]
theorem subM_back {xs ys ms : List Int} (h : eachM addF xs ys = (ms, 0)) : eachM subF ms ys = (xs, 0) := by
  obtain ⟨hl, h2, rfl⟩ := eachM_yes h
  have key : ∀ i, i < xs.length → subF ((List.range xs.length).map (fun i => (addF xs[i]! ys[i]!).1))[i]! ys[i]! = (xs[i]!, 0) := fun i hi => by
    rw [range_get _ _ _ hi]
    exact sub_back (h2 i hi)
  rw [eachM_ok (by simpa using hl) (fun i hi => by rw [key i (by simpa using hi)])]
  congr 1
  apply list_ext (by simp)
  intro i hi
  have hi' : i < xs.length := by simpa using hi
  rw [range_get _ _ _ (by simpa using hi'), key i hi']

set_option maxRecDepth 100000 in
set_option maxHeartbeats 3200000 in
theorem lawBack_any {w : World} {a b : Option Addr} {na nb ca cb : Nat} {za zb : List Int} (ha : IntsAt w a za) (hb : IntsAt w b zb) (la : za.length = na) (lb : zb.length = nb)
    (ca0 : a = none → ca = 0) (cb0 : b = none → cb = 0) (ma : na ≤ 9223372036854775807) (mb : nb ≤ 9223372036854775807) (fb : Fit zb) :
    Calls Try.prog 4 #[.slice a na ca, .slice b nb cb] w fun e w' => e = .returned (.bool true) ∧ Below w.heap.size w w' := by
  have R0_a := hide ha
  have R0_b := hide hb
  have HL_a := hide la
  have HL_b := hide lb
  have HC_a := hide ca0
  have HC_b := hide cb0
  have HF := hide fb
  have HB0 := hide (Below.refl w.heap.size w)
  clear ha hb la lb ca0 cb0 fb
  by_cases g1 : 1000 < na
  · have j1 : (1000 : Int) < (na : Int) := by omega
    go_enter Try.func4, Try.ntmps4
    go_wp2_with (first
      | (go_at_call 7; refine (awake_any _).mono ?_; rintro e w1 ⟨rfl, k2⟩; have HB1 := hide (below_on HB0.out k2); have R1_a := hide (R0_a.out.later k2); have R1_b := hide (R0_b.out.later k2); clear k2))
    go_ret
    exact ⟨rfl, HB1.out⟩
  by_cases g2 : 1000 < nb
  · have j1 : ¬ (1000 : Int) < (na : Int) := by omega
    have j2 : (1000 : Int) < (nb : Int) := by omega
    go_enter Try.func4, Try.ntmps4
    go_wp2_with (first
      | (go_at_call 7; refine (awake_any _).mono ?_; rintro e w1 ⟨rfl, k2⟩; have HB1 := hide (below_on HB0.out k2); have R1_a := hide (R0_a.out.later k2); have R1_b := hide (R0_b.out.later k2); clear k2))
    go_ret
    exact ⟨rfl, HB1.out⟩
  have j1 : ¬ (1000 : Int) < (na : Int) := by omega
  have j2 : ¬ (1000 : Int) < (nb : Int) := by omega
  obtain ⟨ss, se, HS⟩ : ∃ ss se, Hid (eachM addF za zb = (ss, se)) := ⟨_, _, rfl⟩
  have HT : Hid (eachM addF zb za = (ss, se)) := by show _ = _; rw [addM_comm]; exact HS.out
  have hsl : ss.length ≤ 1000 := by
    have := eachM_len addF za zb
    rw [HS.out, HL_a.out] at this
    exact Nat.le_trans this (by omega)
  generalize hsk : ss.length = ks at hsl
  have HKS : Hid (ss.length = ks) := hsk
  clear hsk
  have hself := sameB_self ss
  have hee : (se != se) = false := by simp
  by_cases hz : se = 0
  · subst hz
    have HD := hide (subM_back HS.out)
    have hla := (eachM_yes HS.out).1
    obtain ⟨ms, HM⟩ : ∃ ms, Hid (eachM mostF za zb = (ms, 0)) := ⟨_, eachM_ok hla fun _ _ => rfl⟩
    clear hla
    have hml : ms.length ≤ 1000 := by
      have := eachM_len mostF za zb
      rw [HM.out, HL_a.out] at this
      exact Nat.le_trans this (by omega)
    generalize hmk : ms.length = km at hml
    have HKM : Hid (ms.length = km) := hmk
    clear hmk
    obtain ⟨u1, u2⟩ := most_above HM.out
    have hsa := sameB_self za
    have z1 : ((0 : Int) != 0) = false := rfl
    go_enter Try.func4, Try.ntmps4
    go_wp2_with (first
      | (go_at_call 18; refine (under_any R15_b.out R15_m.out HL_b.out HKM.out (by omega) (by omega)).mono ?_; rintro e w16 ⟨rfl, k2⟩; have HB16 := hide (below_on HB15.out k2); have R16_a := hide (R15_a.out.later k2); have R16_b := hide (R15_b.out.later k2); have R16_x1 := hide (R15_x1.out.later k2); have R16_y1 := hide (R15_y1.out.later k2); have R16_s := hide (R15_s.out.later k2); have R16_x2 := hide (R15_x2.out.later k2); have R16_y2 := hide (R15_y2.out.later k2); have R16_t := hide (R15_t.out.later k2); have R16_y3 := hide (R15_y3.out.later k2); have R16_d := hide (R15_d.out.later k2); have R16_x4 := hide (R15_x4.out.later k2); have R16_y4 := hide (R15_y4.out.later k2); have R16_m := hide (R15_m.out.later k2); clear k2)
      | (go_at_call 18; refine (under_any R14_a.out R14_m.out HL_a.out HKM.out (by omega) (by omega)).mono ?_; rintro e w15 ⟨rfl, k2⟩; have HB15 := hide (below_on HB14.out k2); have R15_a := hide (R14_a.out.later k2); have R15_b := hide (R14_b.out.later k2); have R15_x1 := hide (R14_x1.out.later k2); have R15_y1 := hide (R14_y1.out.later k2); have R15_s := hide (R14_s.out.later k2); have R15_x2 := hide (R14_x2.out.later k2); have R15_y2 := hide (R14_y2.out.later k2); have R15_t := hide (R14_t.out.later k2); have R15_y3 := hide (R14_y3.out.later k2); have R15_d := hide (R14_d.out.later k2); have R15_x4 := hide (R14_x4.out.later k2); have R15_y4 := hide (R14_y4.out.later k2); have R15_m := hide (R14_m.out.later k2); clear k2)
      | (go_at_call 11; refine (sameInts_any R13_d.out R13_a.out HL_a.out HL_a.out (by omega) (by omega)).mono ?_; rintro e w14 ⟨rfl, k2⟩; have HB14 := hide (below_on HB13.out k2); have R14_a := hide (R13_a.out.later k2); have R14_b := hide (R13_b.out.later k2); have R14_x1 := hide (R13_x1.out.later k2); have R14_y1 := hide (R13_y1.out.later k2); have R14_s := hide (R13_s.out.later k2); have R14_x2 := hide (R13_x2.out.later k2); have R14_y2 := hide (R13_y2.out.later k2); have R14_t := hide (R13_t.out.later k2); have R14_y3 := hide (R13_y3.out.later k2); have R14_d := hide (R13_d.out.later k2); have R14_x4 := hide (R13_x4.out.later k2); have R14_y4 := hide (R13_y4.out.later k2); have R14_m := hide (R13_m.out.later k2); clear k2)
      | (go_at_call 13; refine (most_is HM HKM R12_x4.out R12_y4.out HL_a.out HL_b.out (by omega) (by omega)).mono ?_; rintro e w13 ⟨a_m, c_m, rfl, k1, k2⟩; have HB13 := hide (below_on HB12.out k2); have R13_m := hide k1.ints; have O13_m := hide k1; have R13_a := hide (R12_a.out.later k2); have R13_b := hide (R12_b.out.later k2); have R13_x1 := hide (R12_x1.out.later k2); have R13_y1 := hide (R12_y1.out.later k2); have R13_s := hide (R12_s.out.later k2); have R13_x2 := hide (R12_x2.out.later k2); have R13_y2 := hide (R12_y2.out.later k2); have R13_t := hide (R12_t.out.later k2); have R13_y3 := hide (R12_y3.out.later k2); have R13_d := hide (R12_d.out.later k2); have R13_x4 := hide (R12_x4.out.later k2); have R13_y4 := hide (R12_y4.out.later k2); clear k1 k2)
      | (at_builtin; refine app_ints (.tmp 69) (.tmp 70) rfl rfl rfl rfl HL_b.out R11_b.out HC_b.out (by omega) HB11.out ?_; intro a_y4 c_y4 w12 k1 k2 k3; have HB12 := hide k3; have R12_y4 := hide k1.ints; have O12_y4 := hide k1; have R12_a := hide (R11_a.out.later k2); have R12_b := hide (R11_b.out.later k2); have R12_x1 := hide (R11_x1.out.later k2); have R12_y1 := hide (R11_y1.out.later k2); have R12_s := hide (R11_s.out.later k2); have R12_x2 := hide (R11_x2.out.later k2); have R12_y2 := hide (R11_y2.out.later k2); have R12_t := hide (R11_t.out.later k2); have R12_y3 := hide (R11_y3.out.later k2); have R12_d := hide (R11_d.out.later k2); have R12_x4 := hide (R11_x4.out.later k2); clear k1 k2 k3)
      | (at_builtin; refine app_ints (.tmp 66) (.tmp 67) rfl rfl rfl rfl HL_a.out R10_a.out HC_a.out (by omega) HB10.out ?_; intro a_x4 c_x4 w11 k1 k2 k3; have HB11 := hide k3; have R11_x4 := hide k1.ints; have O11_x4 := hide k1; have R11_a := hide (R10_a.out.later k2); have R11_b := hide (R10_b.out.later k2); have R11_x1 := hide (R10_x1.out.later k2); have R11_y1 := hide (R10_y1.out.later k2); have R11_s := hide (R10_s.out.later k2); have R11_x2 := hide (R10_x2.out.later k2); have R11_y2 := hide (R10_y2.out.later k2); have R11_t := hide (R10_t.out.later k2); have R11_y3 := hide (R10_y3.out.later k2); have R11_d := hide (R10_d.out.later k2); clear k1 k2 k3)
      | (go_at_call 12; refine (sub_is HD HL_a R9_s.out R9_y3.out HKS.out HL_b.out (by omega) (by omega) HF.out).mono ?_; rintro e w10 ⟨a_d, c_d, rfl, k1, k2⟩; have HB10 := hide (below_on HB9.out k2); have R10_d := hide k1.ints; have O10_d := hide k1; have R10_a := hide (R9_a.out.later k2); have R10_b := hide (R9_b.out.later k2); have R10_x1 := hide (R9_x1.out.later k2); have R10_y1 := hide (R9_y1.out.later k2); have R10_s := hide (R9_s.out.later k2); have R10_x2 := hide (R9_x2.out.later k2); have R10_y2 := hide (R9_y2.out.later k2); have R10_t := hide (R9_t.out.later k2); have R10_y3 := hide (R9_y3.out.later k2); clear k1 k2)
      | (at_builtin; refine app_ints (.tmp 59) (.tmp 60) rfl rfl rfl rfl HL_b.out R8_b.out HC_b.out (by omega) HB8.out ?_; intro a_y3 c_y3 w9 k1 k2 k3; have HB9 := hide k3; have R9_y3 := hide k1.ints; have O9_y3 := hide k1; have R9_a := hide (R8_a.out.later k2); have R9_b := hide (R8_b.out.later k2); have R9_x1 := hide (R8_x1.out.later k2); have R9_y1 := hide (R8_y1.out.later k2); have R9_s := hide (R8_s.out.later k2); have R9_x2 := hide (R8_x2.out.later k2); have R9_y2 := hide (R8_y2.out.later k2); have R9_t := hide (R8_t.out.later k2); clear k1 k2 k3)
      | (go_at_call 20; refine (same_any R7_s.out R7_t.out HKS.out HKS.out (by omega) (by omega)).mono ?_; rintro e w8 ⟨rfl, k2⟩; have HB8 := hide (below_on HB7.out k2); have R8_a := hide (R7_a.out.later k2); have R8_b := hide (R7_b.out.later k2); have R8_x1 := hide (R7_x1.out.later k2); have R8_y1 := hide (R7_y1.out.later k2); have R8_s := hide (R7_s.out.later k2); have R8_x2 := hide (R7_x2.out.later k2); have R8_y2 := hide (R7_y2.out.later k2); have R8_t := hide (R7_t.out.later k2); clear k2)
      | (go_at_call 8; refine (add_is HT HKS R6_x2.out R6_y2.out HL_b.out HL_a.out (by omega) (by omega)).mono ?_; rintro e w7 ⟨a_t, c_t, rfl, k1, k2⟩; have HB7 := hide (below_on HB6.out k2); have R7_t := hide k1.ints; have O7_t := hide k1; have R7_a := hide (R6_a.out.later k2); have R7_b := hide (R6_b.out.later k2); have R7_x1 := hide (R6_x1.out.later k2); have R7_y1 := hide (R6_y1.out.later k2); have R7_s := hide (R6_s.out.later k2); have R7_x2 := hide (R6_x2.out.later k2); have R7_y2 := hide (R6_y2.out.later k2); clear k1 k2)
      | (at_builtin; refine app_ints (.tmp 37) (.tmp 38) rfl rfl rfl rfl HL_a.out R5_a.out HC_a.out (by omega) HB5.out ?_; intro a_y2 c_y2 w6 k1 k2 k3; have HB6 := hide k3; have R6_y2 := hide k1.ints; have O6_y2 := hide k1; have R6_a := hide (R5_a.out.later k2); have R6_b := hide (R5_b.out.later k2); have R6_x1 := hide (R5_x1.out.later k2); have R6_y1 := hide (R5_y1.out.later k2); have R6_s := hide (R5_s.out.later k2); have R6_x2 := hide (R5_x2.out.later k2); clear k1 k2 k3)
      | (at_builtin; refine app_ints (.tmp 34) (.tmp 35) rfl rfl rfl rfl HL_b.out R4_b.out HC_b.out (by omega) HB4.out ?_; intro a_x2 c_x2 w5 k1 k2 k3; have HB5 := hide k3; have R5_x2 := hide k1.ints; have O5_x2 := hide k1; have R5_a := hide (R4_a.out.later k2); have R5_b := hide (R4_b.out.later k2); have R5_x1 := hide (R4_x1.out.later k2); have R5_y1 := hide (R4_y1.out.later k2); have R5_s := hide (R4_s.out.later k2); clear k1 k2 k3)
      | (go_at_call 8; refine (add_is HS HKS R3_x1.out R3_y1.out HL_a.out HL_b.out (by omega) (by omega)).mono ?_; rintro e w4 ⟨a_s, c_s, rfl, k1, k2⟩; have HB4 := hide (below_on HB3.out k2); have R4_s := hide k1.ints; have O4_s := hide k1; have R4_a := hide (R3_a.out.later k2); have R4_b := hide (R3_b.out.later k2); have R4_x1 := hide (R3_x1.out.later k2); have R4_y1 := hide (R3_y1.out.later k2); clear k1 k2)
      | (at_builtin; refine app_ints (.tmp 27) (.tmp 28) rfl rfl rfl rfl HL_b.out R2_b.out HC_b.out (by omega) HB2.out ?_; intro a_y1 c_y1 w3 k1 k2 k3; have HB3 := hide k3; have R3_y1 := hide k1.ints; have O3_y1 := hide k1; have R3_a := hide (R2_a.out.later k2); have R3_b := hide (R2_b.out.later k2); have R3_x1 := hide (R2_x1.out.later k2); clear k1 k2 k3)
      | (at_builtin; refine app_ints (.tmp 24) (.tmp 25) rfl rfl rfl rfl HL_a.out R1_a.out HC_a.out (by omega) HB1.out ?_; intro a_x1 c_x1 w2 k1 k2 k3; have HB2 := hide k3; have R2_x1 := hide k1.ints; have O2_x1 := hide k1; have R2_a := hide (R1_a.out.later k2); have R2_b := hide (R1_b.out.later k2); clear k1 k2 k3)
      | (go_at_call 7; refine (awake_any _).mono ?_; rintro e w1 ⟨rfl, k2⟩; have HB1 := hide (below_on HB0.out k2); have R1_a := hide (R0_a.out.later k2); have R1_b := hide (R0_b.out.later k2); clear k2))
    go_ret
    exact ⟨rfl, HB16.out⟩
  · have z1 : (se != 0) = true := by simpa using hz
    have hk0 : ks = 0 := by rw [← HKS.out]; exact eachM_err HS.out hz
    subst hk0
    go_enter Try.func4, Try.ntmps4
    go_wp2_with (first
      | (go_at_call 20; refine (same_any R7_s.out R7_t.out HKS.out HKS.out (by omega) (by omega)).mono ?_; rintro e w8 ⟨rfl, k2⟩; have HB8 := hide (below_on HB7.out k2); have R8_a := hide (R7_a.out.later k2); have R8_b := hide (R7_b.out.later k2); have R8_x1 := hide (R7_x1.out.later k2); have R8_y1 := hide (R7_y1.out.later k2); have R8_s := hide (R7_s.out.later k2); have R8_x2 := hide (R7_x2.out.later k2); have R8_y2 := hide (R7_y2.out.later k2); have R8_t := hide (R7_t.out.later k2); clear k2)
      | (go_at_call 8; refine (add_is HT HKS R6_x2.out R6_y2.out HL_b.out HL_a.out (by omega) (by omega)).mono ?_; rintro e w7 ⟨a_t, c_t, rfl, k1, k2⟩; have HB7 := hide (below_on HB6.out k2); have R7_t := hide k1.ints; have O7_t := hide k1; have R7_a := hide (R6_a.out.later k2); have R7_b := hide (R6_b.out.later k2); have R7_x1 := hide (R6_x1.out.later k2); have R7_y1 := hide (R6_y1.out.later k2); have R7_s := hide (R6_s.out.later k2); have R7_x2 := hide (R6_x2.out.later k2); have R7_y2 := hide (R6_y2.out.later k2); clear k1 k2)
      | (at_builtin; refine app_ints (.tmp 37) (.tmp 38) rfl rfl rfl rfl HL_a.out R5_a.out HC_a.out (by omega) HB5.out ?_; intro a_y2 c_y2 w6 k1 k2 k3; have HB6 := hide k3; have R6_y2 := hide k1.ints; have O6_y2 := hide k1; have R6_a := hide (R5_a.out.later k2); have R6_b := hide (R5_b.out.later k2); have R6_x1 := hide (R5_x1.out.later k2); have R6_y1 := hide (R5_y1.out.later k2); have R6_s := hide (R5_s.out.later k2); have R6_x2 := hide (R5_x2.out.later k2); clear k1 k2 k3)
      | (at_builtin; refine app_ints (.tmp 34) (.tmp 35) rfl rfl rfl rfl HL_b.out R4_b.out HC_b.out (by omega) HB4.out ?_; intro a_x2 c_x2 w5 k1 k2 k3; have HB5 := hide k3; have R5_x2 := hide k1.ints; have O5_x2 := hide k1; have R5_a := hide (R4_a.out.later k2); have R5_b := hide (R4_b.out.later k2); have R5_x1 := hide (R4_x1.out.later k2); have R5_y1 := hide (R4_y1.out.later k2); have R5_s := hide (R4_s.out.later k2); clear k1 k2 k3)
      | (go_at_call 8; refine (add_is HS HKS R3_x1.out R3_y1.out HL_a.out HL_b.out (by omega) (by omega)).mono ?_; rintro e w4 ⟨a_s, c_s, rfl, k1, k2⟩; have HB4 := hide (below_on HB3.out k2); have R4_s := hide k1.ints; have O4_s := hide k1; have R4_a := hide (R3_a.out.later k2); have R4_b := hide (R3_b.out.later k2); have R4_x1 := hide (R3_x1.out.later k2); have R4_y1 := hide (R3_y1.out.later k2); clear k1 k2)
      | (at_builtin; refine app_ints (.tmp 27) (.tmp 28) rfl rfl rfl rfl HL_b.out R2_b.out HC_b.out (by omega) HB2.out ?_; intro a_y1 c_y1 w3 k1 k2 k3; have HB3 := hide k3; have R3_y1 := hide k1.ints; have O3_y1 := hide k1; have R3_a := hide (R2_a.out.later k2); have R3_b := hide (R2_b.out.later k2); have R3_x1 := hide (R2_x1.out.later k2); clear k1 k2 k3)
      | (at_builtin; refine app_ints (.tmp 24) (.tmp 25) rfl rfl rfl rfl HL_a.out R1_a.out HC_a.out (by omega) HB1.out ?_; intro a_x1 c_x1 w2 k1 k2 k3; have HB2 := hide k3; have R2_x1 := hide k1.ints; have O2_x1 := hide k1; have R2_a := hide (R1_a.out.later k2); have R2_b := hide (R1_b.out.later k2); clear k1 k2 k3)
      | (go_at_call 7; refine (awake_any _).mono ?_; rintro e w1 ⟨rfl, k2⟩; have HB1 := hide (below_on HB0.out k2); have R1_a := hide (R0_a.out.later k2); have R1_b := hide (R0_b.out.later k2); clear k2))
    go_ret
    exact ⟨rfl, HB8.out⟩
end Go.Proofs.Ytehbdnnehhknmaa
