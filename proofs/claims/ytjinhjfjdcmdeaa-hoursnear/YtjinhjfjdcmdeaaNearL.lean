/-
  What the law HoursNear does.
-/
import Derived.Test.YtjinhjfjdcmdeaaChkL
namespace Go.Proofs.Ytjinhjfjdcmdeaa
open Go.RowKit

theorem near_start {L : List Win} {t x : Int} {b : Bool} (h : Lw L) (hs : startM t L = (x, b)) : (b = true → t ≤ x ∧ inM x L = true ∧ ∀ y, t ≤ y → y < x → inM y L = false) ∧ (b = false → ∀ y, t ≤ y → inM y L = false) := by
  have := startM_is t L h
  rw [hs] at this
  rcases this with ⟨h1, h2, h3, h4⟩ | ⟨h1, h2⟩
  · exact ⟨fun _ => ⟨h2, inM_iff.2 h3, fun y k1 k2 => inM_no.2 (h4 y k1 k2)⟩, fun e => by rw [show b = true from h1] at e; cases e⟩
  · exact ⟨fun e => (by cases h1; cases e), fun _ y hy => inM_no.2 (h2 y hy)⟩
theorem near_last {L : List Win} {t x : Int} {b : Bool} (h : Lw L) (hs : lastM t L = (x, b)) : (b = true → x ≤ t ∧ inM x L = true ∧ ∀ y, y ≤ t → x < y → inM y L = false) ∧ (b = false → ∀ y, y ≤ t → inM y L = false) := by
  have := lastM_is t h
  rw [hs] at this
  rcases this with ⟨h1, h2, h3, h4⟩ | ⟨h1, h2⟩
  · exact ⟨fun _ => ⟨h2, inM_iff.2 h3, fun y k1 k2 => inM_no.2 (h4 y k1 k2)⟩, fun e => by rw [show b = true from h1] at e; cases e⟩
  · exact ⟨fun e => (by cases h1; cases e), fun _ y hy => inM_no.2 (h2 y hy)⟩
/-- The last row: where t lies. -/
theorem near_both {L : List Win} {t x y : Int} {b d : Bool} (h : Lw L) (hs : startM t L = (x, b)) (hl : lastM t L = (y, d)) : inM t L = (b && d && decide (x = y) && decide (x = t)) := by
  have h1 := in_start (t := t) h
  have h2 := in_last (t := t) h
  rw [hs] at h1
  rw [hl] at h2
  simp only at h1 h2
  cases hi : inM t L with
  | true =>
    rw [hi] at h1 h2
    simp only [Bool.true_eq, Bool.and_eq_true, decide_eq_true_eq] at h1 h2
    simp [h1.1, h1.2, h2.1, h2.2]
  | false =>
    rw [hi] at h1
    cases b with
    | false => rfl
    | true =>
      simp only [Bool.true_and, Bool.false_eq, decide_eq_false_iff_not] at h1
      simp [h1]
set_option maxRecDepth 100000 in
set_option maxHeartbeats 6400000 in
theorem nearL_any {a : Option Addr} {m c : Nat} {L : List Win} {w : World} (t s : Int) (h : WinsAt w a m L) :
    Calls Try.prog 5 #[.slice a m c, .int .i64 t, .int .i64 s] w fun e w' => e = .returned (.bool true) ∧ Below w.heap.size w w' := by
  have R0 := hide h
  have HB0 := hide (Below.refl w.heap.size w)
  clear h
  cases hl : lawB L with
  | false =>
    replace hl := hide hl
    go_enter Try.func5, Try.ntmps5
    go_wp2_with (first
      | (go_at_call 10; refine (lawful_is hl.out R1.out).mono ?_; rintro e w2 ⟨rfl, k2⟩; have HB2 := hide (below_on HB1.out k2); have R2 := hide (R1.out.on k2); clear k2)
      | (go_at_call 7; refine (awake_any _).mono ?_; rintro e w1 ⟨rfl, k2⟩; have HB1 := hide (below_on HB0.out k2); have R1 := hide (R0.out.on k2); clear k2))
    go_ret
    exact ⟨rfl, HB2.out⟩
  | true =>
    have hL := (chk_ok (of_decide_eq_true hl)).2.2
    replace hl := hide hl
    by_cases g1 : t < -5000000
    · have g1d := dec_yes g1
      go_enter Try.func5, Try.ntmps5
      go_wp2_with (first
        | (go_at_call 10; refine (lawful_is hl.out R1.out).mono ?_; rintro e w2 ⟨rfl, k2⟩; have HB2 := hide (below_on HB1.out k2); have R2 := hide (R1.out.on k2); clear k2)
        | (go_at_call 7; refine (awake_any _).mono ?_; rintro e w1 ⟨rfl, k2⟩; have HB1 := hide (below_on HB0.out k2); have R1 := hide (R0.out.on k2); clear k2))
      go_ret
      exact ⟨rfl, HB2.out⟩
    by_cases g2 : 5000000 < t
    · have g2d := dec_yes g2
      go_enter Try.func5, Try.ntmps5
      go_wp2_with (first
        | (go_at_call 10; refine (lawful_is hl.out R1.out).mono ?_; rintro e w2 ⟨rfl, k2⟩; have HB2 := hide (below_on HB1.out k2); have R2 := hide (R1.out.on k2); clear k2)
        | (go_at_call 7; refine (awake_any _).mono ?_; rintro e w1 ⟨rfl, k2⟩; have HB1 := hide (below_on HB0.out k2); have R1 := hide (R0.out.on k2); clear k2))
      go_ret
      exact ⟨rfl, HB2.out⟩
    obtain ⟨u, hu, hu0⟩ : ∃ u : Int, IntKind.u64.wrap s = u ∧ 0 ≤ u := ⟨_, rfl, by rw [IntKind.wrap_u64]; omega⟩
    obtain ⟨p, hp, hp0, hp1⟩ : ∃ p : Int, u.tmod 1000 = p ∧ 0 ≤ p ∧ p < 1000 := ⟨_, rfl, by rw [Int.tmod_eq_emod_of_nonneg hu0]; omega, by rw [Int.tmod_eq_emod_of_nonneg hu0]; omega⟩
    have hp2 : u % 1000 = p := by rw [← hp, Int.tmod_eq_emod_of_nonneg hu0]
    have hp3 : IntKind.i64.wrap p = p := by rw [IntKind.wrap_i64] <;> omega
    obtain ⟨sa, so, HS⟩ : ∃ i e, Hid (startM t L = (i, e)) := ⟨_, _, rfl⟩
    obtain ⟨la, lo, HT⟩ : ∃ i e, Hid (lastM t L = (i, e)) := ⟨_, _, rfl⟩
    have NS := near_start hL HS.out
    have NT := near_last hL HT.out
    have HI := hide (near_both hL HS.out HT.out)
    clear hL
    cases so with
    | false =>
      have I2 := hide (NS.2 rfl (t + p) (by omega))
      clear NS
      cases lo with
      | false =>
        have I4 := hide (NT.2 rfl (t - p) (by omega))
        clear NT
        have hin : ((false && false && decide (sa = la) && decide (sa = t)) : Bool) = false := by simp
        rw [hin] at HI
        clear hin
        go_enter Try.func5, Try.ntmps5
        go_wp2_with (first
          | (go_at_call 15; refine (in_is HI.out R6.out).mono ?_; rintro e w7 ⟨rfl, k2⟩; have HB7 := hide (below_on HB6.out k2); have R7 := hide (R6.out.on k2); clear k2)
          | (go_at_call 15; refine (in_is I4.out R5.out).mono ?_; rintro e w6 ⟨rfl, k2⟩; have HB6 := hide (below_on HB5.out k2); have R6 := hide (R5.out.on k2); clear k2)
          | (go_at_call 15; refine (in_is I2.out R4.out).mono ?_; rintro e w5 ⟨rfl, k2⟩; have HB5 := hide (below_on HB4.out k2); have R5 := hide (R4.out.on k2); clear k2)
          | (go_at_call 13; refine (last_is HT.out R3.out).mono ?_; rintro e w4 ⟨rfl, k2⟩; have HB4 := hide (below_on HB3.out k2); have R4 := hide (R3.out.on k2); clear k2)
          | (go_at_call 11; refine (start_is HS.out R2.out).mono ?_; rintro e w3 ⟨rfl, k2⟩; have HB3 := hide (below_on HB2.out k2); have R3 := hide (R2.out.on k2); clear k2)
          | (go_at_call 10; refine (lawful_is hl.out R1.out).mono ?_; rintro e w2 ⟨rfl, k2⟩; have HB2 := hide (below_on HB1.out k2); have R2 := hide (R1.out.on k2); clear k2)
          | (go_at_call 7; refine (awake_any _).mono ?_; rintro e w1 ⟨rfl, k2⟩; have HB1 := hide (below_on HB0.out k2); have R1 := hide (R0.out.on k2); clear k2))
        go_ret
        exact ⟨rfl, HB7.out⟩
      | true =>
        obtain ⟨n4, n5, n6⟩ := NT.1 rfl
        have I3 := hide n5
        have n4d : ¬ t < la := by omega
        clear NT n5
        by_cases q2 : la < t - p
        · have I4 := hide (n6 (t - p) (by omega) q2)
          clear n6
          have hin : ((false && true && decide (sa = la) && decide (sa = t)) : Bool) = false := by simp
          rw [hin] at HI
          clear hin
          go_enter Try.func5, Try.ntmps5
          go_wp2_with (first
            | (go_at_call 15; refine (in_is HI.out R7.out).mono ?_; rintro e w8 ⟨rfl, k2⟩; have HB8 := hide (below_on HB7.out k2); have R8 := hide (R7.out.on k2); clear k2)
            | (go_at_call 15; refine (in_is I4.out R6.out).mono ?_; rintro e w7 ⟨rfl, k2⟩; have HB7 := hide (below_on HB6.out k2); have R7 := hide (R6.out.on k2); clear k2)
            | (go_at_call 15; refine (in_is I3.out R5.out).mono ?_; rintro e w6 ⟨rfl, k2⟩; have HB6 := hide (below_on HB5.out k2); have R6 := hide (R5.out.on k2); clear k2)
            | (go_at_call 15; refine (in_is I2.out R4.out).mono ?_; rintro e w5 ⟨rfl, k2⟩; have HB5 := hide (below_on HB4.out k2); have R5 := hide (R4.out.on k2); clear k2)
            | (go_at_call 13; refine (last_is HT.out R3.out).mono ?_; rintro e w4 ⟨rfl, k2⟩; have HB4 := hide (below_on HB3.out k2); have R4 := hide (R3.out.on k2); clear k2)
            | (go_at_call 11; refine (start_is HS.out R2.out).mono ?_; rintro e w3 ⟨rfl, k2⟩; have HB3 := hide (below_on HB2.out k2); have R3 := hide (R2.out.on k2); clear k2)
            | (go_at_call 10; refine (lawful_is hl.out R1.out).mono ?_; rintro e w2 ⟨rfl, k2⟩; have HB2 := hide (below_on HB1.out k2); have R2 := hide (R1.out.on k2); clear k2)
            | (go_at_call 7; refine (awake_any _).mono ?_; rintro e w1 ⟨rfl, k2⟩; have HB1 := hide (below_on HB0.out k2); have R1 := hide (R0.out.on k2); clear k2))
          go_ret
          exact ⟨rfl, HB8.out⟩
        · clear n6
          have hin : ((false && true && decide (sa = la) && decide (sa = t)) : Bool) = false := by simp
          rw [hin] at HI
          clear hin
          go_enter Try.func5, Try.ntmps5
          go_wp2_with (first
            | (go_at_call 15; refine (in_is HI.out R6.out).mono ?_; rintro e w7 ⟨rfl, k2⟩; have HB7 := hide (below_on HB6.out k2); have R7 := hide (R6.out.on k2); clear k2)
            | (go_at_call 15; refine (in_is I3.out R5.out).mono ?_; rintro e w6 ⟨rfl, k2⟩; have HB6 := hide (below_on HB5.out k2); have R6 := hide (R5.out.on k2); clear k2)
            | (go_at_call 15; refine (in_is I2.out R4.out).mono ?_; rintro e w5 ⟨rfl, k2⟩; have HB5 := hide (below_on HB4.out k2); have R5 := hide (R4.out.on k2); clear k2)
            | (go_at_call 13; refine (last_is HT.out R3.out).mono ?_; rintro e w4 ⟨rfl, k2⟩; have HB4 := hide (below_on HB3.out k2); have R4 := hide (R3.out.on k2); clear k2)
            | (go_at_call 11; refine (start_is HS.out R2.out).mono ?_; rintro e w3 ⟨rfl, k2⟩; have HB3 := hide (below_on HB2.out k2); have R3 := hide (R2.out.on k2); clear k2)
            | (go_at_call 10; refine (lawful_is hl.out R1.out).mono ?_; rintro e w2 ⟨rfl, k2⟩; have HB2 := hide (below_on HB1.out k2); have R2 := hide (R1.out.on k2); clear k2)
            | (go_at_call 7; refine (awake_any _).mono ?_; rintro e w1 ⟨rfl, k2⟩; have HB1 := hide (below_on HB0.out k2); have R1 := hide (R0.out.on k2); clear k2))
          go_ret
          exact ⟨rfl, HB7.out⟩
    | true =>
      obtain ⟨n1, n2, n3⟩ := NS.1 rfl
      have I1 := hide n2
      have n1d : ¬ sa < t := by omega
      clear NS n2
      by_cases q1 : t + p < sa
      · have I2 := hide (n3 (t + p) (by omega) q1)
        clear n3
        cases lo with
        | false =>
          have I4 := hide (NT.2 rfl (t - p) (by omega))
          clear NT
          have hin : ((true && false && decide (sa = la) && decide (sa = t)) : Bool) = false := by simp
          rw [hin] at HI
          clear hin
          go_enter Try.func5, Try.ntmps5
          go_wp2_with (first
            | (go_at_call 15; refine (in_is HI.out R7.out).mono ?_; rintro e w8 ⟨rfl, k2⟩; have HB8 := hide (below_on HB7.out k2); have R8 := hide (R7.out.on k2); clear k2)
            | (go_at_call 15; refine (in_is I4.out R6.out).mono ?_; rintro e w7 ⟨rfl, k2⟩; have HB7 := hide (below_on HB6.out k2); have R7 := hide (R6.out.on k2); clear k2)
            | (go_at_call 15; refine (in_is I2.out R5.out).mono ?_; rintro e w6 ⟨rfl, k2⟩; have HB6 := hide (below_on HB5.out k2); have R6 := hide (R5.out.on k2); clear k2)
            | (go_at_call 15; refine (in_is I1.out R4.out).mono ?_; rintro e w5 ⟨rfl, k2⟩; have HB5 := hide (below_on HB4.out k2); have R5 := hide (R4.out.on k2); clear k2)
            | (go_at_call 13; refine (last_is HT.out R3.out).mono ?_; rintro e w4 ⟨rfl, k2⟩; have HB4 := hide (below_on HB3.out k2); have R4 := hide (R3.out.on k2); clear k2)
            | (go_at_call 11; refine (start_is HS.out R2.out).mono ?_; rintro e w3 ⟨rfl, k2⟩; have HB3 := hide (below_on HB2.out k2); have R3 := hide (R2.out.on k2); clear k2)
            | (go_at_call 10; refine (lawful_is hl.out R1.out).mono ?_; rintro e w2 ⟨rfl, k2⟩; have HB2 := hide (below_on HB1.out k2); have R2 := hide (R1.out.on k2); clear k2)
            | (go_at_call 7; refine (awake_any _).mono ?_; rintro e w1 ⟨rfl, k2⟩; have HB1 := hide (below_on HB0.out k2); have R1 := hide (R0.out.on k2); clear k2))
          go_ret
          exact ⟨rfl, HB8.out⟩
        | true =>
          obtain ⟨n4, n5, n6⟩ := NT.1 rfl
          have I3 := hide n5
          have n4d : ¬ t < la := by omega
          clear NT n5
          by_cases q2 : la < t - p
          · have I4 := hide (n6 (t - p) (by omega) q2)
            clear n6
            by_cases e1 : sa = la
            · by_cases e2 : sa = t
              · have hin : ((true && true && decide (sa = la) && decide (sa = t)) : Bool) = true := by rw [decide_eq_true e1, decide_eq_true e2]; rfl
                rw [hin] at HI
                have z1 : (sa == la) = true := by simpa using e1
                have z2 : (sa == t) = true := by simpa using e2
                clear hin e1 e2
                go_enter Try.func5, Try.ntmps5
                go_wp2_with (first
                  | (go_at_call 15; refine (in_is HI.out R8.out).mono ?_; rintro e w9 ⟨rfl, k2⟩; have HB9 := hide (below_on HB8.out k2); have R9 := hide (R8.out.on k2); clear k2)
                  | (go_at_call 15; refine (in_is I4.out R7.out).mono ?_; rintro e w8 ⟨rfl, k2⟩; have HB8 := hide (below_on HB7.out k2); have R8 := hide (R7.out.on k2); clear k2)
                  | (go_at_call 15; refine (in_is I3.out R6.out).mono ?_; rintro e w7 ⟨rfl, k2⟩; have HB7 := hide (below_on HB6.out k2); have R7 := hide (R6.out.on k2); clear k2)
                  | (go_at_call 15; refine (in_is I2.out R5.out).mono ?_; rintro e w6 ⟨rfl, k2⟩; have HB6 := hide (below_on HB5.out k2); have R6 := hide (R5.out.on k2); clear k2)
                  | (go_at_call 15; refine (in_is I1.out R4.out).mono ?_; rintro e w5 ⟨rfl, k2⟩; have HB5 := hide (below_on HB4.out k2); have R5 := hide (R4.out.on k2); clear k2)
                  | (go_at_call 13; refine (last_is HT.out R3.out).mono ?_; rintro e w4 ⟨rfl, k2⟩; have HB4 := hide (below_on HB3.out k2); have R4 := hide (R3.out.on k2); clear k2)
                  | (go_at_call 11; refine (start_is HS.out R2.out).mono ?_; rintro e w3 ⟨rfl, k2⟩; have HB3 := hide (below_on HB2.out k2); have R3 := hide (R2.out.on k2); clear k2)
                  | (go_at_call 10; refine (lawful_is hl.out R1.out).mono ?_; rintro e w2 ⟨rfl, k2⟩; have HB2 := hide (below_on HB1.out k2); have R2 := hide (R1.out.on k2); clear k2)
                  | (go_at_call 7; refine (awake_any _).mono ?_; rintro e w1 ⟨rfl, k2⟩; have HB1 := hide (below_on HB0.out k2); have R1 := hide (R0.out.on k2); clear k2))
                go_ret
                exact ⟨rfl, HB9.out⟩
              · have hin : ((true && true && decide (sa = la) && decide (sa = t)) : Bool) = false := by simp [e2]
                rw [hin] at HI
                have z1 : (sa == la) = true := by simpa using e1
                have z2 : (sa == t) = false := by simpa using e2
                clear hin e1 e2
                go_enter Try.func5, Try.ntmps5
                go_wp2_with (first
                  | (go_at_call 15; refine (in_is HI.out R8.out).mono ?_; rintro e w9 ⟨rfl, k2⟩; have HB9 := hide (below_on HB8.out k2); have R9 := hide (R8.out.on k2); clear k2)
                  | (go_at_call 15; refine (in_is I4.out R7.out).mono ?_; rintro e w8 ⟨rfl, k2⟩; have HB8 := hide (below_on HB7.out k2); have R8 := hide (R7.out.on k2); clear k2)
                  | (go_at_call 15; refine (in_is I3.out R6.out).mono ?_; rintro e w7 ⟨rfl, k2⟩; have HB7 := hide (below_on HB6.out k2); have R7 := hide (R6.out.on k2); clear k2)
                  | (go_at_call 15; refine (in_is I2.out R5.out).mono ?_; rintro e w6 ⟨rfl, k2⟩; have HB6 := hide (below_on HB5.out k2); have R6 := hide (R5.out.on k2); clear k2)
                  | (go_at_call 15; refine (in_is I1.out R4.out).mono ?_; rintro e w5 ⟨rfl, k2⟩; have HB5 := hide (below_on HB4.out k2); have R5 := hide (R4.out.on k2); clear k2)
                  | (go_at_call 13; refine (last_is HT.out R3.out).mono ?_; rintro e w4 ⟨rfl, k2⟩; have HB4 := hide (below_on HB3.out k2); have R4 := hide (R3.out.on k2); clear k2)
                  | (go_at_call 11; refine (start_is HS.out R2.out).mono ?_; rintro e w3 ⟨rfl, k2⟩; have HB3 := hide (below_on HB2.out k2); have R3 := hide (R2.out.on k2); clear k2)
                  | (go_at_call 10; refine (lawful_is hl.out R1.out).mono ?_; rintro e w2 ⟨rfl, k2⟩; have HB2 := hide (below_on HB1.out k2); have R2 := hide (R1.out.on k2); clear k2)
                  | (go_at_call 7; refine (awake_any _).mono ?_; rintro e w1 ⟨rfl, k2⟩; have HB1 := hide (below_on HB0.out k2); have R1 := hide (R0.out.on k2); clear k2))
                go_ret
                exact ⟨rfl, HB9.out⟩
            · have hin : ((true && true && decide (sa = la) && decide (sa = t)) : Bool) = false := by simp [e1]
              rw [hin] at HI
              have z1 : (sa == la) = false := by simpa using e1
              clear hin e1
              go_enter Try.func5, Try.ntmps5
              go_wp2_with (first
                | (go_at_call 15; refine (in_is HI.out R8.out).mono ?_; rintro e w9 ⟨rfl, k2⟩; have HB9 := hide (below_on HB8.out k2); have R9 := hide (R8.out.on k2); clear k2)
                | (go_at_call 15; refine (in_is I4.out R7.out).mono ?_; rintro e w8 ⟨rfl, k2⟩; have HB8 := hide (below_on HB7.out k2); have R8 := hide (R7.out.on k2); clear k2)
                | (go_at_call 15; refine (in_is I3.out R6.out).mono ?_; rintro e w7 ⟨rfl, k2⟩; have HB7 := hide (below_on HB6.out k2); have R7 := hide (R6.out.on k2); clear k2)
                | (go_at_call 15; refine (in_is I2.out R5.out).mono ?_; rintro e w6 ⟨rfl, k2⟩; have HB6 := hide (below_on HB5.out k2); have R6 := hide (R5.out.on k2); clear k2)
                | (go_at_call 15; refine (in_is I1.out R4.out).mono ?_; rintro e w5 ⟨rfl, k2⟩; have HB5 := hide (below_on HB4.out k2); have R5 := hide (R4.out.on k2); clear k2)
                | (go_at_call 13; refine (last_is HT.out R3.out).mono ?_; rintro e w4 ⟨rfl, k2⟩; have HB4 := hide (below_on HB3.out k2); have R4 := hide (R3.out.on k2); clear k2)
                | (go_at_call 11; refine (start_is HS.out R2.out).mono ?_; rintro e w3 ⟨rfl, k2⟩; have HB3 := hide (below_on HB2.out k2); have R3 := hide (R2.out.on k2); clear k2)
                | (go_at_call 10; refine (lawful_is hl.out R1.out).mono ?_; rintro e w2 ⟨rfl, k2⟩; have HB2 := hide (below_on HB1.out k2); have R2 := hide (R1.out.on k2); clear k2)
                | (go_at_call 7; refine (awake_any _).mono ?_; rintro e w1 ⟨rfl, k2⟩; have HB1 := hide (below_on HB0.out k2); have R1 := hide (R0.out.on k2); clear k2))
              go_ret
              exact ⟨rfl, HB9.out⟩
          · clear n6
            by_cases e1 : sa = la
            · by_cases e2 : sa = t
              · have hin : ((true && true && decide (sa = la) && decide (sa = t)) : Bool) = true := by rw [decide_eq_true e1, decide_eq_true e2]; rfl
                rw [hin] at HI
                have z1 : (sa == la) = true := by simpa using e1
                have z2 : (sa == t) = true := by simpa using e2
                clear hin e1 e2
                go_enter Try.func5, Try.ntmps5
                go_wp2_with (first
                  | (go_at_call 15; refine (in_is HI.out R7.out).mono ?_; rintro e w8 ⟨rfl, k2⟩; have HB8 := hide (below_on HB7.out k2); have R8 := hide (R7.out.on k2); clear k2)
                  | (go_at_call 15; refine (in_is I3.out R6.out).mono ?_; rintro e w7 ⟨rfl, k2⟩; have HB7 := hide (below_on HB6.out k2); have R7 := hide (R6.out.on k2); clear k2)
                  | (go_at_call 15; refine (in_is I2.out R5.out).mono ?_; rintro e w6 ⟨rfl, k2⟩; have HB6 := hide (below_on HB5.out k2); have R6 := hide (R5.out.on k2); clear k2)
                  | (go_at_call 15; refine (in_is I1.out R4.out).mono ?_; rintro e w5 ⟨rfl, k2⟩; have HB5 := hide (below_on HB4.out k2); have R5 := hide (R4.out.on k2); clear k2)
                  | (go_at_call 13; refine (last_is HT.out R3.out).mono ?_; rintro e w4 ⟨rfl, k2⟩; have HB4 := hide (below_on HB3.out k2); have R4 := hide (R3.out.on k2); clear k2)
                  | (go_at_call 11; refine (start_is HS.out R2.out).mono ?_; rintro e w3 ⟨rfl, k2⟩; have HB3 := hide (below_on HB2.out k2); have R3 := hide (R2.out.on k2); clear k2)
                  | (go_at_call 10; refine (lawful_is hl.out R1.out).mono ?_; rintro e w2 ⟨rfl, k2⟩; have HB2 := hide (below_on HB1.out k2); have R2 := hide (R1.out.on k2); clear k2)
                  | (go_at_call 7; refine (awake_any _).mono ?_; rintro e w1 ⟨rfl, k2⟩; have HB1 := hide (below_on HB0.out k2); have R1 := hide (R0.out.on k2); clear k2))
                go_ret
                exact ⟨rfl, HB8.out⟩
              · have hin : ((true && true && decide (sa = la) && decide (sa = t)) : Bool) = false := by simp [e2]
                rw [hin] at HI
                have z1 : (sa == la) = true := by simpa using e1
                have z2 : (sa == t) = false := by simpa using e2
                clear hin e1 e2
                go_enter Try.func5, Try.ntmps5
                go_wp2_with (first
                  | (go_at_call 15; refine (in_is HI.out R7.out).mono ?_; rintro e w8 ⟨rfl, k2⟩; have HB8 := hide (below_on HB7.out k2); have R8 := hide (R7.out.on k2); clear k2)
                  | (go_at_call 15; refine (in_is I3.out R6.out).mono ?_; rintro e w7 ⟨rfl, k2⟩; have HB7 := hide (below_on HB6.out k2); have R7 := hide (R6.out.on k2); clear k2)
                  | (go_at_call 15; refine (in_is I2.out R5.out).mono ?_; rintro e w6 ⟨rfl, k2⟩; have HB6 := hide (below_on HB5.out k2); have R6 := hide (R5.out.on k2); clear k2)
                  | (go_at_call 15; refine (in_is I1.out R4.out).mono ?_; rintro e w5 ⟨rfl, k2⟩; have HB5 := hide (below_on HB4.out k2); have R5 := hide (R4.out.on k2); clear k2)
                  | (go_at_call 13; refine (last_is HT.out R3.out).mono ?_; rintro e w4 ⟨rfl, k2⟩; have HB4 := hide (below_on HB3.out k2); have R4 := hide (R3.out.on k2); clear k2)
                  | (go_at_call 11; refine (start_is HS.out R2.out).mono ?_; rintro e w3 ⟨rfl, k2⟩; have HB3 := hide (below_on HB2.out k2); have R3 := hide (R2.out.on k2); clear k2)
                  | (go_at_call 10; refine (lawful_is hl.out R1.out).mono ?_; rintro e w2 ⟨rfl, k2⟩; have HB2 := hide (below_on HB1.out k2); have R2 := hide (R1.out.on k2); clear k2)
                  | (go_at_call 7; refine (awake_any _).mono ?_; rintro e w1 ⟨rfl, k2⟩; have HB1 := hide (below_on HB0.out k2); have R1 := hide (R0.out.on k2); clear k2))
                go_ret
                exact ⟨rfl, HB8.out⟩
            · have hin : ((true && true && decide (sa = la) && decide (sa = t)) : Bool) = false := by simp [e1]
              rw [hin] at HI
              have z1 : (sa == la) = false := by simpa using e1
              clear hin e1
              go_enter Try.func5, Try.ntmps5
              go_wp2_with (first
                | (go_at_call 15; refine (in_is HI.out R7.out).mono ?_; rintro e w8 ⟨rfl, k2⟩; have HB8 := hide (below_on HB7.out k2); have R8 := hide (R7.out.on k2); clear k2)
                | (go_at_call 15; refine (in_is I3.out R6.out).mono ?_; rintro e w7 ⟨rfl, k2⟩; have HB7 := hide (below_on HB6.out k2); have R7 := hide (R6.out.on k2); clear k2)
                | (go_at_call 15; refine (in_is I2.out R5.out).mono ?_; rintro e w6 ⟨rfl, k2⟩; have HB6 := hide (below_on HB5.out k2); have R6 := hide (R5.out.on k2); clear k2)
                | (go_at_call 15; refine (in_is I1.out R4.out).mono ?_; rintro e w5 ⟨rfl, k2⟩; have HB5 := hide (below_on HB4.out k2); have R5 := hide (R4.out.on k2); clear k2)
                | (go_at_call 13; refine (last_is HT.out R3.out).mono ?_; rintro e w4 ⟨rfl, k2⟩; have HB4 := hide (below_on HB3.out k2); have R4 := hide (R3.out.on k2); clear k2)
                | (go_at_call 11; refine (start_is HS.out R2.out).mono ?_; rintro e w3 ⟨rfl, k2⟩; have HB3 := hide (below_on HB2.out k2); have R3 := hide (R2.out.on k2); clear k2)
                | (go_at_call 10; refine (lawful_is hl.out R1.out).mono ?_; rintro e w2 ⟨rfl, k2⟩; have HB2 := hide (below_on HB1.out k2); have R2 := hide (R1.out.on k2); clear k2)
                | (go_at_call 7; refine (awake_any _).mono ?_; rintro e w1 ⟨rfl, k2⟩; have HB1 := hide (below_on HB0.out k2); have R1 := hide (R0.out.on k2); clear k2))
              go_ret
              exact ⟨rfl, HB8.out⟩
      · clear n3
        cases lo with
        | false =>
          have I4 := hide (NT.2 rfl (t - p) (by omega))
          clear NT
          have hin : ((true && false && decide (sa = la) && decide (sa = t)) : Bool) = false := by simp
          rw [hin] at HI
          clear hin
          go_enter Try.func5, Try.ntmps5
          go_wp2_with (first
            | (go_at_call 15; refine (in_is HI.out R6.out).mono ?_; rintro e w7 ⟨rfl, k2⟩; have HB7 := hide (below_on HB6.out k2); have R7 := hide (R6.out.on k2); clear k2)
            | (go_at_call 15; refine (in_is I4.out R5.out).mono ?_; rintro e w6 ⟨rfl, k2⟩; have HB6 := hide (below_on HB5.out k2); have R6 := hide (R5.out.on k2); clear k2)
            | (go_at_call 15; refine (in_is I1.out R4.out).mono ?_; rintro e w5 ⟨rfl, k2⟩; have HB5 := hide (below_on HB4.out k2); have R5 := hide (R4.out.on k2); clear k2)
            | (go_at_call 13; refine (last_is HT.out R3.out).mono ?_; rintro e w4 ⟨rfl, k2⟩; have HB4 := hide (below_on HB3.out k2); have R4 := hide (R3.out.on k2); clear k2)
            | (go_at_call 11; refine (start_is HS.out R2.out).mono ?_; rintro e w3 ⟨rfl, k2⟩; have HB3 := hide (below_on HB2.out k2); have R3 := hide (R2.out.on k2); clear k2)
            | (go_at_call 10; refine (lawful_is hl.out R1.out).mono ?_; rintro e w2 ⟨rfl, k2⟩; have HB2 := hide (below_on HB1.out k2); have R2 := hide (R1.out.on k2); clear k2)
            | (go_at_call 7; refine (awake_any _).mono ?_; rintro e w1 ⟨rfl, k2⟩; have HB1 := hide (below_on HB0.out k2); have R1 := hide (R0.out.on k2); clear k2))
          go_ret
          exact ⟨rfl, HB7.out⟩
        | true =>
          obtain ⟨n4, n5, n6⟩ := NT.1 rfl
          have I3 := hide n5
          have n4d : ¬ t < la := by omega
          clear NT n5
          by_cases q2 : la < t - p
          · have I4 := hide (n6 (t - p) (by omega) q2)
            clear n6
            by_cases e1 : sa = la
            · by_cases e2 : sa = t
              · have hin : ((true && true && decide (sa = la) && decide (sa = t)) : Bool) = true := by rw [decide_eq_true e1, decide_eq_true e2]; rfl
                rw [hin] at HI
                have z1 : (sa == la) = true := by simpa using e1
                have z2 : (sa == t) = true := by simpa using e2
                clear hin e1 e2
                go_enter Try.func5, Try.ntmps5
                go_wp2_with (first
                  | (go_at_call 15; refine (in_is HI.out R7.out).mono ?_; rintro e w8 ⟨rfl, k2⟩; have HB8 := hide (below_on HB7.out k2); have R8 := hide (R7.out.on k2); clear k2)
                  | (go_at_call 15; refine (in_is I4.out R6.out).mono ?_; rintro e w7 ⟨rfl, k2⟩; have HB7 := hide (below_on HB6.out k2); have R7 := hide (R6.out.on k2); clear k2)
                  | (go_at_call 15; refine (in_is I3.out R5.out).mono ?_; rintro e w6 ⟨rfl, k2⟩; have HB6 := hide (below_on HB5.out k2); have R6 := hide (R5.out.on k2); clear k2)
                  | (go_at_call 15; refine (in_is I1.out R4.out).mono ?_; rintro e w5 ⟨rfl, k2⟩; have HB5 := hide (below_on HB4.out k2); have R5 := hide (R4.out.on k2); clear k2)
                  | (go_at_call 13; refine (last_is HT.out R3.out).mono ?_; rintro e w4 ⟨rfl, k2⟩; have HB4 := hide (below_on HB3.out k2); have R4 := hide (R3.out.on k2); clear k2)
                  | (go_at_call 11; refine (start_is HS.out R2.out).mono ?_; rintro e w3 ⟨rfl, k2⟩; have HB3 := hide (below_on HB2.out k2); have R3 := hide (R2.out.on k2); clear k2)
                  | (go_at_call 10; refine (lawful_is hl.out R1.out).mono ?_; rintro e w2 ⟨rfl, k2⟩; have HB2 := hide (below_on HB1.out k2); have R2 := hide (R1.out.on k2); clear k2)
                  | (go_at_call 7; refine (awake_any _).mono ?_; rintro e w1 ⟨rfl, k2⟩; have HB1 := hide (below_on HB0.out k2); have R1 := hide (R0.out.on k2); clear k2))
                go_ret
                exact ⟨rfl, HB8.out⟩
              · have hin : ((true && true && decide (sa = la) && decide (sa = t)) : Bool) = false := by simp [e2]
                rw [hin] at HI
                have z1 : (sa == la) = true := by simpa using e1
                have z2 : (sa == t) = false := by simpa using e2
                clear hin e1 e2
                go_enter Try.func5, Try.ntmps5
                go_wp2_with (first
                  | (go_at_call 15; refine (in_is HI.out R7.out).mono ?_; rintro e w8 ⟨rfl, k2⟩; have HB8 := hide (below_on HB7.out k2); have R8 := hide (R7.out.on k2); clear k2)
                  | (go_at_call 15; refine (in_is I4.out R6.out).mono ?_; rintro e w7 ⟨rfl, k2⟩; have HB7 := hide (below_on HB6.out k2); have R7 := hide (R6.out.on k2); clear k2)
                  | (go_at_call 15; refine (in_is I3.out R5.out).mono ?_; rintro e w6 ⟨rfl, k2⟩; have HB6 := hide (below_on HB5.out k2); have R6 := hide (R5.out.on k2); clear k2)
                  | (go_at_call 15; refine (in_is I1.out R4.out).mono ?_; rintro e w5 ⟨rfl, k2⟩; have HB5 := hide (below_on HB4.out k2); have R5 := hide (R4.out.on k2); clear k2)
                  | (go_at_call 13; refine (last_is HT.out R3.out).mono ?_; rintro e w4 ⟨rfl, k2⟩; have HB4 := hide (below_on HB3.out k2); have R4 := hide (R3.out.on k2); clear k2)
                  | (go_at_call 11; refine (start_is HS.out R2.out).mono ?_; rintro e w3 ⟨rfl, k2⟩; have HB3 := hide (below_on HB2.out k2); have R3 := hide (R2.out.on k2); clear k2)
                  | (go_at_call 10; refine (lawful_is hl.out R1.out).mono ?_; rintro e w2 ⟨rfl, k2⟩; have HB2 := hide (below_on HB1.out k2); have R2 := hide (R1.out.on k2); clear k2)
                  | (go_at_call 7; refine (awake_any _).mono ?_; rintro e w1 ⟨rfl, k2⟩; have HB1 := hide (below_on HB0.out k2); have R1 := hide (R0.out.on k2); clear k2))
                go_ret
                exact ⟨rfl, HB8.out⟩
            · have hin : ((true && true && decide (sa = la) && decide (sa = t)) : Bool) = false := by simp [e1]
              rw [hin] at HI
              have z1 : (sa == la) = false := by simpa using e1
              clear hin e1
              go_enter Try.func5, Try.ntmps5
              go_wp2_with (first
                | (go_at_call 15; refine (in_is HI.out R7.out).mono ?_; rintro e w8 ⟨rfl, k2⟩; have HB8 := hide (below_on HB7.out k2); have R8 := hide (R7.out.on k2); clear k2)
                | (go_at_call 15; refine (in_is I4.out R6.out).mono ?_; rintro e w7 ⟨rfl, k2⟩; have HB7 := hide (below_on HB6.out k2); have R7 := hide (R6.out.on k2); clear k2)
                | (go_at_call 15; refine (in_is I3.out R5.out).mono ?_; rintro e w6 ⟨rfl, k2⟩; have HB6 := hide (below_on HB5.out k2); have R6 := hide (R5.out.on k2); clear k2)
                | (go_at_call 15; refine (in_is I1.out R4.out).mono ?_; rintro e w5 ⟨rfl, k2⟩; have HB5 := hide (below_on HB4.out k2); have R5 := hide (R4.out.on k2); clear k2)
                | (go_at_call 13; refine (last_is HT.out R3.out).mono ?_; rintro e w4 ⟨rfl, k2⟩; have HB4 := hide (below_on HB3.out k2); have R4 := hide (R3.out.on k2); clear k2)
                | (go_at_call 11; refine (start_is HS.out R2.out).mono ?_; rintro e w3 ⟨rfl, k2⟩; have HB3 := hide (below_on HB2.out k2); have R3 := hide (R2.out.on k2); clear k2)
                | (go_at_call 10; refine (lawful_is hl.out R1.out).mono ?_; rintro e w2 ⟨rfl, k2⟩; have HB2 := hide (below_on HB1.out k2); have R2 := hide (R1.out.on k2); clear k2)
                | (go_at_call 7; refine (awake_any _).mono ?_; rintro e w1 ⟨rfl, k2⟩; have HB1 := hide (below_on HB0.out k2); have R1 := hide (R0.out.on k2); clear k2))
              go_ret
              exact ⟨rfl, HB8.out⟩
          · clear n6
            by_cases e1 : sa = la
            · by_cases e2 : sa = t
              · have hin : ((true && true && decide (sa = la) && decide (sa = t)) : Bool) = true := by rw [decide_eq_true e1, decide_eq_true e2]; rfl
                rw [hin] at HI
                have z1 : (sa == la) = true := by simpa using e1
                have z2 : (sa == t) = true := by simpa using e2
                clear hin e1 e2
                go_enter Try.func5, Try.ntmps5
                go_wp2_with (first
                  | (go_at_call 15; refine (in_is HI.out R6.out).mono ?_; rintro e w7 ⟨rfl, k2⟩; have HB7 := hide (below_on HB6.out k2); have R7 := hide (R6.out.on k2); clear k2)
                  | (go_at_call 15; refine (in_is I3.out R5.out).mono ?_; rintro e w6 ⟨rfl, k2⟩; have HB6 := hide (below_on HB5.out k2); have R6 := hide (R5.out.on k2); clear k2)
                  | (go_at_call 15; refine (in_is I1.out R4.out).mono ?_; rintro e w5 ⟨rfl, k2⟩; have HB5 := hide (below_on HB4.out k2); have R5 := hide (R4.out.on k2); clear k2)
                  | (go_at_call 13; refine (last_is HT.out R3.out).mono ?_; rintro e w4 ⟨rfl, k2⟩; have HB4 := hide (below_on HB3.out k2); have R4 := hide (R3.out.on k2); clear k2)
                  | (go_at_call 11; refine (start_is HS.out R2.out).mono ?_; rintro e w3 ⟨rfl, k2⟩; have HB3 := hide (below_on HB2.out k2); have R3 := hide (R2.out.on k2); clear k2)
                  | (go_at_call 10; refine (lawful_is hl.out R1.out).mono ?_; rintro e w2 ⟨rfl, k2⟩; have HB2 := hide (below_on HB1.out k2); have R2 := hide (R1.out.on k2); clear k2)
                  | (go_at_call 7; refine (awake_any _).mono ?_; rintro e w1 ⟨rfl, k2⟩; have HB1 := hide (below_on HB0.out k2); have R1 := hide (R0.out.on k2); clear k2))
                go_ret
                exact ⟨rfl, HB7.out⟩
              · have hin : ((true && true && decide (sa = la) && decide (sa = t)) : Bool) = false := by simp [e2]
                rw [hin] at HI
                have z1 : (sa == la) = true := by simpa using e1
                have z2 : (sa == t) = false := by simpa using e2
                clear hin e1 e2
                go_enter Try.func5, Try.ntmps5
                go_wp2_with (first
                  | (go_at_call 15; refine (in_is HI.out R6.out).mono ?_; rintro e w7 ⟨rfl, k2⟩; have HB7 := hide (below_on HB6.out k2); have R7 := hide (R6.out.on k2); clear k2)
                  | (go_at_call 15; refine (in_is I3.out R5.out).mono ?_; rintro e w6 ⟨rfl, k2⟩; have HB6 := hide (below_on HB5.out k2); have R6 := hide (R5.out.on k2); clear k2)
                  | (go_at_call 15; refine (in_is I1.out R4.out).mono ?_; rintro e w5 ⟨rfl, k2⟩; have HB5 := hide (below_on HB4.out k2); have R5 := hide (R4.out.on k2); clear k2)
                  | (go_at_call 13; refine (last_is HT.out R3.out).mono ?_; rintro e w4 ⟨rfl, k2⟩; have HB4 := hide (below_on HB3.out k2); have R4 := hide (R3.out.on k2); clear k2)
                  | (go_at_call 11; refine (start_is HS.out R2.out).mono ?_; rintro e w3 ⟨rfl, k2⟩; have HB3 := hide (below_on HB2.out k2); have R3 := hide (R2.out.on k2); clear k2)
                  | (go_at_call 10; refine (lawful_is hl.out R1.out).mono ?_; rintro e w2 ⟨rfl, k2⟩; have HB2 := hide (below_on HB1.out k2); have R2 := hide (R1.out.on k2); clear k2)
                  | (go_at_call 7; refine (awake_any _).mono ?_; rintro e w1 ⟨rfl, k2⟩; have HB1 := hide (below_on HB0.out k2); have R1 := hide (R0.out.on k2); clear k2))
                go_ret
                exact ⟨rfl, HB7.out⟩
            · have hin : ((true && true && decide (sa = la) && decide (sa = t)) : Bool) = false := by simp [e1]
              rw [hin] at HI
              have z1 : (sa == la) = false := by simpa using e1
              clear hin e1
              go_enter Try.func5, Try.ntmps5
              go_wp2_with (first
                | (go_at_call 15; refine (in_is HI.out R6.out).mono ?_; rintro e w7 ⟨rfl, k2⟩; have HB7 := hide (below_on HB6.out k2); have R7 := hide (R6.out.on k2); clear k2)
                | (go_at_call 15; refine (in_is I3.out R5.out).mono ?_; rintro e w6 ⟨rfl, k2⟩; have HB6 := hide (below_on HB5.out k2); have R6 := hide (R5.out.on k2); clear k2)
                | (go_at_call 15; refine (in_is I1.out R4.out).mono ?_; rintro e w5 ⟨rfl, k2⟩; have HB5 := hide (below_on HB4.out k2); have R5 := hide (R4.out.on k2); clear k2)
                | (go_at_call 13; refine (last_is HT.out R3.out).mono ?_; rintro e w4 ⟨rfl, k2⟩; have HB4 := hide (below_on HB3.out k2); have R4 := hide (R3.out.on k2); clear k2)
                | (go_at_call 11; refine (start_is HS.out R2.out).mono ?_; rintro e w3 ⟨rfl, k2⟩; have HB3 := hide (below_on HB2.out k2); have R3 := hide (R2.out.on k2); clear k2)
                | (go_at_call 10; refine (lawful_is hl.out R1.out).mono ?_; rintro e w2 ⟨rfl, k2⟩; have HB2 := hide (below_on HB1.out k2); have R2 := hide (R1.out.on k2); clear k2)
                | (go_at_call 7; refine (awake_any _).mono ?_; rintro e w1 ⟨rfl, k2⟩; have HB1 := hide (below_on HB0.out k2); have R1 := hide (R0.out.on k2); clear k2))
              go_ret
              exact ⟨rfl, HB7.out⟩
end Go.Proofs.Ytjinhjfjdcmdeaa
