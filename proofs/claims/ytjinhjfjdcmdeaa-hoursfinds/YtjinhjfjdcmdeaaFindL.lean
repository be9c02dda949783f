/-
  What the law HoursFinds does.
-/
import Derived.Test.YtjinhjfjdcmdeaaChkL
namespace Go.Proofs.Ytjinhjfjdcmdeaa
open Go.RowKit

set_option maxRecDepth 100000 in
set_option maxHeartbeats 3200000 in
theorem findsL_any {a : Option Addr} {m c : Nat} {L : List Win} {w : World} (t : Int) (h : WinsAt w a m L) (hc : a = none → c = 0) :
    Calls Try.prog 4 #[.slice a m c, .int .i64 t] w fun e w' => e = .returned (.bool true) ∧ Below w.heap.size w w' := by
  have R0 := hide h
  have HC := hide hc
  have HB0 := hide (Below.refl w.heap.size w)
  clear h hc
  cases hl : lawB L with
  | false =>
    replace hl := hide hl
    go_enter Try.func4, Try.ntmps4
    go_wp2_with (first
      | (go_at_call 10; refine (lawful_is hl.out R1.out).mono ?_; rintro e w2 ⟨rfl, k2⟩; have HB2 := hide (below_on HB1.out k2); have R2 := hide (R1.out.on k2); clear k2)
      | (go_at_call 7; refine (awake_any _).mono ?_; rintro e w1 ⟨rfl, k2⟩; have HB1 := hide (below_on HB0.out k2); have R1 := hide (R0.out.on k2); clear k2))
    go_ret
    exact ⟨rfl, HB2.out⟩
  | true =>
    have hL := (chk_ok (of_decide_eq_true hl)).2.2
    replace hl := hide hl
    obtain ⟨sa, so, HS⟩ : ∃ i e, Hid (startM t L = (i, e)) := ⟨_, _, rfl⟩
    obtain ⟨la, lo, HT⟩ : ∃ i e, Hid (lastM t L = (i, e)) := ⟨_, _, rfl⟩
    have HS2 := hide ((rst_eq (t := t) hL).symm.trans HS.out)
    have HT2 := hide ((rla_eq (t := t) hL).symm.trans HT.out)
    have HI := hide (in_start (t := t) hL)
    rw [HS.out] at HI
    clear hL
    cases so with
    | false =>
      have HJ : Hid (inM t L = false) := by show _ = _; rw [HI.out]; first | rfl | (simp [he]; done)
      try clear he
      clear HI
      go_enter Try.func4, Try.ntmps4
      go_wp2_with (first
        | (go_at_call 15; refine (in_is HJ.out X7.out).mono ?_; rintro e w8 ⟨rfl, k2⟩; have HB8 := hide (below_on HB7.out k2); have R8 := hide (R7.out.on k2); have X8 := hide (X7.out.on k2); clear k2)
        | (go_at_call 14; refine (rlast_is HT2.out R6.out).mono ?_; rintro e w7 ⟨rfl, k2⟩; have HB7 := hide (below_on HB6.out k2); have R7 := hide (R6.out.on k2); have X7 := hide (X6.out.on k2); clear k2)
        | (go_at_call 13; refine (last_is HT.out X5.out).mono ?_; rintro e w6 ⟨rfl, k2⟩; have HB6 := hide (below_on HB5.out k2); have R6 := hide (R5.out.on k2); have X6 := hide (X5.out.on k2); clear k2)
        | (go_at_call 12; refine (rstart_is HS2.out R4.out).mono ?_; rintro e w5 ⟨rfl, k2⟩; have HB5 := hide (below_on HB4.out k2); have R5 := hide (R4.out.on k2); have X5 := hide (X4.out.on k2); clear k2)
        | (go_at_call 11; refine (start_is HS.out X3.out).mono ?_; rintro e w4 ⟨rfl, k2⟩; have HB4 := hide (below_on HB3.out k2); have R4 := hide (R3.out.on k2); have X4 := hide (X3.out.on k2); clear k2)
        | (at_builtin; refine app_wins (.tmp 19) (.tmp 20) rfl rfl rfl rfl R2.out HC.out HB2.out ?_; intro aX cX w3 k1 k2 k3 k4 k5; have HB3 := hide k5; have X3 := hide k2; have R3 := hide (R2.out.on k4); clear k1 k2 k3 k4 k5)
        | (go_at_call 10; refine (lawful_is hl.out R1.out).mono ?_; rintro e w2 ⟨rfl, k2⟩; have HB2 := hide (below_on HB1.out k2); have R2 := hide (R1.out.on k2); clear k2)
        | (go_at_call 7; refine (awake_any _).mono ?_; rintro e w1 ⟨rfl, k2⟩; have HB1 := hide (below_on HB0.out k2); have R1 := hide (R0.out.on k2); clear k2))
      go_ret
      exact ⟨rfl, HB8.out⟩
    | true =>
      by_cases he : sa = t
      · have he2 : (sa == t) = true := by simpa using he
        have HJ : Hid (inM t L = true) := by show _ = _; rw [HI.out]; first | rfl | (simp [he]; done)
        try clear he
        clear HI
        go_enter Try.func4, Try.ntmps4
        go_wp2_with (first
          | (go_at_call 15; refine (in_is HJ.out X7.out).mono ?_; rintro e w8 ⟨rfl, k2⟩; have HB8 := hide (below_on HB7.out k2); have R8 := hide (R7.out.on k2); have X8 := hide (X7.out.on k2); clear k2)
          | (go_at_call 14; refine (rlast_is HT2.out R6.out).mono ?_; rintro e w7 ⟨rfl, k2⟩; have HB7 := hide (below_on HB6.out k2); have R7 := hide (R6.out.on k2); have X7 := hide (X6.out.on k2); clear k2)
          | (go_at_call 13; refine (last_is HT.out X5.out).mono ?_; rintro e w6 ⟨rfl, k2⟩; have HB6 := hide (below_on HB5.out k2); have R6 := hide (R5.out.on k2); have X6 := hide (X5.out.on k2); clear k2)
          | (go_at_call 12; refine (rstart_is HS2.out R4.out).mono ?_; rintro e w5 ⟨rfl, k2⟩; have HB5 := hide (below_on HB4.out k2); have R5 := hide (R4.out.on k2); have X5 := hide (X4.out.on k2); clear k2)
          | (go_at_call 11; refine (start_is HS.out X3.out).mono ?_; rintro e w4 ⟨rfl, k2⟩; have HB4 := hide (below_on HB3.out k2); have R4 := hide (R3.out.on k2); have X4 := hide (X3.out.on k2); clear k2)
          | (at_builtin; refine app_wins (.tmp 19) (.tmp 20) rfl rfl rfl rfl R2.out HC.out HB2.out ?_; intro aX cX w3 k1 k2 k3 k4 k5; have HB3 := hide k5; have X3 := hide k2; have R3 := hide (R2.out.on k4); clear k1 k2 k3 k4 k5)
          | (go_at_call 10; refine (lawful_is hl.out R1.out).mono ?_; rintro e w2 ⟨rfl, k2⟩; have HB2 := hide (below_on HB1.out k2); have R2 := hide (R1.out.on k2); clear k2)
          | (go_at_call 7; refine (awake_any _).mono ?_; rintro e w1 ⟨rfl, k2⟩; have HB1 := hide (below_on HB0.out k2); have R1 := hide (R0.out.on k2); clear k2))
        go_ret
        exact ⟨rfl, HB8.out⟩
      · have he2 : (sa == t) = false := by simpa using he
        have HJ : Hid (inM t L = false) := by show _ = _; rw [HI.out]; first | rfl | (simp [he]; done)
        try clear he
        clear HI
        go_enter Try.func4, Try.ntmps4
        go_wp2_with (first
          | (go_at_call 15; refine (in_is HJ.out X7.out).mono ?_; rintro e w8 ⟨rfl, k2⟩; have HB8 := hide (below_on HB7.out k2); have R8 := hide (R7.out.on k2); have X8 := hide (X7.out.on k2); clear k2)
          | (go_at_call 14; refine (rlast_is HT2.out R6.out).mono ?_; rintro e w7 ⟨rfl, k2⟩; have HB7 := hide (below_on HB6.out k2); have R7 := hide (R6.out.on k2); have X7 := hide (X6.out.on k2); clear k2)
          | (go_at_call 13; refine (last_is HT.out X5.out).mono ?_; rintro e w6 ⟨rfl, k2⟩; have HB6 := hide (below_on HB5.out k2); have R6 := hide (R5.out.on k2); have X6 := hide (X5.out.on k2); clear k2)
          | (go_at_call 12; refine (rstart_is HS2.out R4.out).mono ?_; rintro e w5 ⟨rfl, k2⟩; have HB5 := hide (below_on HB4.out k2); have R5 := hide (R4.out.on k2); have X5 := hide (X4.out.on k2); clear k2)
          | (go_at_call 11; refine (start_is HS.out X3.out).mono ?_; rintro e w4 ⟨rfl, k2⟩; have HB4 := hide (below_on HB3.out k2); have R4 := hide (R3.out.on k2); have X4 := hide (X3.out.on k2); clear k2)
          | (at_builtin; refine app_wins (.tmp 19) (.tmp 20) rfl rfl rfl rfl R2.out HC.out HB2.out ?_; intro aX cX w3 k1 k2 k3 k4 k5; have HB3 := hide k5; have X3 := hide k2; have R3 := hide (R2.out.on k4); clear k1 k2 k3 k4 k5)
          | (go_at_call 10; refine (lawful_is hl.out R1.out).mono ?_; rintro e w2 ⟨rfl, k2⟩; have HB2 := hide (below_on HB1.out k2); have R2 := hide (R1.out.on k2); clear k2)
          | (go_at_call 7; refine (awake_any _).mono ?_; rintro e w1 ⟨rfl, k2⟩; have HB1 := hide (below_on HB0.out k2); have R1 := hide (R0.out.on k2); clear k2))
        go_ret
        exact ⟨rfl, HB8.out⟩
end Go.Proofs.Ytjinhjfjdcmdeaa
