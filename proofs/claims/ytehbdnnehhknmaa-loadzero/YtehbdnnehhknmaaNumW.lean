/-
  What each call of num and of the document's answer does: Fits, Add.
-/
import Derived.Test.YtehbdnnehhknmaaProg
import Derived.Test.YtehbdnnehhknmaaPlain
import Derived.WalkKit
import Derived.WalkSpells
import Derived.WalkLawsBesides
namespace Go.Proofs.Ytehbdnnehhknmaa
open Go.RowKit

set_option maxHeartbeats 400000 in
theorem nfits_any (a : Int) (w : World) :
    Calls Try.prog 29 #[.int .i64 a] w fun e w' => e = .returned (.bool (fitsB a)) ∧ w' = w := by
  by_cases h1 : -4611686018427387903 ≤ a <;> by_cases h2 : a ≤ 4611686018427387903
  all_goals
    go_enter Try.func29, Try.ntmps29
    go_wp2
    go_ret
    exact ⟨by simp [fitsB, h1, h2], rfl⟩

set_option maxHeartbeats 400000 in
theorem rfits_any (a : Int) (w : World) :
    Calls Try.prog 24 #[.int .i64 a] w fun e w' => e = .returned (.bool (fitsB a)) ∧ w' = w := by
  by_cases h1 : -4611686018427387903 ≤ a <;> by_cases h2 : a ≤ 4611686018427387903
  all_goals
    go_enter Try.func24, Try.ntmps24
    go_wp2
    go_ret
    exact ⟨by simp [fitsB, h1, h2], rfl⟩

set_option maxHeartbeats 400000 in
theorem fitting_any (a : Int) (w : World) :
    Calls Try.prog 30 #[.int .i64 a] w fun e w' => e = .returned (.tuple #[.int .i64 (bif fitsB a then a else 0), .int .i64 (bif fitsB a then 0 else 10)]) ∧ w' = w := by
  cases h : fitsB a
  all_goals
    go_enter Try.func30, Try.ntmps30
    go_wp2_with (go_at_call 29; refine (nfits_any _ _).mono ?_; rintro e w' ⟨rfl, rfl⟩)
    go_ret2
    exact ⟨by simp, rfl⟩

theorem ret_int {k : IntKind} {a b : Int} (h : a = b) : Ending.returned (.int k a) = .returned (.int k b) := by rw [h]

set_option maxHeartbeats 400000 in
theorem nadd_any (a b : Int) (w : World) :
    Calls Try.prog 23 #[.int .i64 a, .int .i64 b] w fun e w' => e = .returned (.tuple #[.int .i64 (addV a b), .int .i64 (addE a b)]) ∧ w' = w := by
  cases ha : fitsB a
  · go_enter Try.func23, Try.ntmps23
    go_wp2_with (first | (go_at_call 29; refine (nfits_any _ _).mono ?_; rintro e w' ⟨rfl, rfl⟩) | (go_at_call 30; refine (fitting_any _ _).mono ?_; rintro e w' ⟨rfl, rfl⟩))
    go_ret2
    exact ⟨by simp [addV, addE, addOk, ha], rfl⟩
  · cases hb : fitsB b
    · go_enter Try.func23, Try.ntmps23
      go_wp2_with (first | (go_at_call 29; refine (nfits_any _ _).mono ?_; rintro e w' ⟨rfl, rfl⟩) | (go_at_call 30; refine (fitting_any _ _).mono ?_; rintro e w' ⟨rfl, rfl⟩))
      go_ret2
      exact ⟨by simp [addV, addE, addOk, ha, hb], rfl⟩
    · have ha' := (fitsB_iff a).1 ha
      have hb' := (fitsB_iff b).1 hb
      obtain ⟨ha1, ha2⟩ := ha'
      obtain ⟨hb1, hb2⟩ := hb'
      go_enter Try.func23, Try.ntmps23
      go_wp2_with (first | (go_at_call 29; refine (nfits_any _ _).mono ?_; rintro e w' ⟨rfl, rfl⟩) | (go_at_call 30; refine (fitting_any _ _).mono ?_; rintro e w' ⟨rfl, rfl⟩))
      go_ret2
      exact ⟨by simp [addV, addE, addOk, ha, hb], rfl⟩

set_option maxHeartbeats 400000 in
theorem radd_any (a b : Int) (w : World) :
    Calls Try.prog 25 #[.int .i64 a, .int .i64 b] w fun e w' => e = .returned (.tuple #[.int .i64 (addV a b), .int .i64 (addE a b)]) ∧ w' = w := by
  cases ha : fitsB a
  · go_enter Try.func25, Try.ntmps25
    go_wp2_with (go_at_call 24; refine (rfits_any _ _).mono ?_; rintro e w' ⟨rfl, rfl⟩)
    go_ret2
    exact ⟨by simp [addV, addE, addOk, ha], rfl⟩
  · cases hb : fitsB b
    · go_enter Try.func25, Try.ntmps25
      go_wp2_with (go_at_call 24; refine (rfits_any _ _).mono ?_; rintro e w' ⟨rfl, rfl⟩)
      go_ret2
      exact ⟨by simp [addV, addE, addOk, ha, hb], rfl⟩
    · have ha' := (fitsB_iff a).1 ha
      have hb' := (fitsB_iff b).1 hb
      obtain ⟨ha1, ha2⟩ := ha'
      obtain ⟨hb1, hb2⟩ := hb'
      cases hs : fitsB (a + b)
      all_goals
        go_enter Try.func25, Try.ntmps25
        go_wp2_with (go_at_call 24; refine (rfits_any _ _).mono ?_; rintro e w' ⟨rfl, rfl⟩)
        go_ret2
        exact ⟨by simp [addV, addE, addOk, ha, hb, hs], rfl⟩

end Go.Proofs.Ytehbdnnehhknmaa
