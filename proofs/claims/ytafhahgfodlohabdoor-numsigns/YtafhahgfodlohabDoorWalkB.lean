/-
  What each call of num and of the document's answer does: fitting, size, Add.
-/
import Derived.Test.YtafhahgfodlohabDoorWalkA
namespace Go.Proofs.YtafhahgfodlohabDoor
open Go.RowKit

set_option maxHeartbeats 400000 in
theorem fitting_any (a : Int) (w : World) :
    Calls Tryd.prog 11 #[.int .i64 a] w fun e w' => e = .returned (.tuple #[.int .i64 (bif fitsB a then a else 0), .int .i64 (bif fitsB a then 0 else 10)]) ∧ w' = w := by
  cases h : fitsB a
  all_goals
    go_enter Tryd.func11, Tryd.ntmps11
    go_wp2_with (go_at_call 10; refine (nfits_any _ _).mono ?_; rintro e w' ⟨rfl, rfl⟩)
    go_ret2
    exact ⟨by simp, rfl⟩

theorem ret_int {k : IntKind} {a b : Int} (h : a = b) : Ending.returned (.int k a) = .returned (.int k b) := by rw [h]

set_option maxHeartbeats 400000 in
theorem size_any (a : Int) (w : World) (h0 : -4611686018427387903 ≤ a) (h1 : a ≤ 4611686018427387903) :
    Calls Tryd.prog 12 #[.int .i64 a] w fun e w' => e = .returned (.int .i64 (absI a)) ∧ w' = w := by
  by_cases h : a < 0
  · go_enter Tryd.func12, Tryd.ntmps12
    go_wp2
    go_ret
    exact ⟨ret_int (absI_neg h).symm, rfl⟩
  · have h' : ¬ a < 0 := h
    go_enter Tryd.func12, Tryd.ntmps12
    go_wp2
    go_ret
    exact ⟨ret_int (absI_pos (by omega)).symm, rfl⟩

set_option maxHeartbeats 400000 in
theorem nadd_any (a b : Int) (w : World) :
    Calls Tryd.prog 6 #[.int .i64 a, .int .i64 b] w fun e w' => e = .returned (.tuple #[.int .i64 (addV a b), .int .i64 (addE a b)]) ∧ w' = w := by
  cases ha : fitsB a
  · go_enter Tryd.func6, Tryd.ntmps6
    go_wp2_with (first | (go_at_call 10; refine (nfits_any _ _).mono ?_; rintro e w' ⟨rfl, rfl⟩) | (go_at_call 11; refine (fitting_any _ _).mono ?_; rintro e w' ⟨rfl, rfl⟩))
    go_ret2
    exact ⟨by simp [addV, addE, addOk, ha], rfl⟩
  · cases hb : fitsB b
    · go_enter Tryd.func6, Tryd.ntmps6
      go_wp2_with (first | (go_at_call 10; refine (nfits_any _ _).mono ?_; rintro e w' ⟨rfl, rfl⟩) | (go_at_call 11; refine (fitting_any _ _).mono ?_; rintro e w' ⟨rfl, rfl⟩))
      go_ret2
      exact ⟨by simp [addV, addE, addOk, ha, hb], rfl⟩
    · have ha' := (fitsB_iff a).1 ha
      have hb' := (fitsB_iff b).1 hb
      obtain ⟨ha1, ha2⟩ := ha'
      obtain ⟨hb1, hb2⟩ := hb'
      go_enter Tryd.func6, Tryd.ntmps6
      go_wp2_with (first | (go_at_call 10; refine (nfits_any _ _).mono ?_; rintro e w' ⟨rfl, rfl⟩) | (go_at_call 11; refine (fitting_any _ _).mono ?_; rintro e w' ⟨rfl, rfl⟩))
      go_ret2
      exact ⟨by simp [addV, addE, addOk, ha, hb], rfl⟩

end Go.Proofs.YtafhahgfodlohabDoor
