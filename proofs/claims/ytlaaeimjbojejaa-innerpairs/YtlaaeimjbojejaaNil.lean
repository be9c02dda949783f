/-
  What the calls on a nil line do.
-/
import Derived.Test.YtlaaeimjbojejaaAwk
import Derived.Deep.RegionHeld3
namespace Go.Proofs.Ytlaaeimjbojejaa
open Go.RowKit

theorem wit_neg {i l : Int} (h : l < 0) : witB i l = false := by
  unfold witB
  by_cases h0 : 0 ≤ i
  · rw [decide_eq_false (p := i ≤ l) (by omega), Bool.and_false]
  · rw [decide_eq_false h0]; rfl
set_option maxRecDepth 100000 in
set_option maxHeartbeats 12800000 in
theorem twoopt_nil (w : World) (i j k : Int) : Calls Try.prog 17 #[.pointer none, .int .i64 i, .int .i64 j, .int .i64 k] w fun e w' => e = .returned (.bool false) ∧ Below w.heap.size w w' := by
  go_enter Try.func17, Try.ntmps17
  go_wp2_with (first | (go_at_call 31; refine (rise_nil _ _ _).mono ?_; rintro e w1 ⟨rfl, k1⟩; have KK := hide k1; clear k1) | fail)
  go_ret
  exact ⟨rfl, KK.out⟩
set_option maxRecDepth 100000 in
set_option maxHeartbeats 12800000 in
theorem exchange_nil (w : World) (i j k : Int) : Calls Try.prog 18 #[.pointer none, .int .i64 i, .int .i64 j, .int .i64 k] w fun e w' => e = .returned (.bool false) ∧ Below w.heap.size w w' := by
  go_enter Try.func18, Try.ntmps18
  go_wp2_with (first | (go_at_call 31; refine (rise_nil _ _ _).mono ?_; rintro e w1 ⟨rfl, k1⟩; have KK := hide k1; clear k1) | fail)
  go_ret
  exact ⟨rfl, KK.out⟩
set_option maxRecDepth 100000 in
set_option maxHeartbeats 12800000 in
theorem mixed_nil (w : World) (i j k : Int) : Calls Try.prog 22 #[.pointer none, .int .i64 i, .int .i64 j, .int .i64 k] w fun e w' => e = .returned (.bool false) ∧ Below w.heap.size w w' := by
  have HB : Hid (witB i (-1) = false) := wit_neg (by decide)
  go_enter Try.func22, Try.ntmps22
  go_wp2_with (first | (go_at_call 34; refine (within_any _ _ _).mono ?_; rintro e w2 ⟨rfl, k2⟩; rw [HB.out]; have K2 := hide (below_on KK.out k2); clear KK k2; have KK := K2) | (go_at_call 30; refine (kept_nil _).mono ?_; rintro e w1 ⟨rfl, k1⟩; have KK := hide k1; clear k1) | fail)
  go_ret
  exact ⟨rfl, KK.out⟩
set_option maxRecDepth 100000 in
set_option maxHeartbeats 12800000 in
theorem pair_nil (w : World) (i j k : Int) : Calls Try.prog 21 #[.pointer none, .int .i64 i, .int .i64 j, .int .i64 k] w fun e w' => e = .returned (.bool false) ∧ Below w.heap.size w w' := by
  have HB : Hid (witB i (-1) = false) := wit_neg (by decide)
  go_enter Try.func21, Try.ntmps21
  go_wp2_with (first | (go_at_call 34; refine (within_any _ _ _).mono ?_; rintro e w2 ⟨rfl, k2⟩; rw [HB.out]; have K2 := hide (below_on KK.out k2); clear KK k2; have KK := K2) | (go_at_call 30; refine (kept_nil _).mono ?_; rintro e w1 ⟨rfl, k1⟩; have KK := hide k1; clear k1) | fail)
  go_ret
  exact ⟨rfl, KK.out⟩
set_option maxRecDepth 100000 in
set_option maxHeartbeats 12800000 in
theorem oropt_nil (w : World) (i j m : Int) : Calls Try.prog 20 #[.pointer none, .int .i64 i, .int .i64 j, .int .i64 m] w fun e w' => e = .returned (.bool false) ∧ Below w.heap.size w w' := by
  by_cases m1 : m < 1
  · go_enter Try.func20, Try.ntmps20
    go_wp2_with (first | (go_at_call 30; refine (kept_nil _).mono ?_; rintro e w1 ⟨rfl, k1⟩; have KK := hide k1; clear k1) | fail)
    go_ret
    exact ⟨rfl, KK.out⟩
  · by_cases m2 : m > 3
    · have m2' : 3 < m := by omega
      go_enter Try.func20, Try.ntmps20
      go_wp2_with (first | (go_at_call 30; refine (kept_nil _).mono ?_; rintro e w1 ⟨rfl, k1⟩; have KK := hide k1; clear k1) | fail)
      go_ret
      exact ⟨rfl, KK.out⟩
    · have m2' : ¬ 3 < m := by omega
      have w0 : IntKind.i64.wrap (0 - m) = -m := by rw [IntKind.wrap_i64]; omega
      have w0' : IntKind.i64.wrap (-m) = -m := by rw [IntKind.wrap_i64]; omega
      have HB : Hid (witB i (-m) = false) := wit_neg (by omega)
      go_enter Try.func20, Try.ntmps20
      go_wp2_with (first | (go_at_call 34; refine (within_any _ _ _).mono ?_; rintro e w2 ⟨rfl, k2⟩; rw [HB.out]; have K2 := hide (below_on KK.out k2); clear KK k2; have KK := K2) | (go_at_call 30; refine (kept_nil _).mono ?_; rintro e w1 ⟨rfl, k1⟩; have KK := hide k1; clear k1) | fail)
      go_ret
      exact ⟨rfl, KK.out⟩
set_option maxRecDepth 100000 in
set_option maxHeartbeats 12800000 in
theorem relocate_nil (w : World) (i j k : Int) : Calls Try.prog 19 #[.pointer none, .int .i64 i, .int .i64 j, .int .i64 k] w fun e w' => e = .returned (.bool false) ∧ Below w.heap.size w w' := by
  go_enter Try.func19, Try.ntmps19
  go_wp2_with (first | (go_at_call 20; refine (oropt_nil _ _ _ _).mono ?_; rintro e w1 ⟨rfl, k1⟩; have KK := hide k1; clear k1) | fail)
  go_ret
  exact ⟨rfl, KK.out⟩
set_option maxRecDepth 100000 in
set_option maxHeartbeats 12800000 in
theorem play_nil (w : World) (c : Nat) (hc : c < 6) (i j k : Int) : Calls Try.prog 11 #[.pointer none, .int .i64 (c : Int), .int .i64 i, .int .i64 j, .int .i64 k] w fun e w' => e = .returned (.bool false) ∧ Below w.heap.size w w' := by
  rcases (show c = 0 ∨ c = 1 ∨ c = 2 ∨ c = 3 ∨ c = 4 ∨ c = 5 by omega) with rfl | rfl | rfl | rfl | rfl | rfl
  · go_enter Try.func11, Try.ntmps11
    go_wp2_with (first | (go_at_call 17; refine (twoopt_nil _ _ _ _).mono ?_; rintro e w1 ⟨rfl, k1⟩; have KK := hide k1; clear k1) | fail)
    go_ret
    exact ⟨rfl, KK.out⟩
  · go_enter Try.func11, Try.ntmps11
    go_wp2_with (first | (go_at_call 20; refine (oropt_nil _ _ _ _).mono ?_; rintro e w1 ⟨rfl, k1⟩; have KK := hide k1; clear k1) | fail)
    go_ret
    exact ⟨rfl, KK.out⟩
  · go_enter Try.func11, Try.ntmps11
    go_wp2_with (first | (go_at_call 19; refine (relocate_nil _ _ _ _).mono ?_; rintro e w1 ⟨rfl, k1⟩; have KK := hide k1; clear k1) | fail)
    go_ret
    exact ⟨rfl, KK.out⟩
  · go_enter Try.func11, Try.ntmps11
    go_wp2_with (first | (go_at_call 18; refine (exchange_nil _ _ _ _).mono ?_; rintro e w1 ⟨rfl, k1⟩; have KK := hide k1; clear k1) | fail)
    go_ret
    exact ⟨rfl, KK.out⟩
  · go_enter Try.func11, Try.ntmps11
    go_wp2_with (first | (go_at_call 22; refine (mixed_nil _ _ _ _).mono ?_; rintro e w1 ⟨rfl, k1⟩; have KK := hide k1; clear k1) | fail)
    go_ret
    exact ⟨rfl, KK.out⟩
  · go_enter Try.func11, Try.ntmps11
    go_wp2_with (first | (go_at_call 21; refine (pair_nil _ _ _ _).mono ?_; rintro e w1 ⟨rfl, k1⟩; have KK := hide k1; clear k1) | fail)
    go_ret
    exact ⟨rfl, KK.out⟩
end Go.Proofs.Ytlaaeimjbojejaa
