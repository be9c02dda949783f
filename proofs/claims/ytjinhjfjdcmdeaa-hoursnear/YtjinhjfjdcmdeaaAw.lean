/-
  What the call of Awake does.
-/
import Derived.Test.YtjinhjfjdcmdeaaLastW
namespace Go.Proofs.Ytjinhjfjdcmdeaa
open Go.RowKit

theorem two_wins (w : World) : WinsAt (w.alloc (.cells #[.int .i64 5, .int .i64 9, .int .i64 20, .int .i64 30] 37)) (some ⟨w.heap.size, 0, none⟩) 2 [(5, 9), (20, 30)] := by
  have hr := heap_alloc_new w (.cells #[.int .i64 5, .int .i64 9, .int .i64 20, .int .i64 30] 37)
  refine ⟨rfl, by omega, fun k hk => ⟨w.heap.size, 0, rfl, ?_⟩⟩
  have : k = 0 ∨ k = 1 := by omega
  rcases this with rfl | rfl
  · exact ⟨by rw [cell_of_row _ _ _ _ _ _ hr]; rfl, by rw [cell_of_row _ _ _ _ _ _ hr]; rfl⟩
  · exact ⟨by rw [cell_of_row _ _ _ _ _ _ hr]; rfl, by rw [cell_of_row _ _ _ _ _ _ hr]; rfl⟩
theorem aw_start : startM 10 [(5, 9), (20, 30)] = (20, true) := by decide
theorem aw_last : lastM 10 [(5, 9), (20, 30)] = (9, true) := by decide
theorem aw_in9 : inM 9 [(5, 9), (20, 30)] = true := by decide
theorem aw_in10 : inM 10 [(5, 9), (20, 30)] = false := by decide
set_option maxRecDepth 100000 in
set_option maxHeartbeats 1600000 in
theorem awake_any (w : World) : Calls Try.prog 7 #[] w fun e w' => e = .returned (.bool true) ∧ Below w.heap.size w w' := by
  have HW := hide (two_wins w)
  have HB0 : Hid (Below w.heap.size w (w.alloc (.cells #[.int .i64 5, .int .i64 9, .int .i64 20, .int .i64 30] 37))) := (Below.refl _ _).alloc (Nat.le_refl _) _
  go_enter Try.func7, Try.ntmps7
  go_wp2_with (first
    | (go_at_call 15; have hc := in_any (c := 2) 10 HW4.out; rw [aw_in10] at hc; refine hc.mono ?_; clear hc; rintro e w5 ⟨rfl, k2⟩; have HB5 := hide (below_on HB4.out k2); clear k2)
    | (go_at_call 15; have hc := in_any (c := 2) 9 HW3.out; rw [aw_in9] at hc; refine hc.mono ?_; clear hc; rintro e w4 ⟨rfl, k2⟩; have HB4 := hide (below_on HB3.out k2); have HW4 := hide (HW3.out.on k2); clear k2)
    | (go_at_call 13; have hc := last_any (c := 2) 10 HW2.out; rw [aw_last] at hc; refine hc.mono ?_; clear hc; rintro e w3 ⟨rfl, k2⟩; have HB3 := hide (below_on HB2.out k2); have HW3 := hide (HW2.out.on k2); clear k2)
    | (go_at_call 11; have hc := start_any (c := 2) 10 HW.out; rw [aw_start] at hc; refine hc.mono ?_; clear hc; rintro e w2 ⟨rfl, k2⟩; have HB2 := hide (below_on HB0.out k2); have HW2 := hide (HW.out.on k2); clear k2))
  go_ret
  exact ⟨rfl, HB5.out⟩
end Go.Proofs.Ytjinhjfjdcmdeaa
