/-
  What the statements' fixed fact does.
-/
import Derived.Test.YtkemjofjmpjiiaaDoorOf
namespace Go.Proofs.YtkemjofjmpjiiaaDoor
open Go.RowKit

theorem lits2 (w : World) (x y : Int) : IntsAt (w.alloc (.cells #[.int .i64 x, .int .i64 y] 3)) (some ⟨w.heap.size, 0, none⟩) [x, y] := fun k hk => by
  refine ⟨_, _, rfl, ?_⟩
  rw [Nat.zero_add, cell_of_row _ w.heap.size k _ _ _ (heap_alloc_new _ _)]
  have : k = 0 ∨ k = 1 := by simp at hk; omega
  rcases this with rfl | rfl <;> rfl
theorem below_on {w0 w1 w2 : World} (h : Below w0.heap.size w0 w1) (k : Below w1.heap.size w1 w2) : Below w0.heap.size w0 w2 := h.trans (k.mono h.size)
theorem below_new {w w' : World} {o : Obj} (h : w' = w.alloc o) : Below w.heap.size w w' := by rw [h]; exact (Below.refl _ _).alloc (Nat.le_refl _) _
theorem of_fix : ofM [3, 0] = (9, 0, 0) := by decide +kernel
theorem of_fix2 : ofM [3, 3] = (0, 1, 28) := by decide +kernel
theorem cov_fix : coversB 9 8 = true := by decide +kernel
theorem cov_fix2 : coversB 8 9 = false := by decide +kernel
theorem of_w1 (w' : World) : Calls Tryd.prog 6 #[.slice (some ⟨w'.heap.size, 0, none⟩) 2 2] (w'.alloc (.cells #[.int .i64 3, .int .i64 0] 3)) fun e w'' => e = .returned (.tuple #[.int .u64 9, .int .i64 0, .int .i64 0]) ∧ w'' = w'.alloc (.cells #[.int .i64 3, .int .i64 0] 3) := by
  have := of_any (ca := 2) (n := 2) (lits2 w' 3 0) rfl (by decide)
  refine this.mono ?_
  rintro e w'' ⟨rfl, h⟩
  exact ⟨by rw [of_fix]; rfl, h⟩
theorem of_w2 (w' : World) : Calls Tryd.prog 6 #[.slice (some ⟨w'.heap.size, 0, none⟩) 2 2] (w'.alloc (.cells #[.int .i64 3, .int .i64 3] 3)) fun e w'' => e = .returned (.tuple #[.int .u64 0, .int .i64 1, .int .i64 28]) ∧ w'' = w'.alloc (.cells #[.int .i64 3, .int .i64 3] 3) := by
  have := of_any (ca := 2) (n := 2) (lits2 w' 3 3) rfl (by decide)
  refine this.mono ?_
  rintro e w'' ⟨rfl, h⟩
  exact ⟨by rw [of_fix2]; rfl, h⟩
theorem cov_w1 (w' : World) : Calls Tryd.prog 13 #[.int .u64 9, .int .u64 8] w' fun e w'' => e = .returned (.bool true) ∧ w'' = w' := by
  have := covers_any 9 8 (by decide) (by decide) w'
  refine this.mono ?_
  rintro e w'' ⟨rfl, h⟩
  exact ⟨by rw [cov_fix], h⟩
theorem cov_w2 (w' : World) : Calls Tryd.prog 13 #[.int .u64 8, .int .u64 9] w' fun e w'' => e = .returned (.bool false) ∧ w'' = w' := by
  have := covers_any 8 9 (by decide) (by decide) w'
  refine this.mono ?_
  rintro e w'' ⟨rfl, h⟩
  exact ⟨by rw [cov_fix2], h⟩
set_option maxRecDepth 100000 in
set_option maxHeartbeats 400000 in
theorem awake_any (w : World) : Calls Tryd.prog 5 #[] w fun e w' => e = .returned (.bool true) ∧ Below w.heap.size w w' := by
  have HA : Hid True := trivial
  have HC : Hid True := trivial
  go_enter Tryd.func5, Tryd.ntmps5
  go_wp2_with (first
    | (go_at_call 6; clear HA; refine (of_w1 _).mono ?_; rintro e w1 ⟨rfl, hw⟩; have H1 := hide (below_new hw); clear hw)
    | (go_at_call 6; refine (of_w2 w1).mono ?_; rintro e w2 ⟨rfl, hw⟩; have H2 := hide (below_on H1.out (below_new hw)); clear hw)
    | (go_at_call 13; clear HC; refine (cov_w1 _).mono ?_; rintro e w3 ⟨rfl, hw⟩; rw [hw]; clear hw)
    | (go_at_call 13; refine (cov_w2 _).mono ?_; rintro e w4 ⟨rfl, hw⟩; rw [hw]; clear hw))
  go_ret
  exact ⟨rfl, H2.out⟩
end Go.Proofs.YtkemjofjmpjiiaaDoor
