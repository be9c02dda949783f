/-
  What the calls of compare and sameEnds do.
-/
import Derived.Test.YtojkdmkeankcgaaGreatBase
import Derived.Sort.Grow
import Derived.Deep.RegionHeld3
namespace Go.Proofs.YtojkdmkeankcgaaGreat
open Go.RowKit Go.Sort

theorem cfL_or (x y : Leg) : or3 (cmpI x.1 y.1) (cmpI x.2.1 y.2.1) (cmpI x.2.2 y.2.2) = cfL x y := rfl
set_option maxHeartbeats 400000 in
theorem cmp_leg (x y : Leg) (w : World) : Calls Tryz.prog 77 #[.agg #[.int .i64 x.1, .int .i64 x.2.1, .int .i64 x.2.2], .agg #[.int .i64 y.1, .int .i64 y.2.1, .int .i64 y.2.2]] w fun e w' => e = .returned (.int .i64 (cfL x y)) ∧ ∃ q os', w' = grow (w.drewN q) os' := by
  rw [← cfL_or]
  obtain ⟨x1, x2, x3⟩ := x
  obtain ⟨y1, y2, y3⟩ := y
  show Calls Tryz.prog 77 #[.agg #[.int .i64 x1, .int .i64 x2, .int .i64 x3], .agg #[.int .i64 y1, .int .i64 y2, .int .i64 y3]] w fun e w' => e = .returned (.int .i64 (or3 (cmpI x1 y1) (cmpI x2 y2) (cmpI x3 y3))) ∧ ∃ q os', w' = grow (w.drewN q) os'
  have m1 : Hid (∀ a b c : Int, ∀ W : World, Calls Tryz.prog 95 #[.slice (some ⟨W.heap.size, 0, none⟩) 3 3] (W.alloc (.cells #[.int .i64 a, .int .i64 b, .int .i64 c] 3)).drew fun e w' => e = .returned (.int .i64 (or3 a b c)) ∧ w' = (W.alloc (.cells #[.int .i64 a, .int .i64 b, .int .i64 c] 3)).drew) :=
    fun a b c W => or_any a b c _ _ _ (by show (W.alloc _).cell? _ = _; simp) (by show (W.alloc _).cell? _ = _; simp) (by show (W.alloc _).cell? _ = _; simp)
  go_enter Tryz.func77, Tryz.ntmps77
  go_wp2
  have HW : Hid (∃ os', (w.alloc (.cells #[.int .i64 x1, .int .i64 x2, .int .i64 x3] 102)).alloc (.cells #[.int .i64 y1, .int .i64 y2, .int .i64 y3] 102) = grow w os') := ⟨_, by rw [alloc_eq_grow, alloc_eq_grow, grow_grow]⟩
  have c0 : ((w.alloc (.cells #[.int .i64 x1, .int .i64 x2, .int .i64 x3] 102)).alloc (.cells #[.int .i64 y1, .int .i64 y2, .int .i64 y3] 102)).cell? ⟨w.heap.size, 0, none⟩ = some (.int .i64 x1) := by simp
  have c1 : ((w.alloc (.cells #[.int .i64 x1, .int .i64 x2, .int .i64 x3] 102)).alloc (.cells #[.int .i64 y1, .int .i64 y2, .int .i64 y3] 102)).cell? ⟨w.heap.size, 1, none⟩ = some (.int .i64 x2) := by simp
  have c2 : ((w.alloc (.cells #[.int .i64 x1, .int .i64 x2, .int .i64 x3] 102)).alloc (.cells #[.int .i64 y1, .int .i64 y2, .int .i64 y3] 102)).cell? ⟨w.heap.size, 2, none⟩ = some (.int .i64 x3) := by simp
  have c3 : ((w.alloc (.cells #[.int .i64 x1, .int .i64 x2, .int .i64 x3] 102)).alloc (.cells #[.int .i64 y1, .int .i64 y2, .int .i64 y3] 102)).cell? ⟨w.heap.size + 1, 0, none⟩ = some (.int .i64 y1) := by simp
  have c4 : ((w.alloc (.cells #[.int .i64 x1, .int .i64 x2, .int .i64 x3] 102)).alloc (.cells #[.int .i64 y1, .int .i64 y2, .int .i64 y3] 102)).cell? ⟨w.heap.size + 1, 1, none⟩ = some (.int .i64 y2) := by simp
  have c5 : ((w.alloc (.cells #[.int .i64 x1, .int .i64 x2, .int .i64 x3] 102)).alloc (.cells #[.int .i64 y1, .int .i64 y2, .int .i64 y3] 102)).cell? ⟨w.heap.size + 1, 2, none⟩ = some (.int .i64 y3) := by simp
  generalize (w.alloc (.cells #[.int .i64 x1, .int .i64 x2, .int .i64 x3] 102)).alloc (.cells #[.int .i64 y1, .int .i64 y2, .int .i64 y3] 102) = W at HW c0 c1 c2 c3 c4 c5 ⊢
  generalize w.heap.size + 1 = B2 at c0 c1 c2 c3 c4 c5 ⊢
  generalize w.heap.size = B1 at c0 c1 c2 c3 c4 c5 ⊢
  go_region_held3 (fun w' => w'.cell? ⟨B1, 0, none⟩ = some (.int .i64 x1) ∧ w'.cell? ⟨B1, 1, none⟩ = some (.int .i64 x2) ∧ w'.cell? ⟨B1, 2, none⟩ = some (.int .i64 x3) ∧ w'.cell? ⟨B2, 0, none⟩ = some (.int .i64 y1) ∧ w'.cell? ⟨B2, 1, none⟩ = some (.int .i64 y2) ∧ w'.cell? ⟨B2, 2, none⟩ = some (.int .i64 y3)) (go_keep) (first | (go_at_call 96; refine (compare_any _ _ _).mono ?_; rintro e w' ⟨rfl, rfl⟩) | (go_at_call 95; refine (m1.out _ _ _ _).mono ?_; rintro e w' ⟨rfl, rfl⟩))
  all_goals
    go_wp2
    go_ret
    obtain ⟨os', hos⟩ := HW.out
    exact ⟨rfl, 1, _, by rw [alloc_eq_grow, hos, grow_grow]; rfl⟩
theorem same_leg (x y : Leg) (w : World) : Calls Tryz.prog 79 #[.agg #[.int .i64 x.1, .int .i64 x.2.1, .int .i64 x.2.2], .agg #[.int .i64 y.1, .int .i64 y.2.1, .int .i64 y.2.2]] w fun e w' => e = .returned (.bool (decide (x.1 = y.1 ∧ x.2.1 = y.2.1))) ∧ ∃ q os', w' = grow (w.drewN q) os' := by
  obtain ⟨x1, x2, x3⟩ := x
  obtain ⟨y1, y2, y3⟩ := y
  show Calls Tryz.prog 79 #[.agg #[.int .i64 x1, .int .i64 x2, .int .i64 x3], .agg #[.int .i64 y1, .int .i64 y2, .int .i64 y3]] w fun e w' => e = .returned (.bool (decide (x1 = y1 ∧ x2 = y2))) ∧ ∃ q os', w' = grow (w.drewN q) os'
  by_cases h1 : x1 = y1
  · subst h1
    have e : decide (x1 = x1 ∧ x2 = y2) = (x2 == y2) := by by_cases h : x2 = y2 <;> simp [h]
    rw [e]
    go_enter Tryz.func79, Tryz.ntmps79
    go_wp2
    go_ret
    exact ⟨by simp, 0, _, by rw [alloc_eq_grow, alloc_eq_grow, grow_grow]; rfl⟩
  · have e : decide (x1 = y1 ∧ x2 = y2) = false := by simp [h1]
    have e2 : (x1 == y1) = false := by simp [h1]
    rw [e]
    go_enter Tryz.func79, Tryz.ntmps79
    go_wp2
    go_ret
    exact ⟨by simp, 0, _, by rw [alloc_eq_grow, alloc_eq_grow, grow_grow]; rfl⟩
end Go.Proofs.YtojkdmkeankcgaaGreat
