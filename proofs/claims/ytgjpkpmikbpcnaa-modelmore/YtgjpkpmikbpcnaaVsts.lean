/-
  What the calls of Visits and of its own Visits do.
-/
import Derived.Test.YtgjpkpmikbpcnaaSame
namespace Go.Proofs.Ytgjpkpmikbpcnaa
open Go.RowKit

/-- How many visits a task has, and of which kind each is. -/
def visN (s : Bool) : Nat := if s = true then 2 else 1
def visK (s : Bool) (k : Nat) : Int := if s = true then (k : Int) + 2 else 1
set_option maxRecDepth 100000 in
set_option maxHeartbeats 3200000 in
theorem visits_any (w : World) (s : Bool) (i : Int) : Calls Try.prog 31 #[.agg #[.bool s, .int .i64 i]] w fun e w' => ∃ v, e = .returned v ∧ PrV w' v (visN s) (fun k => (.int .i64 (visK s k), .int .i64 i)) ∧ (∃ c, v = .slice (some ⟨w.heap.size + 1, 0, none⟩) (visN s) c) ∧ Below w.heap.size w w' := by
  have HB0 : Hid (∀ A B, Below w.heap.size w ((w.alloc A).alloc B)) := fun A B => ((Below.refl _ _).alloc (Nat.le_refl _) A).alloc (by simp) B
  cases s with
  | true =>
    go_enter Try.func31, Try.ntmps31
    go_wp2
    go_ret
    have hr := heap_alloc2_new w (.cells #[.bool true, .int .i64 i] 31) (.cells #[.int .i64 2, .int .i64 i, .int .i64 3, .int .i64 i] 34)
    refine ⟨_, rfl, ⟨_, _, rfl, by decide, fun k hk => ⟨w.heap.size + 1, 0, rfl, ?_⟩⟩, ⟨_, rfl⟩, HB0.out _ _⟩
    rw [cell_of_row _ _ _ _ _ _ hr, cell_of_row _ _ _ _ _ _ hr]
    have hk : k < 2 := hk
    have hk : k = 0 ∨ k = 1 := by omega
    rcases hk with rfl | rfl <;> exact ⟨rfl, rfl⟩
  | false =>
    go_enter Try.func31, Try.ntmps31
    go_wp2
    go_ret
    have hr := heap_alloc2_new w (.cells #[.bool false, .int .i64 i] 31) (.cells #[.int .i64 1, .int .i64 i] 34)
    refine ⟨_, rfl, ⟨_, _, rfl, by decide, fun k hk => ⟨w.heap.size + 1, 0, rfl, ?_⟩⟩, ⟨_, rfl⟩, HB0.out _ _⟩
    rw [cell_of_row _ _ _ _ _ _ hr, cell_of_row _ _ _ _ _ _ hr]
    have hk : k < 1 := hk
    have hk : k = 0 := by omega
    subst hk
    exact ⟨rfl, rfl⟩
set_option maxRecDepth 100000 in
set_option maxHeartbeats 3200000 in
theorem rvisits_any (w : World) (s : Bool) (i : Int) : Calls Try.prog 32 #[.agg #[.bool s, .int .i64 i]] w fun e w' => ∃ v, e = .returned v ∧ PrV w' v (visN s) (fun k => (.int .i64 (visK s k), .int .i64 i)) ∧ (∃ c, v = .slice (some ⟨w.heap.size + 1, 0, none⟩) (visN s) c) ∧ Below w.heap.size w w' := by
  have HB0 : Hid (∀ A B, Below w.heap.size w ((w.alloc A).alloc B)) := fun A B => ((Below.refl _ _).alloc (Nat.le_refl _) A).alloc (by simp) B
  cases s with
  | true =>
    go_enter Try.func32, Try.ntmps32
    go_wp2
    go_ret
    have hr := heap_alloc2_new w (.cells #[.bool true, .int .i64 i] 31) (.cells #[.int .i64 2, .int .i64 i, .int .i64 3, .int .i64 i] 34)
    refine ⟨_, rfl, ⟨_, _, rfl, by decide, fun k hk => ⟨w.heap.size + 1, 0, rfl, ?_⟩⟩, ⟨_, rfl⟩, HB0.out _ _⟩
    rw [cell_of_row _ _ _ _ _ _ hr, cell_of_row _ _ _ _ _ _ hr]
    have hk : k < 2 := hk
    have hk : k = 0 ∨ k = 1 := by omega
    rcases hk with rfl | rfl <;> exact ⟨rfl, rfl⟩
  | false =>
    go_enter Try.func32, Try.ntmps32
    go_wp2
    go_ret
    have hr := heap_alloc2_new w (.cells #[.bool false, .int .i64 i] 31) (.cells #[.int .i64 1, .int .i64 i] 34)
    refine ⟨_, rfl, ⟨_, _, rfl, by decide, fun k hk => ⟨w.heap.size + 1, 0, rfl, ?_⟩⟩, ⟨_, rfl⟩, HB0.out _ _⟩
    rw [cell_of_row _ _ _ _ _ _ hr, cell_of_row _ _ _ _ _ _ hr]
    have hk : k < 1 := hk
    have hk : k = 0 := by omega
    subst hk
    exact ⟨rfl, rfl⟩
end Go.Proofs.Ytgjpkpmikbpcnaa
