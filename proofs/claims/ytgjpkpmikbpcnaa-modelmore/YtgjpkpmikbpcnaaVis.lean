/-
  What the calls of Of and of its own Of do.
-/
import Derived.Test.YtgjpkpmikbpcnaaAsk
namespace Go.Proofs.Ytgjpkpmikbpcnaa
open Go.RowKit

/-- The task of a visit. -/
def ofM (k i : Int) : (Bool × Int) × Bool := if k = 1 then ((false, i), true) else if k = 2 then ((true, i), true) else if k = 3 then ((true, i), true) else ((false, 0), false)
def taskE (t : Bool × Int) : Value := .agg #[.bool t.1, .int .i64 t.2]
set_option maxRecDepth 100000 in
set_option maxHeartbeats 3200000 in
theorem of_any (w : World) (k i : Int) : Calls Try.prog 19 #[.agg #[.int .i64 k, .int .i64 i]] w fun e w' => e = .returned (.tuple #[taskE (ofM k i).1, .bool (ofM k i).2]) ∧ Below w.heap.size w w' := by
  have HB0 : Hid (∀ A B, Below w.heap.size w ((w.alloc A).alloc B)) := fun A B => ((Below.refl _ _).alloc (Nat.le_refl _) A).alloc (by simp) B
  unfold taskE ofM
  by_cases h1 : k = 1
  · subst h1
    rw [if_pos rfl]
    go_enter Try.func19, Try.ntmps19
    go_wp2
    refine bodyPost_ret (v := (.tuple #[.agg #[.bool false, .int .i64 i], .bool true])) ?_ rfl ⟨rfl, (by repeat (first | exact HB0.out _ _ | (refine Below.setCell ?_ (by simp) _) | refine Below.drew ?_))⟩
    simp [results, Try.results19, go_sem]
  · rw [if_neg h1]
    have e1 : (k == 1) = false := by simpa using h1
    by_cases h2 : k = 2
    · subst h2
      rw [if_pos rfl]
      clear h1 e1
      go_enter Try.func19, Try.ntmps19
      go_wp2
      refine bodyPost_ret (v := (.tuple #[.agg #[.bool true, .int .i64 i], .bool true])) ?_ rfl ⟨rfl, (by repeat (first | exact HB0.out _ _ | (refine Below.setCell ?_ (by simp) _) | refine Below.drew ?_))⟩
      simp [results, Try.results19, go_sem]
    · rw [if_neg h2]
      have e2 : (k == 2) = false := by simpa using h2
      by_cases h3 : k = 3
      · subst h3
        rw [if_pos rfl]
        clear h1 e1 h2 e2
        go_enter Try.func19, Try.ntmps19
        go_wp2
        refine bodyPost_ret (v := (.tuple #[.agg #[.bool true, .int .i64 i], .bool true])) ?_ rfl ⟨rfl, (by repeat (first | exact HB0.out _ _ | (refine Below.setCell ?_ (by simp) _) | refine Below.drew ?_))⟩
        simp [results, Try.results19, go_sem]
      · rw [if_neg h3]
        have e3 : (k == 3) = false := by simpa using h3
        go_enter Try.func19, Try.ntmps19
        go_wp2
        refine bodyPost_ret (v := (.tuple #[.agg #[.bool false, .int .i64 0], .bool false])) ?_ rfl ⟨rfl, (by repeat (first | exact HB0.out _ _ | (refine Below.setCell ?_ (by simp) _) | refine Below.drew ?_))⟩
        simp [results, Try.results19, go_sem]
set_option maxRecDepth 100000 in
set_option maxHeartbeats 3200000 in
theorem rof_any (w : World) (k i : Int) : Calls Try.prog 20 #[.agg #[.int .i64 k, .int .i64 i]] w fun e w' => e = .returned (.tuple #[taskE (ofM k i).1, .bool (ofM k i).2]) ∧ Below w.heap.size w w' := by
  have HB0 : Hid (∀ A B, Below w.heap.size w ((w.alloc A).alloc B)) := fun A B => ((Below.refl _ _).alloc (Nat.le_refl _) A).alloc (by simp) B
  unfold taskE ofM
  by_cases h1 : k = 1
  · subst h1
    rw [if_pos rfl]
    go_enter Try.func20, Try.ntmps20
    go_wp2
    refine bodyPost_ret (v := (.tuple #[.agg #[.bool false, .int .i64 i], .bool true])) ?_ rfl ⟨rfl, (by repeat (first | exact HB0.out _ _ | (refine Below.setCell ?_ (by simp) _) | refine Below.drew ?_))⟩
    simp [results, Try.results20, go_sem]
  · rw [if_neg h1]
    have e1 : (k == 1) = false := by simpa using h1
    by_cases h2 : k = 2
    · subst h2
      rw [if_pos rfl]
      clear h1 e1
      go_enter Try.func20, Try.ntmps20
      go_wp2
      refine bodyPost_ret (v := (.tuple #[.agg #[.bool true, .int .i64 i], .bool true])) ?_ rfl ⟨rfl, (by repeat (first | exact HB0.out _ _ | (refine Below.setCell ?_ (by simp) _) | refine Below.drew ?_))⟩
      simp [results, Try.results20, go_sem]
    · rw [if_neg h2]
      have e2 : (k == 2) = false := by simpa using h2
      by_cases h3 : k = 3
      · subst h3
        rw [if_pos rfl]
        clear h1 e1 h2 e2
        go_enter Try.func20, Try.ntmps20
        go_wp2
        refine bodyPost_ret (v := (.tuple #[.agg #[.bool true, .int .i64 i], .bool true])) ?_ rfl ⟨rfl, (by repeat (first | exact HB0.out _ _ | (refine Below.setCell ?_ (by simp) _) | refine Below.drew ?_))⟩
        simp [results, Try.results20, go_sem]
      · rw [if_neg h3]
        have e3 : (k == 3) = false := by simpa using h3
        go_enter Try.func20, Try.ntmps20
        go_wp2
        refine bodyPost_ret (v := (.tuple #[.agg #[.bool false, .int .i64 0], .bool false])) ?_ rfl ⟨rfl, (by repeat (first | exact HB0.out _ _ | (refine Below.setCell ?_ (by simp) _) | refine Below.drew ?_))⟩
        simp [results, Try.results20, go_sem]
end Go.Proofs.Ytgjpkpmikbpcnaa
