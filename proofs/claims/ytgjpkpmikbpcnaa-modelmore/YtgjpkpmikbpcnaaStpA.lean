/-
  Stop and its own Stop of any visit, as one contract each.
-/
import Derived.Test.YtgjpkpmikbpcnaaStpM
namespace Go.Proofs.Ytgjpkpmikbpcnaa
open Go.RowKit

/-- Where a visit is; nowhere, if there is no such visit of a task. -/
def stpM (p : Prb) (k i : Int) : Stp := if thereV p k i = true then (if k = 1 then (p.js.getD i.toNat jz).stop else if k = 2 then (p.ss.getD i.toNat hz).pick else (p.ss.getD i.toNat hz).deli) else sz
theorem stpM_no {p : Prb} {k i : Int} (h : thereV p k i = false) : stpM p k i = sz := by unfold stpM; rw [h]; rfl
theorem ofM_cases (k i : Int) : (k = 1 ∧ ofM k i = ((false, i), true)) ∨ (k = 2 ∧ ofM k i = ((true, i), true)) ∨ (k = 3 ∧ ofM k i = ((true, i), true)) ∨ (k ≠ 1 ∧ k ≠ 2 ∧ k ≠ 3 ∧ ofM k i = ((false, 0), false)) := by
  unfold ofM
  by_cases h1 : k = 1
  · exact .inl ⟨h1, by rw [if_pos h1]⟩
  · by_cases h2 : k = 2
    · exact .inr (.inl ⟨h2, by rw [if_neg h1, if_pos h2]⟩)
    · by_cases h3 : k = 3
      · exact .inr (.inr (.inl ⟨h3, by rw [if_neg h1, if_neg h2, if_pos h3]⟩))
      · exact .inr (.inr (.inr ⟨h1, h2, h3, by rw [if_neg h1, if_neg h2, if_neg h3]⟩))
theorem thereV_cases {p : Prb} {k i : Int} (h : thereV p k i = true) : (k = 1 ∧ ∃ j : Nat, i = j ∧ j < p.js.length ∧ stpM p k i = (p.js.getD j jz).stop) ∨ (k = 2 ∧ ∃ j : Nat, i = j ∧ j < p.ss.length ∧ stpM p k i = (p.ss.getD j hz).pick) ∨ (k = 3 ∧ ∃ j : Nat, i = j ∧ j < p.ss.length ∧ stpM p k i = (p.ss.getD j hz).deli) := by
  have h0 := h
  unfold thereV at h0
  rcases ofM_cases k i with ⟨rfl, e⟩ | ⟨rfl, e⟩ | ⟨rfl, e⟩ | ⟨_, _, _, e⟩ <;> rw [e] at h0 <;> simp at h0
  · obtain ⟨j, rfl, hj⟩ := there_job h0
    exact .inl ⟨rfl, j, rfl, hj, by unfold stpM; rw [h]; simp⟩
  · obtain ⟨j, rfl, hj⟩ := there_ship h0
    exact .inr (.inl ⟨rfl, j, rfl, hj, by unfold stpM; rw [h]; simp⟩)
  · obtain ⟨j, rfl, hj⟩ := there_ship h0
    exact .inr (.inr ⟨rfl, j, rfl, hj, by unfold stpM; rw [h]; simp⟩)
theorem rstopV_any {w : World} {x : PrbS} {p : Prb} (h : PrbV w x p) (k i : Int) : Calls Try.prog 22 #[.agg (prbE p x), .agg #[.int .i64 k, .int .i64 i]] w fun e w' => ∃ y, e = .returned (.tuple #[.agg #[.int .i64 (stpM p k i).place, .int .i64 (stpM p k i).serv, y], .bool (thereV p k i)]) ∧ WinsV w' y (stpM p k i).wins ∧ Below w.heap.size w w' := by
  cases ht : thereV p k i with
  | false =>
    rw [stpM_no ht]
    refine (rstop18_no h k i ht).mono ?_
    rintro e w' ⟨rfl, hb⟩
    exact ⟨_, rfl, ⟨none, 0, rfl, fun _ => rfl, rfl, by decide, fun k hk => by simp [sz] at hk⟩, hb⟩
  | true =>
    rcases thereV_cases ht with ⟨rfl, j, rfl, hj, e⟩ | ⟨rfl, j, rfl, hj, e⟩ | ⟨rfl, j, rfl, hj, e⟩ <;> rw [e]
    · exact rstop18_job h hj
    · exact rstop18_pick h hj
    · exact rstop18_deli h hj
theorem stopV_any {w : World} {x : PrbS} {p : Prb} (h : PrbV w x p) (k i : Int) : Calls Try.prog 21 #[.agg (prbE p x), .agg #[.int .i64 k, .int .i64 i]] w fun e w' => ∃ y, e = .returned (.tuple #[.agg #[.int .i64 (stpM p k i).place, .int .i64 (stpM p k i).serv, y], .bool (thereV p k i)]) ∧ w'.ownsRow w.heap.size 61 2 y (stpM p k i).wins.length (flatW (stpM p k i).wins) ∧ Below w.heap.size w w' := by
  cases ht : thereV p k i with
  | false =>
    rw [stpM_no ht]
    refine (stop17_no h k i ht).mono ?_
    rintro e w' ⟨rfl, hb⟩
    exact ⟨_, rfl, World.ownsRow_nil _ _ _ _, hb⟩
  | true =>
    rcases thereV_cases ht with ⟨rfl, j, rfl, hj, e⟩ | ⟨rfl, j, rfl, hj, e⟩ | ⟨rfl, j, rfl, hj, e⟩ <;> rw [e]
    · exact stop17_job h hj
    · exact stop17_pick h hj
    · exact stop17_deli h hj
end Go.Proofs.Ytgjpkpmikbpcnaa
