/-
  What the call of Awake does.
-/
import Derived.Test.YtgjpkpmikbpcnaaLine
import Derived.Test.YtgjpkpmikbpcnaaTsk
import Derived.Test.YtgjpkpmikbpcnaaCel
namespace Go.Proofs.Ytgjpkpmikbpcnaa
open Go.RowKit

theorem line_check : checkM lineP = 0 := by decide +kernel
theorem line_tasks : tasksM lineP = [(false, 1), (false, 0)] := by decide +kernel
theorem line_cell : cellM lineM 0 2 = -1 := by decide +kernel
theorem line_few : lineP.js.length + lineP.ss.length ≤ 12 := by decide
theorem line_sq : SqM lineM := ⟨by decide, by decide, by decide⟩
/-- The first of two tasks in a row. -/
theorem trow_two {w : World} {base : Nat} {v : Value} (h : TRow w base v [(false, 1), (false, 0)]) : ∃ g c, v = .slice (some ⟨g, 0, none⟩) 2 c ∧ w.cell? ⟨g, 1, none⟩ = some (.int .i64 1) ∧ g < w.heap.size := by
  rcases h.2 with ⟨e, e2⟩ | ⟨g, c, cur, e, _⟩
  · simp at e2
  · subst e
    exact ⟨g, c, rfl, own_cell h 1 _ rfl, (World.ownsRow.lt h g rfl).2⟩
set_option maxRecDepth 100000 in
set_option maxHeartbeats 1600000 in
theorem awake_any (w : World) : Calls Try.prog 15 #[] w fun e w' => e = .returned (.bool true) ∧ Below w.heap.size w w' := by
  have HA : Hid (∀ (v : World) (o : Obj), Below v.heap.size v (v.alloc o)) := fun v o => (Below.refl _ _).alloc (Nat.le_refl _) o
  go_enter Try.func15, Try.ntmps15
  go_wp2_with (first
    | (go_at_call 51; refine (cell_any (m := lineM) (P3.out).t line_sq 0 2).mono ?_; rintro e w4 ⟨rfl, k4⟩; rw [line_cell]; have B4 := hide (below_on B3.out k4); clear k4)
    | (go_at_call 34; refine (check_any (P2.out)).mono ?_; rintro e w3 ⟨rfl, k3⟩; rw [line_check]; have B3 := hide (below_on B2.out k3); have P3 := hide (P2.out.on k3); obtain ⟨hc3, hf3⟩ := bcell (below_on C2.out k3); have l1 := (bcell k3).1 g 1 hg; rw [lc] at l1; clear k3)
    | (go_at_call 24; refine (tasks_any (P1.out.on (HA.out _ _)) line_few).mono ?_; rintro e w2 ⟨v, rfl, k2, k3⟩; rw [line_tasks] at k2; obtain ⟨g, c, hv, lc, hg⟩ := trow_two k2; rw [hv]; have C2 := hide k3; have B2 := hide (below_on (below_on B1.out (HA.out _ _)) k3); have P2 := hide (P1.out.on (below_on (HA.out _ _) k3)); obtain ⟨hc2, hf2⟩ := bcell k3; clear k2 k3 hv)
    | (go_at_call 50; refine (line_any _).mono ?_; rintro e w1 ⟨x, rfl, k1, k2⟩; obtain ⟨ta, tc, da, dc, va, vc, ja, jc, sa, sc, hx⟩ := k1.open; rw [hx] at k1 ⊢; have P1 := hide k1; have B1 := hide k2; clear k1 k2 hx; simp only [prbE]))
  go_ret
  exact ⟨rfl, B4.out⟩
end Go.Proofs.Ytgjpkpmikbpcnaa
