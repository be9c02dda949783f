/-
  What the law ShortNil does.
-/
import Derived.Test.YtkgpjhechopfhaaAwakeS
import Derived.Test.YtkgpjhechopfhaaAll
namespace Go.Proofs.Ytkgpjhechopfhaa
open Go.RowKit Go.Sort

theorem weigh_nil (p : Int) (b : Nat) (w : World) (h : w.cell? ⟨b, 0, none⟩ = some (.int .i64 p)) : Calls Try.prog 38 #[.pointer none, .slice (some ⟨b, 0, none⟩) 1 1] w fun e w' => e = .returned (.int .i64 (-1)) ∧ w' = w := by
  have HP := hide (isplace_nil p w)
  go_enter Try.func38, Try.ntmps38
  go_wp2_with (go_at_call 46; refine HP.out.mono ?_; rintro e w' ⟨rfl, hw⟩; rw [hw]; clear hw)
  go_ret
  exact ⟨rfl, rfl⟩
set_option maxRecDepth 100000 in
set_option maxHeartbeats 3200000 in
theorem nil_any (p q : Int) (w : World) : Calls Try.prog 12 #[.int .i64 p, .int .i64 q] w fun e w' => e = .returned (.bool true) ∧ Below w.heap.size w w' := by
  go_enter Try.func12, Try.ntmps12
  go_wp2_with (first
    | (go_at_call 30; refine (awakeS_any _).mono ?_; rintro e w1 ⟨rfl, h1⟩; have H1 := hide h1; clear h1)
    | (go_at_call 32; refine (from_nil _ _).mono ?_; rintro e w' ⟨rfl, hw⟩; rw [hw]; clear hw)
    | (go_at_call 36; refine (way_nil _ _ _).mono ?_; rintro e w' ⟨rfl, hw⟩; rw [hw]; clear hw)
    | (go_at_call 35; refine (all_nil _).mono ?_; rintro e w3 ⟨rfl, h3⟩; have H3 : Hid (Below w.heap.size w w3) := H1.out.trans (h3.mono H1.out.size); clear h3)
    | (go_at_call 38; refine (weigh_nil p _ _ (by go_simp)).mono ?_; rintro e w' ⟨rfl, hw⟩; rw [hw]; clear hw))
  go_ret
  exact ⟨rfl, (H3.out.alloc H3.out.size _).alloc (by have := H3.out.size; simp; omega) _⟩
end Go.Proofs.Ytkgpjhechopfhaa
