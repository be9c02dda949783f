/-
  What the law ClimbNil does.
-/
import Derived.Test.YtojkdmkeankcgaaGreatZAwake8
namespace Go.Proofs.YtojkdmkeankcgaaGreat
open Go.RowKit Go.Sort

set_option maxRecDepth 100000 in
set_option maxHeartbeats 6400000 in
theorem nil8_any (p q : Int) (w : World) : Calls Tryz.prog 7 #[.int .i64 p, .int .i64 q] w fun e w' => e = .returned (.bool true) ∧ Below w.heap.size w w' := by
  go_enter Tryz.func7, Tryz.ntmps7
  go_wp2_with (first
    | (go_at_call 9; refine (awake8_any _).mono ?_; rintro e w1 ⟨rfl, h1⟩; have H1 := hide h1; clear h1)
    | (go_at_call 17; refine (reach_up_nil p _).mono ?_; rintro e w2 ⟨vp, vm, rfl, h1, h2, h3⟩; obtain ⟨pa, pc, rfl⟩ := h1.shape; obtain ⟨ma, mc, rfl⟩ := h2.shape; have H2 := hide (H1.out.trans (h3.mono H1.out.size)); clear h1 h2 h3)
    | (go_at_call 15; refine (wayC_nil p q _).mono ?_; rintro e w3 ⟨rfl, h3⟩; have H3 := hide (H2.out.trans (h3.mono H2.out.size)); clear h3)
    | (go_at_call 13; refine (table8_nil _).mono ?_; rintro e w4 ⟨⟨ta, rfl⟩, h4⟩; have H4 := hide (H3.out.trans (h4.mono H3.out.size)); clear h4)
    | (go_at_call 14; refine (cdist_nil p q _).mono ?_; rintro e w5 ⟨rfl, h5⟩; have x0 := h5.block w4.heap.size (by simp); have x1 := heap_alloc_new w4 (.cells #[.int .i64 0, .slice ta 0 0] 29); have x2 := cell_of_row _ w4.heap.size 0 _ _ _ (x0.trans x1); have x3 := cell_of_row _ w4.heap.size 1 _ _ _ (x0.trans x1); simp only [List.getElem?_toArray, List.getElem?_cons_succ, List.getElem?_cons_zero] at x2 x3; have H5 := hide ((H4.out.alloc H4.out.size _).trans (h5.mono (Nat.le_trans H4.out.size (by simp)))); clear h5 x0 x1))
  go_ret
  exact ⟨rfl, H5.out⟩
end Go.Proofs.YtojkdmkeankcgaaGreat
