/-
  What the metrics and the fixed fact of the laws (Awake) do.
-/
import Derived.Test.YtojkdmkeankcgaaGreatNew
import Derived.Test.YtojkdmkeankcgaaGreatReads
namespace Go.Proofs.YtojkdmkeankcgaaGreat
open Go.RowKit Go.Sort

def timeM (a : Arc) : Int := a.2.2.1
def distM (a : Arc) : Int := a.2.2.2
theorem time_any (A : List Arc) : Metric 24 timeM A := by
  rintro ⟨x1, x2, x3, x4⟩ _ w
  show Calls Tryz.prog 24 #[.agg #[.int .i64 x1, .int .i64 x2, .int .i64 x3, .int .i64 x4]] w fun e w' => e = .returned (.int .i64 x3) ∧ w' = w.alloc (.cells #[.int .i64 x1, .int .i64 x2, .int .i64 x3, .int .i64 x4] 54)
  go_enter Tryz.func24, Tryz.ntmps24
  go_wp2
  go_ret
  exact ⟨rfl, rfl⟩
theorem dist_any (A : List Arc) : Metric 25 distM A := by
  rintro ⟨x1, x2, x3, x4⟩ _ w
  show Calls Tryz.prog 25 #[.agg #[.int .i64 x1, .int .i64 x2, .int .i64 x3, .int .i64 x4]] w fun e w' => e = .returned (.int .i64 x4) ∧ w' = w.alloc (.cells #[.int .i64 x1, .int .i64 x2, .int .i64 x3, .int .i64 x4] 54)
  go_enter Tryz.func25, Tryz.ntmps25
  go_wp2
  go_ret
  exact ⟨rfl, rfl⟩
theorem enters22 (args : Array Value) (w : World) : (callFunc 24 args).run Tryz.prog w = .ok (.enter 24 args) w := enters_of Tryz.func24 (by kernel_rfl) rfl args w
theorem enters26 (args : Array Value) (w : World) : (callFunc 25 args).run Tryz.prog w = .ok (.enter 25 args) w := enters_of Tryz.func25 (by kernel_rfl) rfl args w
/-- Time, or Dist. -/
def mtM (d : Bool) : Arc → Int := if d then distM else timeM
def mtF (d : Bool) : FuncId := if d then 25 else 24
theorem mt_any (d : Bool) (A : List Arc) : Metric (mtF d) (mtM d) A := by cases d; exact time_any A; exact dist_any A
theorem mt_enters (d : Bool) (args : Array Value) (w : World) : (callFunc (mtF d) args).run Tryz.prog w = .ok (.enter (mtF d) args) w := by cases d; exact enters22 args w; exact enters26 args w
def exA : List Arc := [(0, 1, 5, 9), (0, 1, 4, 12), (1, 1, 1, 0), (1, 2, 0, 0)]
theorem ex_check : (checkM ((3 : Nat) : Int) exA).2 = 0 := by decide
theorem ex_len : sumLen 3 (tab (legsM timeM exA)) 3 = 2 := by decide
theorem ex_w : wt 3 (tab (legsM timeM exA)) 0 1 = 4 ∧ wt 3 (tab (legsM timeM exA)) 1 1 = -1 ∧ wt 3 (tab (legsM timeM exA)) 1 2 = 0 := by decide
theorem ex_at (w : World) : ArcsAt (w.alloc (.cells #[.int .i64 0, .int .i64 1, .int .i64 5, .int .i64 9, .int .i64 0, .int .i64 1, .int .i64 4, .int .i64 12, .int .i64 1, .int .i64 1, .int .i64 1, .int .i64 0, .int .i64 1, .int .i64 2, .int .i64 0, .int .i64 0] 54)) (some ⟨w.heap.size, 0, none⟩) 4 exA := by
  refine ⟨rfl, by omega, fun k hk => ⟨w.heap.size, 0, rfl, ?_⟩⟩
  have h := heap_alloc_new w (.cells #[.int .i64 0, .int .i64 1, .int .i64 5, .int .i64 9, .int .i64 0, .int .i64 1, .int .i64 4, .int .i64 12, .int .i64 1, .int .i64 1, .int .i64 1, .int .i64 0, .int .i64 1, .int .i64 2, .int .i64 0, .int .i64 0] 54)
  have hk4 : k = 0 ∨ k = 1 ∨ k = 2 ∨ k = 3 := by omega
  rcases hk4 with rfl | rfl | rfl | rfl <;> exact ⟨by rw [cell_of_row _ _ _ _ _ _ h]; rfl, by rw [cell_of_row _ _ _ _ _ _ h]; rfl, by rw [cell_of_row _ _ _ _ _ _ h]; rfl, by rw [cell_of_row _ _ _ _ _ _ h]; rfl⟩
theorem ex_new (w : World) : Calls Tryz.prog 26 #[.agg #[.int .i64 3, .slice (some ⟨w.heap.size, 0, none⟩) 4 4], .func (.func 24) #[] #[]] (w.alloc (.cells #[.int .i64 0, .int .i64 1, .int .i64 5, .int .i64 9, .int .i64 0, .int .i64 1, .int .i64 4, .int .i64 12, .int .i64 1, .int .i64 1, .int .i64 1, .int .i64 0, .int .i64 1, .int .i64 2, .int .i64 0, .int .i64 0] 54))
    fun e w' => ∃ g, e = .returned (.tuple #[.pointer (some ⟨g, 0, none⟩), .int .i64 0]) ∧ GAt w' g 3 (tab (legsM timeM exA)) ∧ Below w.heap.size w w' := by
  have h := new_good 3 _ 4 4 exA 24 timeM _ (ex_at w) ex_check (time_any _) enters22
  refine Calls.mono h ?_
  rintro e w' ⟨g, rfl, h1, h2, _⟩
  exact ⟨g, rfl, h1, ((Below.refl w.heap.size w).alloc (Nat.le_refl _) _).trans (h2.mono (by simp))⟩
theorem ex_01 {w : World} {g : Nat} (h : GAt w g 3 (tab (legsM timeM exA))) : Calls Tryz.prog 55 #[.pointer (some ⟨g, 0, none⟩), .int .i64 0, .int .i64 1] w fun e w' => e = .returned (.int .i64 4) ∧ Below w.heap.size w w' := by
  have := weight_any h (by omega) 0 1
  rw [ex_w.1] at this
  exact this
theorem ex_11 {w : World} {g : Nat} (h : GAt w g 3 (tab (legsM timeM exA))) : Calls Tryz.prog 55 #[.pointer (some ⟨g, 0, none⟩), .int .i64 1, .int .i64 1] w fun e w' => e = .returned (.int .i64 (-1)) ∧ Below w.heap.size w w' := by
  have := weight_any h (by omega) 1 1
  rw [ex_w.2.1] at this
  exact this
theorem ex_12 {w : World} {g : Nat} (h : GAt w g 3 (tab (legsM timeM exA))) : Calls Tryz.prog 55 #[.pointer (some ⟨g, 0, none⟩), .int .i64 1, .int .i64 2] w fun e w' => e = .returned (.int .i64 0) ∧ Below w.heap.size w w' := by
  have := weight_any h (by omega) 1 2
  rw [ex_w.2.2] at this
  exact this
theorem ex_two {w : World} {g : Nat} (h : GAt w g 3 (tab (legsM timeM exA))) : Calls Tryz.prog 54 #[.pointer (some ⟨g, 0, none⟩)] w fun e w' => e = .returned (.int .i64 2) ∧ w' = w := by
  have := len_any h (by omega)
  rw [ex_len] at this
  exact this
set_option maxRecDepth 100000 in
set_option maxHeartbeats 1600000 in
theorem awake_any (w : World) : Calls Tryz.prog 23 #[] w fun e w' => e = .returned (.bool true) ∧ Below w.heap.size w w' := by
  have HN := hide (ex_new w)
  go_enter Tryz.func23, Tryz.ntmps23
  go_wp2_with (first | (go_at_call 26; refine HN.out.mono ?_; rintro e w1 ⟨g, rfl, h1, h2⟩; have H1 := hide (And.intro h1 h2); clear h1 h2) | (go_at_call 54; refine (ex_two H1.out.1).mono ?_; rintro e w2 ⟨rfl, rfl⟩) | (go_at_call 55; refine (ex_12 H4.out.1).mono ?_; rintro e w5 ⟨rfl, h5⟩; have H5 : Hid (Below w.heap.size w w5) := H4.out.2.trans (h5.mono H4.out.2.size); clear h5) | (go_at_call 55; refine (ex_11 H3.out.1).mono ?_; rintro e w4 ⟨rfl, h4⟩; have H4 := hide (And.intro (H3.out.1.later h4) (H3.out.2.trans (h4.mono H3.out.2.size))); clear h4) | (go_at_call 55; refine (ex_01 H1.out.1).mono ?_; rintro e w3 ⟨rfl, h3⟩; have H3 := hide (And.intro (H1.out.1.later h3) (H1.out.2.trans (h3.mono H1.out.2.size))); clear h3))
  go_ret
  exact ⟨rfl, H5.out⟩
end Go.Proofs.YtojkdmkeankcgaaGreat
