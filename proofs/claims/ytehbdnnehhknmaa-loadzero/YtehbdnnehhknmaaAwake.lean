/-
  What the statements' fixed fact does.
-/
import Derived.Test.YtehbdnnehhknmaaReads
import Derived.Test.YtehbdnnehhknmaaRef
namespace Go.Proofs.Ytehbdnnehhknmaa
open Go.RowKit

theorem lits2 (w : World) (x y : Int) : IntsAt (w.alloc (.cells #[.int .i64 x, .int .i64 y] 3)) (some ⟨w.heap.size, 0, none⟩) [x, y] := fun k hk => by
  refine ⟨_, _, rfl, ?_⟩
  rw [Nat.zero_add, cell_of_row _ w.heap.size k _ _ _ (heap_alloc_new _ _)]
  have : k = 0 ∨ k = 1 := by simp at hk; omega
  rcases this with rfl | rfl <;> rfl
theorem lits1 (w : World) (x : Int) : IntsAt (w.alloc (.cells #[.int .i64 x] 3)) (some ⟨w.heap.size, 0, none⟩) [x] := fun k hk => by
  refine ⟨_, _, rfl, ?_⟩
  rw [Nat.zero_add, cell_of_row _ w.heap.size k _ _ _ (heap_alloc_new _ _)]
  have : k = 0 := by simp at hk; omega
  subst this; rfl
theorem add_fix : eachM addF [1, 2] [3, 4] = ([4, 6], 0) := by decide
theorem under_fix : underB [1, 2] [1, 2] = true := underB_ok rfl fun _ _ => Int.le_refl _
theorem check_fix : checkE [1] 2 = 43 := checkE_ne (by decide)
theorem two_lits (w : World) (x y u v : Int) : IntsAt ((w.alloc (.cells #[.int .i64 x, .int .i64 y] 3)).alloc (.cells #[.int .i64 u, .int .i64 v] 3)) (some ⟨w.heap.size, 0, none⟩) [x, y] ∧ IntsAt ((w.alloc (.cells #[.int .i64 x, .int .i64 y] 3)).alloc (.cells #[.int .i64 u, .int .i64 v] 3)) (some ⟨w.heap.size + 1, 0, none⟩) [u, v] ∧ Below w.heap.size w ((w.alloc (.cells #[.int .i64 x, .int .i64 y] 3)).alloc (.cells #[.int .i64 u, .int .i64 v] 3)) := by
  refine ⟨(lits2 w x y).alloc _, ?_, ((Below.refl _ _).alloc (Nat.le_refl _) _).alloc (by simp) _⟩
  have := lits2 (w.alloc (.cells #[.int .i64 x, .int .i64 y] 3)) u v
  rwa [show (w.alloc (.cells #[.int .i64 x, .int .i64 y] 3)).heap.size = w.heap.size + 1 by simp] at this
set_option maxRecDepth 100000 in
set_option maxHeartbeats 1600000 in
theorem awake_any (w : World) : Calls Try.prog 7 #[] w fun e w' => e = .returned (.bool true) ∧ Below w.heap.size w w' := by
  obtain ⟨l1, l2, l3⟩ := two_lits w 1 2 3 4
  have HA := hide (add_any (ca := 2) (cb := 2) l1 l2 rfl rfl (by decide) (by decide))
  rw [add_fix] at HA
  have HL := hide l3
  have HU : Hid (∀ w', Calls Try.prog 18 #[.slice (some ⟨w'.heap.size, 0, none⟩) 2 2, .slice (some ⟨w'.heap.size + 1, 0, none⟩) 2 2] ((w'.alloc (.cells #[.int .i64 1, .int .i64 2] 3)).alloc (.cells #[.int .i64 1, .int .i64 2] 3)) fun e w'' => e = .returned (.bool true) ∧ Below w'.heap.size w' w'') := fun w' => by
    obtain ⟨m1, m2, m3⟩ := two_lits w' 1 2 1 2
    refine (under_any (ca := 2) (cb := 2) m1 m2 rfl rfl (by decide) (by decide)).mono ?_
    rintro e w'' ⟨rfl, h⟩
    exact ⟨by rw [under_fix], m3.trans (h.mono m3.size)⟩
  have HC : Hid (∀ w', Calls Try.prog 16 #[.slice (some ⟨w'.heap.size, 0, none⟩) 1 1, .int .i64 2] (w'.alloc (.cells #[.int .i64 1] 3)) fun e w'' => e = .returned (.int .i64 43) ∧ Below w'.heap.size w' w'') := fun w' => by
    refine (check_any (ca := 1) 2 (lits1 w' 1) rfl (by decide)).mono ?_
    rintro e w'' ⟨rfl, rfl⟩
    exact ⟨by rw [check_fix], (Below.refl _ _).alloc (Nat.le_refl _) _⟩
  clear l1 l2 l3
  go_enter Try.func7, Try.ntmps7
  go_wp2_with (first
    | (go_at_call 8; refine HA.out.mono ?_; rintro e w1 ⟨a1, c1, rfl, h1, h2⟩; obtain ⟨b1, o1, rfl, k1⟩ := h1.ints 1 (by decide); have H2 := hide (HL.out.trans (h2.mono HL.out.size)); clear h1 h2 HA)
    | (go_at_call 18; refine (HU.out w1).mono ?_; rintro e w2 ⟨rfl, h1⟩; have H3 := hide (H2.out.trans (h1.mono H2.out.size)); clear h1)
    | (go_at_call 16; refine (HC.out w2).mono ?_; rintro e w3 ⟨rfl, h1⟩; have H4 := hide (H3.out.trans (h1.mono H3.out.size)); clear h1))
  go_ret
  exact ⟨rfl, H4.out⟩
end Go.Proofs.Ytehbdnnehhknmaa
