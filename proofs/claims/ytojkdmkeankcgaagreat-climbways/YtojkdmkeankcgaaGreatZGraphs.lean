/-
  What the law RoadGraphs does.
-/
import Derived.Test.YtojkdmkeankcgaaGreatZSame
namespace Go.Proofs.YtojkdmkeankcgaaGreat
open Go.RowKit Go.Sort

/-- A road that was handed in: its box, and its arcs. -/
structure RIn (B : Nat) (w : World) (n : Int) (a : Option Addr) (m c : Nat) (A : List Arc) (wr : World) : Prop where
  below : Below B w wr
  b0 : wr.heap[B]? = some (.cells #[.int .i64 n, .slice a m c] 24 (0, 0))
  arcs : ArcsAt wr a m A
section
variable {B m c : Nat} {w wr w' : World} {n : Int} {a : Option Addr} {A : List Arc}
theorem RIn.lt (h : RIn B w n a m c A wr) : B < wr.heap.size := by
  rcases Nat.lt_or_ge B wr.heap.size with h' | h'
  · exact h'
  · have := h.b0; rw [Array.getElem?_eq_none h'] at this; cases this
theorem RIn.later (h : RIn B w n a m c A wr) (f : Below wr.heap.size wr w') : RIn B w n a m c A w' := ⟨h.below.trans (f.mono (Nat.le_of_lt h.lt)), (f.block B h.lt).trans h.b0, h.arcs.later (Nat.le_refl _) f⟩
theorem RIn.c0 (h : RIn B w n a m c A wr) : wr.cell? ⟨B, 0, none⟩ = some (.int .i64 n) := by rw [cell_of_row _ B 0 _ _ _ h.b0]; rfl
theorem RIn.c1 (h : RIn B w n a m c A wr) : wr.cell? ⟨B, 1, none⟩ = some (.slice a m c) := by rw [cell_of_row _ B 1 _ _ _ h.b0]; rfl
end
theorem rin_start (w : World) (n : Int) (a : Option Addr) (m c : Nat) (A : List Arc) (h : ArcsAt w a m A) : RIn w.heap.size w n a m c A (w.alloc (.cells #[.int .i64 n, .slice a m c] 24)) :=
  ⟨(Below.refl _ _).alloc (Nat.le_refl _) _, heap_alloc_new _ _, h.later (Nat.le_refl _) ((Below.refl _ _).alloc (Nat.le_refl _) _)⟩
theorem mt_pos {n : Int} {A : List Arc} (he : (checkM n A).2 = 0) (d : Bool) : ∀ x ∈ A, 0 ≤ mtM d x ∧ mtM d x ≤ 1000000 := fun x hx => by
  have := of_decide_eq_true ((checkM_ok he).2.2 x hx).2
  cases d
  · show 0 ≤ x.2.2.1 ∧ x.2.2.1 ≤ 1000000; omega
  · show 0 ≤ x.2.2.2 ∧ x.2.2.2 ≤ 1000000; omega
theorem tab_pos {mt : Arc → Int} {A : List Arc} {k : Int} (h : ∀ x ∈ A, 0 ≤ mt x ∧ mt x ≤ k) (p q : Nat) (v : Int) (hv : tab (legsM mt A) p q = some v) : 0 ≤ v ∧ v ≤ k := by
  obtain ⟨⟨l, hl, _, _, h3⟩, _⟩ := tab_some.1 hv
  unfold legsM at hl
  rw [List.mem_map] at hl
  obtain ⟨y, hy, rfl⟩ := hl
  rw [← h3]
  exact h y (List.mem_filter.1 hy).1
theorem wt_far (n : Nat) (W : Nat → Nat → Option Int) : wt n W 0 n = -1 := by unfold wt; rw [if_neg (by omega)]
theorem rowZ_low (n : Nat) (W : Nat → Nat → Option Int) : rowZ n W (-1) = [] := by unfold rowZ; rw [if_neg (by omega)]
theorem rowZ_far (n : Nat) (W : Nat → Nat → Option Int) : rowZ n W n = [] := by unfold rowZ; rw [if_neg (by omega)]
theorem out_none {w : World} {g n : Nat} {W : Nat → Nat → Option Int} (h : GAt w g n W) (hn : 1 ≤ n ∧ n ≤ 32) (p : Int) (hp : rowZ n W p = []) :
    Calls Tryz.prog 58 #[.pointer (some ⟨g, 0, none⟩), .int .i64 p] w fun e w' => ∃ a c, e = .returned (.slice a 0 c) ∧ Below w.heap.size w w' := by
  refine (out_any h hn p).mono ?_
  rintro e w' ⟨v, rfl, h1, h2⟩
  rw [hp] at h1
  rcases h1.2 with ⟨e, e2⟩ | ⟨g, cap, cur, e, _⟩
  · exact ⟨none, 0, by rw [e], h2⟩
  · exact ⟨_, cap, by rw [e]; rfl, h2⟩
end Go.Proofs.YtojkdmkeankcgaaGreat
