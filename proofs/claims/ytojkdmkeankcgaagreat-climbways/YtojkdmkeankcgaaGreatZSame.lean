/-
  What the call of the statements' Same does: a graph and the table of its edges.
-/
import Derived.Test.YtojkdmkeankcgaaGreatZTable
import Derived.Test.YtojkdmkeankcgaaGreatOuts
namespace Go.Proofs.YtojkdmkeankcgaaGreat
open Go.RowKit Go.Sort

/-- So many of the first k places are led to from p. -/
def cntRow (W : Nat → Nat → Option Int) (p : Nat) : Nat → Nat
  | 0 => 0
  | k + 1 => cntRow W p k + (if (W p k).isSome then 1 else 0)
theorem cntRow_len (W : Nat → Nat → Option Int) (p : Nat) : ∀ n, (rowM n W p).length = cntRow W p n
  | 0 => rfl
  | n + 1 => by
    have := cntRow_len W p n
    unfold rowM at this ⊢
    rw [List.range_succ, List.filterMap_append, List.length_append, this, cntRow]
    congr 1
    cases h : W p n <;> simp [h]
theorem cntRow_le (W : Nat → Nat → Option Int) (p : Nat) : ∀ n, cntRow W p n ≤ n
  | 0 => Nat.le_refl _
  | n + 1 => by have := cntRow_le W p n; rw [cntRow]; split <;> omega
theorem cntRow_mono (W : Nat → Nat → Option Int) (p : Nat) : ∀ n k, k ≤ n → cntRow W p k ≤ cntRow W p n
  | 0, k, h => by have : k = 0 := by omega
                  subst this; exact Nat.le_refl _
  | n + 1, k, h => by
    by_cases e : k = n + 1
    · subst e; exact Nat.le_refl _
    · have := cntRow_mono W p n k (by omega); rw [cntRow]; omega
/-- Where the edge ahead leads. -/
def lastM (R : List (Int × Int)) : Nat → Int
  | 0 => -1
  | k + 1 => (R[k]!).1
theorem row_at {n p k : Nat} {W : Nat → Nat → Option Int} (hk : k < (rowM n W p).length) : ∃ q v, q < n ∧ W p q = some v ∧ (rowM n W p)[k]! = ((q : Int), v) ∧ lastM (rowM n W p) k < (q : Int) := by
  have hm : (rowM n W p)[k]! ∈ rowM n W p := by rw [getElem!_pos _ k hk]; exact List.getElem_mem _
  obtain ⟨q, v, h1, h2, h3⟩ := mem_rowM.1 hm
  refine ⟨q, v, h1, h2, h3, ?_⟩
  cases k with
  | zero => show (-1 : Int) < q; omega
  | succ k =>
    have := List.pairwise_iff_getElem.1 (rowM_rising n p W) k (k + 1) (by omega) hk (by omega)
    rw [getElem!_pos _ (k + 1) hk] at h3
    show ((rowM n W p)[k]!).1 < _
    rw [getElem!_pos _ k (by omega)]
    rw [h3] at this
    exact this
/-- t's box and its cells, while Same runs, and the graph. -/
structure SmIn (B : Nat) (w : World) (n : Nat) (tv : Value) (tg : Nat) (xs : List Int) (g : Nat) (W : Nat → Nat → Option Int) (wr : World) : Prop where
  below : Below B w wr
  b0 : wr.heap[B]? = some (.cells #[.int .i64 n, tv] 29 (0, 0))
  tab : ∀ k, k < xs.length → wr.cell? ⟨tg, k, none⟩ = some (.int .i64 xs[k]!)
  gr : GAt wr g n W
section
variable {B n tg g : Nat} {w wr w' : World} {tv : Value} {xs : List Int} {W : Nat → Nat → Option Int}
theorem SmIn.lt (h : SmIn B w n tv tg xs g W wr) : B < wr.heap.size := by
  rcases Nat.lt_or_ge B wr.heap.size with h' | h'
  · exact h'
  · have := h.b0; rw [Array.getElem?_eq_none h'] at this; cases this
theorem SmIn.later (h : SmIn B w n tv tg xs g W wr) (f : Below wr.heap.size wr w') : SmIn B w n tv tg xs g W w' :=
  ⟨h.below.trans (f.mono (Nat.le_of_lt h.lt)), (f.block B h.lt).trans h.b0, fun k hk => (f.cell (p := ⟨tg, k, none⟩) (block_lt_of_cell (h.tab k hk))).trans (h.tab k hk), h.gr.later f⟩
theorem SmIn.drewN (h : SmIn B w n tv tg xs g W wr) (q : Nat) : SmIn B w n tv tg xs g W (wr.drewN q) := h.later (Qu.below_drewN (Below.refl _ _) q)
theorem SmIn.drew (h : SmIn B w n tv tg xs g W wr) : SmIn B w n tv tg xs g W wr.drew := h.later (Below.refl _ _).drew
theorem SmIn.alloc (h : SmIn B w n tv tg xs g W wr) (o : Obj) : SmIn B w n tv tg xs g W (wr.alloc o) := h.later ((Below.refl _ _).alloc (Nat.le_refl _) o)
end
end Go.Proofs.YtojkdmkeankcgaaGreat
