/-
  What the law InnerPairs does.
-/
import Derived.Test.YtdnkmjafkpnliaaPrP
import Derived.Test.YtdnkmjafkpnliaaOwnL
import Derived.Deep.RegionHeld3
namespace Go.Proofs.Ytdnkmjafkpnliaa
open Go.RowKit

theorem two_app {wA w' : World} {base g' n c : Nat} {va vb : Value} {La Lb : List Vst} (ha : VRow wA base va La) (hb : VRow wA base vb Lb) (hs : ∀ g, va.ownBlock = some g → vb.ownBlock ≠ some g) (hg : wA.grownBy w' va.ownBlock) (hw : some g' = va.ownBlock ∨ g' = wA.heap.size) : VRow w' base vb Lb ∧ ∀ g, Value.ownBlock (.slice (some ⟨g', 0, none⟩) n c) = some g → vb.ownBlock ≠ some g := by
  have _ := ha
  refine ⟨own_of_block hb fun g h => hg.block g (World.ownsRow.lt hb g h).2 fun e => hs g e.symm h, fun g h => ?_⟩
  injection h with h
  subst h
  rcases hw with e | e
  · exact hs g' e.symm
  · intro h2
    have := (World.ownsRow.lt hb g' h2).2
    omega
theorem take_snoc9 {O : List Vst} {x : Nat} {u : Vst} (h : O[x]? = some u) : O.take (x + 1) = O.take x ++ [u] := by
  obtain ⟨hk, e⟩ := List.getElem?_eq_some_iff.1 h
  rw [List.take_succ_eq_append_getElem hk, e]
theorem vrow_vs {w : World} {base n c : Nat} {a : Option Addr} {L : List Vst} (h : VRow w base (.slice a n c) L) (hn : L.length = n) (hn2 : n ≤ 1000) : VsV w (.slice a n c) L := by
  have h9 := h.vs (by omega)
  exact h9
theorem box_two {w WB W2 : World} {x0 x1 y0 y1 : Value} (h : WB = (w.alloc (.cells #[x0, x1] 58)).alloc (.cells #[y0, y1] 58)) (hf : Below WB.heap.size WB W2) : (W2.cell? ⟨w.heap.size, 0, none⟩ = some x0 ∧ W2.cell? ⟨w.heap.size, 1, none⟩ = some x1) ∧ (W2.cell? ⟨w.heap.size + 1, 0, none⟩ = some y0 ∧ W2.cell? ⟨w.heap.size + 1, 1, none⟩ = some y1) := by
  have hs : WB.heap.size = w.heap.size + 2 := by rw [h]; simp
  have e0 : WB.heap[w.heap.size]? = some (.cells #[x0, x1] 58) := by rw [h, heap_alloc_old _ _ (by simp), heap_alloc_new]
  have e1 : WB.heap[w.heap.size + 1]? = some (.cells #[y0, y1] 58) := by
    rw [h]
    have h9 := heap_alloc_new (w.alloc (.cells #[x0, x1] 58)) (.cells #[y0, y1] 58)
    simp only [World.size_alloc] at h9
    exact h9
  have f0 := (hf.block _ (by omega)).trans e0
  have f1 := (hf.block _ (by omega)).trans e1
  exact ⟨⟨cell_of_row _ _ _ _ _ _ f0, cell_of_row _ _ _ _ _ _ f0⟩, cell_of_row _ _ _ _ _ _ f1, cell_of_row _ _ _ _ _ _ f1⟩
end Go.Proofs.Ytdnkmjafkpnliaa
