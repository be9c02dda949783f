/-
  Behind the append of a job to a copy's jobs, and the store of the new row into the copy's box.
-/
import Derived.Test.YtgjpkpmikbpcnaaMorP
import Derived.Test.YtgjpkpmikbpcnaaSort
namespace Go.Proofs.Ytgjpkpmikbpcnaa
open Go.RowKit

theorem more_leaf {W0 w3 W WX w9 : World} {B base gv gj gs dd g cap A1 A2 A3 lj H : Nat} {pr : Int} {p : Prb} {x : PrbS} {R : List (List Value)} (hF : CpF w3 base gv gj gs p x) (hlj : p.js.length = lj)
    (h2 : R.length = p.js.length) (h5 : ∀ (k : Nat) a, p.js[k]? = some a → ∃ l, R[k]? = some l ∧ l.length = 7 ∧ (∀ u ∈ l, u.oneCell' = true) ∧ OJob w3 base (G3 gv gj gs) l a)
    (hB : Below B W0 W) (hBb : B ≤ base) (hBq : B ≤ w3.heap.size) (hW3 : Below w3.heap.size w3 W) (hWq : w3.heap.size < W.heap.size) (hq : W.heap[w3.heap.size]? = some (.cells (prbE p x) 29 (0, 0))) (hX : Below W.heap.size W WX)
    (a1 : W.heap.size ≤ A1) (a2 : W.heap.size ≤ A2) (a3 : W.heap.size ≤ A3) (e1 : WX.heap[A1]? = some (.cells #[.int .i64 0, .int .i64 9] 61 (0, 0))) (e2 : WX.heap[A2]? = some (.cells (Array.replicate dd (.int .i64 0)) 3 (0, 0))) (e3 : WX.heap[A3]? = some (.cells (Array.replicate dd (.int .i64 0)) 3 (0, 0)))
    (hown : w9.ownsRow base 67 7 (.slice (some ⟨g, 0, none⟩) (lj + 1) cap) (lj + 1) (R.flatten ++ jobE (newJ dd pr) (.slice (some ⟨A1, 0, none⟩) 1 1) (.slice (some ⟨A2, 0, none⟩) dd dd) (.slice (some ⟨A3, 0, none⟩) dd dd)))
    (hg : WX.grownBy w9 (some gj)) (hat : some gj = some g ∨ g = H) (hH : W.heap.size ≤ H) (hdd : dd ≤ 3) (hl : lj ≤ 12) :
    PrbV (w9.setCell ⟨w3.heap.size, 6, none⟩ (.slice (some ⟨g, 0, none⟩) (lj + 1) cap)) ⟨x.t, x.d, x.v, .slice (some ⟨g, 0, none⟩) (lj + 1) cap, x.s⟩ (moreP p dd pr) ∧ BoxP (w9.setCell ⟨w3.heap.size, 6, none⟩ (.slice (some ⟨g, 0, none⟩) (lj + 1) cap)) w3.heap.size (moreP p dd pr) ⟨x.t, x.d, x.v, .slice (some ⟨g, 0, none⟩) (lj + 1) cap, x.s⟩ ∧ Below B W0 (w9.setCell ⟨w3.heap.size, 6, none⟩ (.slice (some ⟨g, 0, none⟩) (lj + 1) cap)) := by
  subst hlj
  have hjl : gj < w3.heap.size ∧ base ≤ gj := by
    obtain ⟨R', r, _⟩ := hF.j
    exact ⟨(r.lt _ hF.ej).2, (r.lt _ hF.ej).1⟩
  have lt : ∀ {A : Nat} {o : Obj}, WX.heap[A]? = some o → A < WX.heap.size := fun h => (Array.getElem?_eq_some_iff.1 h).1
  have ne9 : ∀ {A : Nat} {o : Obj}, W.heap.size ≤ A → WX.heap[A]? = some o → (w9.setCell ⟨w3.heap.size, 6, none⟩ (.slice (some ⟨g, 0, none⟩) (p.js.length + 1) cap)).heap[A]? = some o := fun {A o} hA h => by
    rw [heap_setCell_other _ _ _ _ (by simp only; omega), hg.block A (lt h) (by simp; omega)]; exact h
  have hq9 : w9.heap[w3.heap.size]? = some (.cells (prbE p x) 29 (0, 0)) := by
    rw [hg.block _ (by have := hX.size; omega) (by simp; omega), hX.block _ hWq]; exact hq
  refine ⟨?_, fun j hj => ?_, ?_⟩
  · refine more_close hF (fun b hb hne => ?_) h2 h5 ?_ (ne9 a1 e1) (ne9 a2 e2) (ne9 a3 e3) hdd hl
    · rw [heap_setCell_other _ _ _ _ (by simp only; omega), hg.block b (by have := hX.size; omega) (by simpa using hne), hX.block b (by omega), hW3.block b hb]
    · refine own_of_block hown fun b hb => heap_setCell_other _ _ _ _ ?_
      cases hb
      simp only
      rcases hat with e | e
      · injection e with e; omega
      · omega
  · rw [cell_of_row _ _ _ _ _ _ (heap_setCell_same _ _ _ _ _ _ hq9)]
    have hj' : j = 0 ∨ j = 1 ∨ j = 2 ∨ j = 3 ∨ j = 4 ∨ j = 5 ∨ j = 6 ∨ j = 7 := by omega
    rcases hj' with rfl | rfl | rfl | rfl | rfl | rfl | rfl | rfl <;> rfl
  · refine Below.setCell ?_ (by simpa using hBq) _
    have hs := hX.size
    have hs2 := hB.size
    exact (hB.trans (hX.mono (by omega))).grown hg (by omega) fun q hq => by cases hq; omega
end Go.Proofs.Ytgjpkpmikbpcnaa
