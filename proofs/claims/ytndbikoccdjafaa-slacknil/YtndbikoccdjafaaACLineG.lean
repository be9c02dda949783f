/-
  Several texts in one: CLine CFitE Sk1.
-/
import Derived.Deep.RegionHeld3
import Derived.BigRegion
import Derived.Test.YtndbikoccdjafaaACSmallG
import Derived.Test.YtndbikoccdjafaaACHCallG
import Derived.Test.YtndbikoccdjafaaACCarG
namespace Go.Proofs.Ytndbikoccdjafaa
open Go.RowKit
def lineW : List Win := [(0, 1000000)]
def lineM : Mat := ⟨2, [0, 10, 10, 0]⟩
def lineP : Prb := ⟨0, lineM, lineM, [⟨0, 0, [], 0, (0, 1000000), 0, 1, 0, 12, []⟩], [⟨⟨1, 5, lineW⟩, [], [], 0, 1⟩, ⟨⟨1, 0, lineW⟩, [], [], 0, 5⟩], []⟩
theorem cell_same {w w' : World} {b o : Nat} {v : Value} (h : w'.heap[b]? = w.heap[b]?) (k : w.cell? ⟨b, o, none⟩ = some v) : w'.cell? ⟨b, o, none⟩ = some v := by
  rw [← k]
  simp only [World.cell?, h]
theorem put8 {W : World} {b : Nat} {c0 c1 c2 c3 c4 c5 c6 c7 : Value} (v0 v1 v2 v3 v4 v5 v6 v7 : Value) (h : W.heap[b]? = some (.cells #[c0, c1, c2, c3, c4, c5, c6, c7] 29 (0, 0))) :
    ((((((((W.setCell ⟨b, 0, none⟩ (v0)).setCell ⟨b, 1, none⟩ (v1)).setCell ⟨b, 2, none⟩ (v2)).setCell ⟨b, 3, none⟩ (v3)).setCell ⟨b, 4, none⟩ (v4)).setCell ⟨b, 5, none⟩ (v5)).setCell ⟨b, 6, none⟩ (v6)).setCell ⟨b, 7, none⟩ (v7)).heap[b]? = some (.cells #[v0, v1, v2, v3, v4, v5, v6, v7] 29 (0, 0)) ∧ ((((((((W.setCell ⟨b, 0, none⟩ (v0)).setCell ⟨b, 1, none⟩ (v1)).setCell ⟨b, 2, none⟩ (v2)).setCell ⟨b, 3, none⟩ (v3)).setCell ⟨b, 4, none⟩ (v4)).setCell ⟨b, 5, none⟩ (v5)).setCell ⟨b, 6, none⟩ (v6)).setCell ⟨b, 7, none⟩ (v7)).heap.size = W.heap.size ∧ ∀ k, k ≠ b → ((((((((W.setCell ⟨b, 0, none⟩ (v0)).setCell ⟨b, 1, none⟩ (v1)).setCell ⟨b, 2, none⟩ (v2)).setCell ⟨b, 3, none⟩ (v3)).setCell ⟨b, 4, none⟩ (v4)).setCell ⟨b, 5, none⟩ (v5)).setCell ⟨b, 6, none⟩ (v6)).setCell ⟨b, 7, none⟩ (v7)).heap[k]? = W.heap[k]? := by
  refine ⟨?_, by simp, fun k hk => ?_⟩
  · have h0 : (W.setCell ⟨b, 0, none⟩ v0).heap[b]? = some (.cells #[v0, c1, c2, c3, c4, c5, c6, c7] 29 (0, 0)) := by have := heap_setCell_same W b 0 _ _ v0 h; simpa using this
    have h1 : ((W.setCell ⟨b, 0, none⟩ v0).setCell ⟨b, 1, none⟩ v1).heap[b]? = some (.cells #[v0, v1, c2, c3, c4, c5, c6, c7] 29 (0, 0)) := by have := heap_setCell_same _ b 1 _ _ v1 h0; simpa using this
    have h2 : (((W.setCell ⟨b, 0, none⟩ v0).setCell ⟨b, 1, none⟩ v1).setCell ⟨b, 2, none⟩ v2).heap[b]? = some (.cells #[v0, v1, v2, c3, c4, c5, c6, c7] 29 (0, 0)) := by have := heap_setCell_same _ b 2 _ _ v2 h1; simpa using this
    have h3 : ((((W.setCell ⟨b, 0, none⟩ v0).setCell ⟨b, 1, none⟩ v1).setCell ⟨b, 2, none⟩ v2).setCell ⟨b, 3, none⟩ v3).heap[b]? = some (.cells #[v0, v1, v2, v3, c4, c5, c6, c7] 29 (0, 0)) := by have := heap_setCell_same _ b 3 _ _ v3 h2; simpa using this
    have h4 : (((((W.setCell ⟨b, 0, none⟩ v0).setCell ⟨b, 1, none⟩ v1).setCell ⟨b, 2, none⟩ v2).setCell ⟨b, 3, none⟩ v3).setCell ⟨b, 4, none⟩ v4).heap[b]? = some (.cells #[v0, v1, v2, v3, v4, c5, c6, c7] 29 (0, 0)) := by have := heap_setCell_same _ b 4 _ _ v4 h3; simpa using this
    have h5 : ((((((W.setCell ⟨b, 0, none⟩ v0).setCell ⟨b, 1, none⟩ v1).setCell ⟨b, 2, none⟩ v2).setCell ⟨b, 3, none⟩ v3).setCell ⟨b, 4, none⟩ v4).setCell ⟨b, 5, none⟩ v5).heap[b]? = some (.cells #[v0, v1, v2, v3, v4, v5, c6, c7] 29 (0, 0)) := by have := heap_setCell_same _ b 5 _ _ v5 h4; simpa using this
    have h6 : (((((((W.setCell ⟨b, 0, none⟩ v0).setCell ⟨b, 1, none⟩ v1).setCell ⟨b, 2, none⟩ v2).setCell ⟨b, 3, none⟩ v3).setCell ⟨b, 4, none⟩ v4).setCell ⟨b, 5, none⟩ v5).setCell ⟨b, 6, none⟩ v6).heap[b]? = some (.cells #[v0, v1, v2, v3, v4, v5, v6, c7] 29 (0, 0)) := by have := heap_setCell_same _ b 6 _ _ v6 h5; simpa using this
    have h7 : ((((((((W.setCell ⟨b, 0, none⟩ v0).setCell ⟨b, 1, none⟩ v1).setCell ⟨b, 2, none⟩ v2).setCell ⟨b, 3, none⟩ v3).setCell ⟨b, 4, none⟩ v4).setCell ⟨b, 5, none⟩ v5).setCell ⟨b, 6, none⟩ v6).setCell ⟨b, 7, none⟩ v7).heap[b]? = some (.cells #[v0, v1, v2, v3, v4, v5, v6, v7] 29 (0, 0)) := by have := heap_setCell_same _ b 7 _ _ v7 h6; simpa using this
    exact h7
  · repeat rw [heap_setCell_other _ _ _ _ hk]
theorem two_alloc {X : World} {N : Nat} (hN : X.heap.size = N) (A B : Obj) : ((X.alloc A).alloc B).drew.heap[N]? = some A ∧ ((X.alloc A).alloc B).drew.heap[N + 1]? = some B ∧ ∀ b, b < N → ((X.alloc A).alloc B).drew.heap[b]? = X.heap[b]? := by
  subst hN
  refine ⟨?_, ?_, fun b hb => ?_⟩
  · rw [heap_drew]; exact heap_alloc2_old X A B
  · rw [heap_drew]; exact heap_alloc2_new X A B
  · rw [heap_drew, heap_alloc_old _ _ (by simp; omega), heap_alloc_old _ _ hb]
end Go.Proofs.Ytndbikoccdjafaa
namespace Go.Proofs.Ytndbikoccdjafaa
open Go.RowKit
def manB (p : Prb) (vi : Int) : Bool := decide (0 ≤ vi) && decide (vi < (p.vs.length : Int))
def hasB (V : List Vst) : Bool := V.any fun v => v.1 == 4
/-- The visits with all breaks ahead of them. -/
def headV (p : Prb) (vi : Int) (V : List Vst) : List Vst := setM V (List.replicate (p.vs.getD vi.toNat vz).brks.length 0)
theorem put7 {W : World} {b : Nat} {c0 c1 c2 c3 c4 c5 c6 : Value} (v0 v1 v2 v3 v4 v5 v6 : Value) (h : W.heap[b]? = some (.cells #[c0, c1, c2, c3, c4, c5, c6] 34 (0, 0))) :
    ∃ Z, Z = (((((((W.setCell ⟨b, 0, none⟩ v0).setCell ⟨b, 1, none⟩ v1).setCell ⟨b, 2, none⟩ v2).setCell ⟨b, 3, none⟩ v3).setCell ⟨b, 4, none⟩ v4).setCell ⟨b, 5, none⟩ v5).setCell ⟨b, 6, none⟩ v6) ∧ Z.heap[b]? = some (.cells #[v0, v1, v2, v3, v4, v5, v6] 34 (0, 0)) ∧ W.grownBy Z (some b) := by
  refine ⟨_, rfl, ?_, ?_⟩
  · have h0 : (W.setCell ⟨b, 0, none⟩ v0).heap[b]? = some (.cells #[v0, c1, c2, c3, c4, c5, c6] 34 (0, 0)) := by have := heap_setCell_same W b 0 _ _ v0 h; simpa using this
    have h1 : ((W.setCell ⟨b, 0, none⟩ v0).setCell ⟨b, 1, none⟩ v1).heap[b]? = some (.cells #[v0, v1, c2, c3, c4, c5, c6] 34 (0, 0)) := by have := heap_setCell_same _ b 1 _ _ v1 h0; simpa using this
    have h2 : (((W.setCell ⟨b, 0, none⟩ v0).setCell ⟨b, 1, none⟩ v1).setCell ⟨b, 2, none⟩ v2).heap[b]? = some (.cells #[v0, v1, v2, c3, c4, c5, c6] 34 (0, 0)) := by have := heap_setCell_same _ b 2 _ _ v2 h1; simpa using this
    have h3 : ((((W.setCell ⟨b, 0, none⟩ v0).setCell ⟨b, 1, none⟩ v1).setCell ⟨b, 2, none⟩ v2).setCell ⟨b, 3, none⟩ v3).heap[b]? = some (.cells #[v0, v1, v2, v3, c4, c5, c6] 34 (0, 0)) := by have := heap_setCell_same _ b 3 _ _ v3 h2; simpa using this
    have h4 : (((((W.setCell ⟨b, 0, none⟩ v0).setCell ⟨b, 1, none⟩ v1).setCell ⟨b, 2, none⟩ v2).setCell ⟨b, 3, none⟩ v3).setCell ⟨b, 4, none⟩ v4).heap[b]? = some (.cells #[v0, v1, v2, v3, v4, c5, c6] 34 (0, 0)) := by have := heap_setCell_same _ b 4 _ _ v4 h3; simpa using this
    have h5 : ((((((W.setCell ⟨b, 0, none⟩ v0).setCell ⟨b, 1, none⟩ v1).setCell ⟨b, 2, none⟩ v2).setCell ⟨b, 3, none⟩ v3).setCell ⟨b, 4, none⟩ v4).setCell ⟨b, 5, none⟩ v5).heap[b]? = some (.cells #[v0, v1, v2, v3, v4, v5, c6] 34 (0, 0)) := by have := heap_setCell_same _ b 5 _ _ v5 h4; simpa using this
    have h6 : (((((((W.setCell ⟨b, 0, none⟩ v0).setCell ⟨b, 1, none⟩ v1).setCell ⟨b, 2, none⟩ v2).setCell ⟨b, 3, none⟩ v3).setCell ⟨b, 4, none⟩ v4).setCell ⟨b, 5, none⟩ v5).setCell ⟨b, 6, none⟩ v6).heap[b]? = some (.cells #[v0, v1, v2, v3, v4, v5, v6] 34 (0, 0)) := by have := heap_setCell_same _ b 6 _ _ v6 h5; simpa using this
    exact h6
  · repeat (first | (with_reducible exact grw_refl _ _) | (with_reducible refine grw_set ?_ _ _))
end Go.Proofs.Ytndbikoccdjafaa
namespace Go.Proofs.Ytndbikoccdjafaa
open Go.RowKit
set_option maxRecDepth 100000 in
set_option maxHeartbeats 3200000 in
theorem smanned_any {w : World} {x : PrbS} {p : Prb} {n c : Nat} {a : Option Addr} (h : PrbV w x p) (vi tm ds wt sv co : Int) : Calls Try.prog 35 #[.agg (prbE p x), .agg (planC vi (.slice a n c) tm ds wt sv co)] w fun e w' => e = .returned (.bool (manB p vi)) ∧ Below w.heap.size w w' := by
  obtain ⟨ta, tc, da, dc, va, vc, ja, jc, sa, sc, rfl⟩ := h.open
  unfold prbE planC manB
  obtain ⟨nv, hnv⟩ : ∃ z, p.vs.length = z := ⟨_, rfl⟩
  rw [hnv]
  have HB : Hid (∀ A B, Below w.heap.size w ((w.alloc A).alloc B)) := fun A B => ((Below.refl _ _).alloc (Nat.le_refl _) A).alloc (by simp) B
  clear h hnv
  by_cases h0 : (0 : Int) ≤ vi
  · by_cases h1 : vi < (nv : Int)
    · rw [decide_eq_true h0, decide_eq_true h1]
      go_enter Try.func35, Try.ntmps35
      go_wp2
      go_ret
      exact ⟨rfl, HB.out _ _⟩
    · rw [decide_eq_true h0, decide_eq_false h1]
      go_enter Try.func35, Try.ntmps35
      go_wp2
      go_ret
      exact ⟨rfl, HB.out _ _⟩
  · rw [decide_eq_false h0]
    go_enter Try.func35, Try.ntmps35
    go_wp2
    go_ret
    exact ⟨rfl, HB.out _ _⟩
end Go.Proofs.Ytndbikoccdjafaa
