/-
  What the call of the law's Awake of plan does.
-/
import Derived.Deep.RegionHeld3
import Derived.Test.YtndbikoccdjafaaBCHCallG
namespace Go.Proofs.Ytndbikoccdjafaa
open Go.RowKit
def lineX (b1 bv bj : Nat) : PrbS := ⟨.slice (some ⟨b1,0,none⟩) 4 4,.slice (some ⟨b1,0,none⟩) 4 4,.slice (some ⟨bv,0,none⟩) 1 1,.slice (some ⟨bj,0,none⟩) 2 2,.slice none 0 0⟩
structure LineAt (w : World) (b1 b3 bv bj : Nat) : Prop where
 h1 : w.heap[b1]? = some (.cells #[.int .i64 0,.int .i64 10,.int .i64 10,.int .i64 0] 3 (0,0))
 h3 : w.heap[b3]? = some (.cells #[.int .i64 0,.int .i64 1000000] 54 (0,0))
 hv : w.heap[bv]? = some (.cells #[.int .i64 0,.int .i64 0,.slice none 0 0,.int .u64 0,.int .i64 0,.int .i64 1000000,.int .i64 0,.int .i64 1,.int .i64 0,.int .i64 12,.slice none 0 0] 58 (0,0))
 hj : w.heap[bj]? = some (.cells #[.int .i64 1,.int .i64 5,.slice (some ⟨b3,0,none⟩) 1 1,.slice none 0 0,.slice none 0 0,.int .u64 0,.int .i64 1,.int .i64 1,.int .i64 0,.slice (some ⟨b3,0,none⟩) 1 1,.slice none 0 0,.slice none 0 0,.int .u64 0,.int .i64 5] 88 (0,0))
set_option maxRecDepth 100000 in
set_option maxHeartbeats 1600000 in
theorem line_cells (w : World) : Calls Try.prog 33 #[] w fun e w' => ∃ b1 b3 bv bj,e = .returned (.agg (prbE lineP (lineX b1 bv bj))) ∧ (LineAt w' b1 b3 bv bj ∧ w.heap.size ≤ bj ∧ w.heap.size ≤ bv) ∧ Below w.heap.size w w' := by
 obtain ⟨W,hW⟩ : ∃ W,W = (((w.alloc (.cells #[.int .i64 0,.int .i64 0,.slice none 0 0,.int .i64 0,.slice none 0 0,.slice none 0 0,.slice none 0 0,.slice none 0 0] 29)).alloc (.cells #[.int .i64 0,.int .i64 10,.int .i64 10,.int .i64 0] 3)).alloc (.cells #[.int .i64 2,.slice (some ⟨w.heap.size + 1,0,none⟩) 4 4] 24)).alloc (.cells #[.int .i64 0,.int .i64 1000000] 54) := ⟨_,rfl⟩
 have hsz : W.heap.size = w.heap.size + 4 := by rw [hW];simp
 have HBW : Hid (Below w.heap.size w W) := by
  rw [hW]
  exact ((((Below.refl _ _).alloc (Nat.le_refl _) _).alloc (by simp) _).alloc (by simp;omega) _).alloc (by simp;omega) _
 have H1 : Hid (W.heap[w.heap.size + 1]? = some (.cells #[.int .i64 0,.int .i64 10,.int .i64 10,.int .i64 0] 3 (0,0))) := by
  show _ = _
  rw [hW,heap_alloc_old _ _ (by simp),heap_alloc_old _ _ (by simp)]
  exact heap_alloc2_new w _ _
 have H3 : Hid (W.heap[w.heap.size + 3]? = some (.cells #[.int .i64 0,.int .i64 1000000] 54 (0,0))) := by
  show _ = _
  rw [hW]
  have e : w.heap.size + 3 = (((w.alloc (.cells #[.int .i64 0,.int .i64 0,.slice none 0 0,.int .i64 0,.slice none 0 0,.slice none 0 0,.slice none 0 0,.slice none 0 0] 29)).alloc (.cells #[.int .i64 0,.int .i64 10,.int .i64 10,.int .i64 0] 3)).alloc (.cells #[.int .i64 2,.slice (some ⟨w.heap.size + 1,0,none⟩) 4 4] 24)).heap.size := by simp
  rw [e]
  exact heap_alloc_new _ _
 have h0 : W.heap[w.heap.size]? = some (.cells #[.int .i64 0,.int .i64 0,.slice none 0 0,.int .i64 0,.slice none 0 0,.slice none 0 0,.slice none 0 0,.slice none 0 0] 29 (0,0)) := by
  rw [hW,heap_alloc_old _ _ (by simp;omega),heap_alloc_old _ _ (by simp;omega)]
  exact heap_alloc2_old w _ _
 have h2 : W.heap[w.heap.size + 2]? = some (.cells #[.int .i64 2,.slice (some ⟨w.heap.size + 1,0,none⟩) 4 4] 24 (0,0)) := by
  rw [hW,heap_alloc_old _ _ (by simp)]
  have e : w.heap.size + 2 = ((w.alloc (.cells #[.int .i64 0,.int .i64 0,.slice none 0 0,.int .i64 0,.slice none 0 0,.slice none 0 0,.slice none 0 0,.slice none 0 0] 29)).alloc (.cells #[.int .i64 0,.int .i64 10,.int .i64 10,.int .i64 0] 3)).heap.size := by simp
  conv => lhs;arg 2;rw [e]
  exact heap_alloc_new _ _
 obtain ⟨b0,hb0⟩ : ∃ b,w.heap.size = b := ⟨_,rfl⟩
 rw [hb0] at H1 H3 h0 h2 hW hsz
 have HB := hide hb0
 obtain ⟨N,hN⟩ : ∃ N,W.heap.size = N := ⟨_,rfl⟩
 rw [hN] at hsz
 have HSZ := hide hsz
 obtain ⟨c2,hc2⟩ : ∃ c,b0 + 1 + 1 = c := ⟨_,rfl⟩
 obtain ⟨c3,hc3⟩ : ∃ c,c2 + 1 = c := ⟨_,rfl⟩
 have HC3 := hide hc3
 have d1 : ¬ b0 = N := by omega
 have d2 : ¬ b0 = N + 1 := by omega
 have d3 : ¬ c2 = N := by omega
 have d4 : ¬ c2 = N + 1 := by omega
 have d5 : ¬ c3 = N := by omega
 have d6 : ¬ c3 = N + 1 := by omega
 have e1 : ¬ N = b0 := by omega
 have e2 : ¬ N + 1 = b0 := by omega
 have e3 : b0 < N := by omega
 have e4 : b0 < N + 1 := by omega
 have e5 : c2 < N := by omega
 have e6 : c2 < N + 1 := by omega
 have e7 : c3 < N := by omega
 have e8 : c3 < N + 1 := by omega
 have d7 : ¬ c2 = b0 := by omega
 have d8 : ¬ c3 = b0 := by omega
 rw [show b0 + 2 = c2 from hc2] at h2
 rw [show b0 + 3 = c3 by omega] at H3
 clear hsz
 have cs : ∀ j u,(#[.int .i64 0,.int .i64 0,.slice none 0 0,.int .i64 0,.slice none 0 0,.slice none 0 0,.slice none 0 0,.slice none 0 0] : Array Value)[j]? = some u → W.cell? ⟨b0,j,none⟩ = some u := fun j u h => by rw [cell_of_row _ _ _ _ _ _ h0];exact h
 have k0 := cs 0 _ rfl
 have k1 := cs 1 _ rfl
 have k2 := cs 2 _ rfl
 have k3 := cs 3 _ rfl
 have k4 := cs 4 _ rfl
 have k5 := cs 5 _ rfl
 have k6 := cs 6 _ rfl
 have k7 := cs 7 _ rfl
 have fz : ∀ t,W.frozen? ⟨b0,t,none⟩ = false := fun t => frozen_of_row W b0 t _ _ h0
 have m0 : W.cell? ⟨c2,0,none⟩ = some (.int .i64 2) := by rw [cell_of_row _ _ _ _ _ _ h2];rfl
 have m1 : W.cell? ⟨c2,1,none⟩ = some (.slice (some ⟨b0 + 1,0,none⟩) 4 4) := by rw [cell_of_row _ _ _ _ _ _ h2];rfl
 have m2 : W.cell? ⟨c3,0,none⟩ = some (.int .i64 0) := by rw [cell_of_row _ _ _ _ _ _ H3.out];rfl
 have m3 : W.cell? ⟨c3,1,none⟩ = some (.int .i64 1000000) := by rw [cell_of_row _ _ _ _ _ _ H3.out];rfl
 clear cs
 have HC2 := hide hc2
 go_enter Try.func33,Try.ntmps33
 go_wp2
 rw [← hW]
 clear hW hb0 hc2 hc3
 go_region_held3 (fun w' => w'.cell? ⟨c2,0,none⟩ = some (.int .i64 2) ∧ w'.cell? ⟨c2,1,none⟩ = some (.slice (some ⟨b0 + 1,0,none⟩) 4 4) ∧ w'.cell? ⟨c3,0,none⟩ = some (.int .i64 0) ∧ w'.cell? ⟨c3,1,none⟩ = some (.int .i64 1000000)) (first | (go_keep;done) | ((try dsimp only);refine ⟨?_,?_,?_,?_⟩ <;> (refine cell_same (w := W) ?_ (by assumption);(repeat (first | rw [heap_drew] | rw [heap_alloc_old _ _ (by simp;omega)] | rw [heap_setCell_other _ _ _ _ (by simp;omega)]))))) (fail)
 all_goals rename_i hHeld
 all_goals clear hHeld
 all_goals go_wp2
 ·obtain ⟨q1,q2,q3⟩ := put8 (.int .i64 0) (.int .i64 2) (.slice (some ⟨b0 + 1,0,none⟩) 4 4) (.int .i64 2) (.slice (some ⟨b0 + 1,0,none⟩) 4 4) (.slice (some ⟨N,0,none⟩) 1 1) (.slice (some ⟨N + 1,0,none⟩) 2 2) (.slice none 0 0) h0
  have HBX : Hid (Below b0 W ((((((((W.setCell ⟨b0,0,none⟩ (.int .i64 0)).setCell ⟨b0,1,none⟩ (.int .i64 2)).setCell ⟨b0,2,none⟩ (.slice (some ⟨b0 + 1,0,none⟩) 4 4)).setCell ⟨b0,3,none⟩ (.int .i64 2)).setCell ⟨b0,4,none⟩ (.slice (some ⟨b0 + 1,0,none⟩) 4 4)).setCell ⟨b0,5,none⟩ (.slice (some ⟨N,0,none⟩) 1 1)).setCell ⟨b0,6,none⟩ (.slice (some ⟨N + 1,0,none⟩) 2 2)).setCell ⟨b0,7,none⟩ (.slice none 0 0))) := ((((((((Below.refl b0 W).setCell (Nat.le_refl _) _).setCell (Nat.le_refl _) _).setCell (Nat.le_refl _) _).setCell (Nat.le_refl _) _).setCell (Nat.le_refl _) _).setCell (Nat.le_refl _) _).setCell (Nat.le_refl _) _).setCell (Nat.le_refl _) _
  generalize ((((((((W.setCell ⟨b0,0,none⟩ (.int .i64 0)).setCell ⟨b0,1,none⟩ (.int .i64 2)).setCell ⟨b0,2,none⟩ (.slice (some ⟨b0 + 1,0,none⟩) 4 4)).setCell ⟨b0,3,none⟩ (.int .i64 2)).setCell ⟨b0,4,none⟩ (.slice (some ⟨b0 + 1,0,none⟩) 4 4)).setCell ⟨b0,5,none⟩ (.slice (some ⟨N,0,none⟩) 1 1)).setCell ⟨b0,6,none⟩ (.slice (some ⟨N + 1,0,none⟩) 2 2)).setCell ⟨b0,7,none⟩ (.slice none 0 0)) = X at *
  rw [hN] at q2
  have HBY : Hid (∀ A B,Below b0 W ((X.alloc A).alloc B).drew) := fun A B => ((HBX.out.alloc (by omega) A).alloc (by simp;omega) B).drew
  obtain ⟨p1,p2,p3⟩ := two_alloc q2 (.cells #[.int .i64 0,.int .i64 0,.slice none 0 0,.int .u64 0,.int .i64 0,.int .i64 1000000,.int .i64 0,.int .i64 1,.int .i64 0,.int .i64 12,.slice none 0 0] 58) (.cells #[.int .i64 1,.int .i64 5,.slice (some ⟨c3,0,none⟩) 1 1,.slice none 0 0,.slice none 0 0,.int .u64 0,.int .i64 1,.int .i64 1,.int .i64 0,.slice (some ⟨c3,0,none⟩) 1 1,.slice none 0 0,.slice none 0 0,.int .u64 0,.int .i64 5] 88)
  have HBZ := hide (HBY.out (.cells #[.int .i64 0,.int .i64 0,.slice none 0 0,.int .u64 0,.int .i64 0,.int .i64 1000000,.int .i64 0,.int .i64 1,.int .i64 0,.int .i64 12,.slice none 0 0] 58) (.cells #[.int .i64 1,.int .i64 5,.slice (some ⟨c3,0,none⟩) 1 1,.slice none 0 0,.slice none 0 0,.int .u64 0,.int .i64 1,.int .i64 1,.int .i64 0,.slice (some ⟨c3,0,none⟩) 1 1,.slice none 0 0,.slice none 0 0,.int .u64 0,.int .i64 5] 88))
  generalize ((X.alloc (.cells #[.int .i64 0,.int .i64 0,.slice none 0 0,.int .u64 0,.int .i64 0,.int .i64 1000000,.int .i64 0,.int .i64 1,.int .i64 0,.int .i64 12,.slice none 0 0] 58)).alloc (.cells #[.int .i64 1,.int .i64 5,.slice (some ⟨c3,0,none⟩) 1 1,.slice none 0 0,.slice none 0 0,.int .u64 0,.int .i64 1,.int .i64 1,.int .i64 0,.slice (some ⟨c3,0,none⟩) 1 1,.slice none 0 0,.slice none 0 0,.int .u64 0,.int .i64 5] 88)).drew = Y at *
  have z0 := p3 b0 (by omega)
  rw [q1] at z0
  refine bodyPost_ret (v := .agg (prbE lineP ⟨.slice (some ⟨b0 + 1,0,none⟩) 4 4,.slice (some ⟨b0 + 1,0,none⟩) 4 4,.slice (some ⟨N,0,none⟩) 1 1,.slice (some ⟨N + 1,0,none⟩) 2 2,.slice none 0 0⟩)) ?_ rfl ⟨b0 + 1,c3,N,N + 1,rfl,⟨⟨?_,?_,?_,?_⟩,by have := HB.out;have := HSZ.out;omega,by have := HB.out;have := HSZ.out;omega⟩,?_⟩
  ·have cs : ∀ j,Y.cell? ⟨b0,j,none⟩ = (#[.int .i64 0,.int .i64 2,.slice (some ⟨b0 + 1,0,none⟩) 4 4,.int .i64 2,.slice (some ⟨b0 + 1,0,none⟩) 4 4,.slice (some ⟨N,0,none⟩) 1 1,.slice (some ⟨N + 1,0,none⟩) 2 2,.slice none 0 0] : Array Value)[j]? := fun j => cell_of_row _ _ _ _ _ _ z0
   simp [results,Try.results33,go_sem,cs,prbE,lineP,lineM]
  ·rw [p3 _ (by have := HSZ.out;omega),q3 _ (by omega)];exact H1.out
  ·rw [p3 _ (by omega),q3 _ d8];exact H3.out
  ·exact p1
  ·exact p2
  ·have := HBZ.out
   rw [← HB.out] at this
   exact HBW.out.trans (this.mono (Nat.le_refl _))
 ·obtain ⟨q1,q2,q3⟩ := put8 (.int .i64 0) (.int .i64 2) (.slice (some ⟨b0 + 1,0,none⟩) 4 4) (.int .i64 2) (.slice (some ⟨b0 + 1,0,none⟩) 4 4) (.slice (some ⟨N + 1,0,none⟩) 1 1) (.slice (some ⟨N,0,none⟩) 2 2) (.slice none 0 0) h0
  have HBX : Hid (Below b0 W ((((((((W.setCell ⟨b0,0,none⟩ (.int .i64 0)).setCell ⟨b0,1,none⟩ (.int .i64 2)).setCell ⟨b0,2,none⟩ (.slice (some ⟨b0 + 1,0,none⟩) 4 4)).setCell ⟨b0,3,none⟩ (.int .i64 2)).setCell ⟨b0,4,none⟩ (.slice (some ⟨b0 + 1,0,none⟩) 4 4)).setCell ⟨b0,5,none⟩ (.slice (some ⟨N + 1,0,none⟩) 1 1)).setCell ⟨b0,6,none⟩ (.slice (some ⟨N,0,none⟩) 2 2)).setCell ⟨b0,7,none⟩ (.slice none 0 0))) := ((((((((Below.refl b0 W).setCell (Nat.le_refl _) _).setCell (Nat.le_refl _) _).setCell (Nat.le_refl _) _).setCell (Nat.le_refl _) _).setCell (Nat.le_refl _) _).setCell (Nat.le_refl _) _).setCell (Nat.le_refl _) _).setCell (Nat.le_refl _) _
  generalize ((((((((W.setCell ⟨b0,0,none⟩ (.int .i64 0)).setCell ⟨b0,1,none⟩ (.int .i64 2)).setCell ⟨b0,2,none⟩ (.slice (some ⟨b0 + 1,0,none⟩) 4 4)).setCell ⟨b0,3,none⟩ (.int .i64 2)).setCell ⟨b0,4,none⟩ (.slice (some ⟨b0 + 1,0,none⟩) 4 4)).setCell ⟨b0,5,none⟩ (.slice (some ⟨N + 1,0,none⟩) 1 1)).setCell ⟨b0,6,none⟩ (.slice (some ⟨N,0,none⟩) 2 2)).setCell ⟨b0,7,none⟩ (.slice none 0 0)) = X at *
  rw [hN] at q2
  have HBY : Hid (∀ A B,Below b0 W ((X.alloc A).alloc B).drew) := fun A B => ((HBX.out.alloc (by omega) A).alloc (by simp;omega) B).drew
  obtain ⟨p1,p2,p3⟩ := two_alloc q2 (.cells #[.int .i64 1,.int .i64 5,.slice (some ⟨c3,0,none⟩) 1 1,.slice none 0 0,.slice none 0 0,.int .u64 0,.int .i64 1,.int .i64 1,.int .i64 0,.slice (some ⟨c3,0,none⟩) 1 1,.slice none 0 0,.slice none 0 0,.int .u64 0,.int .i64 5] 88) (.cells #[.int .i64 0,.int .i64 0,.slice none 0 0,.int .u64 0,.int .i64 0,.int .i64 1000000,.int .i64 0,.int .i64 1,.int .i64 0,.int .i64 12,.slice none 0 0] 58)
  have HBZ := hide (HBY.out (.cells #[.int .i64 1,.int .i64 5,.slice (some ⟨c3,0,none⟩) 1 1,.slice none 0 0,.slice none 0 0,.int .u64 0,.int .i64 1,.int .i64 1,.int .i64 0,.slice (some ⟨c3,0,none⟩) 1 1,.slice none 0 0,.slice none 0 0,.int .u64 0,.int .i64 5] 88) (.cells #[.int .i64 0,.int .i64 0,.slice none 0 0,.int .u64 0,.int .i64 0,.int .i64 1000000,.int .i64 0,.int .i64 1,.int .i64 0,.int .i64 12,.slice none 0 0] 58))
  generalize ((X.alloc (.cells #[.int .i64 1,.int .i64 5,.slice (some ⟨c3,0,none⟩) 1 1,.slice none 0 0,.slice none 0 0,.int .u64 0,.int .i64 1,.int .i64 1,.int .i64 0,.slice (some ⟨c3,0,none⟩) 1 1,.slice none 0 0,.slice none 0 0,.int .u64 0,.int .i64 5] 88)).alloc (.cells #[.int .i64 0,.int .i64 0,.slice none 0 0,.int .u64 0,.int .i64 0,.int .i64 1000000,.int .i64 0,.int .i64 1,.int .i64 0,.int .i64 12,.slice none 0 0] 58)).drew = Y at *
  have z0 := p3 b0 (by omega)
  rw [q1] at z0
  refine bodyPost_ret (v := .agg (prbE lineP ⟨.slice (some ⟨b0 + 1,0,none⟩) 4 4,.slice (some ⟨b0 + 1,0,none⟩) 4 4,.slice (some ⟨N + 1,0,none⟩) 1 1,.slice (some ⟨N,0,none⟩) 2 2,.slice none 0 0⟩)) ?_ rfl ⟨b0 + 1,c3,N + 1,N,rfl,⟨⟨?_,?_,?_,?_⟩,by have := HB.out;have := HSZ.out;omega,by have := HB.out;have := HSZ.out;omega⟩,?_⟩
  ·have cs : ∀ j,Y.cell? ⟨b0,j,none⟩ = (#[.int .i64 0,.int .i64 2,.slice (some ⟨b0 + 1,0,none⟩) 4 4,.int .i64 2,.slice (some ⟨b0 + 1,0,none⟩) 4 4,.slice (some ⟨N + 1,0,none⟩) 1 1,.slice (some ⟨N,0,none⟩) 2 2,.slice none 0 0] : Array Value)[j]? := fun j => cell_of_row _ _ _ _ _ _ z0
   simp [results,Try.results33,go_sem,cs,prbE,lineP,lineM]
  ·rw [p3 _ (by have := HSZ.out;omega),q3 _ (by omega)];exact H1.out
  ·rw [p3 _ (by omega),q3 _ d8];exact H3.out
  ·exact p2
  ·exact p1
  ·have := HBZ.out
   rw [← HB.out] at this
   exact HBW.out.trans (this.mono (Nat.le_refl _))
end Go.Proofs.Ytndbikoccdjafaa
