/-
  Several texts in one: SkR Sk12.
-/
import Derived.BigRegion
import Derived.Test.YtndbikoccdjafaaBCLinB
import Derived.Test.YtndbikoccdjafaaBCBrkPG
import Derived.Test.YtndbikoccdjafaaBSk9
import Derived.Test.YtndbikoccdjafaaBCRFt
namespace Go.Proofs.Ytndbikoccdjafaa
open Go.RowKit
def lineR : Prb := ⟨0,lineM,lineM,[⟨0,0,[],0,(0,100),0,1,0,12,[]⟩],[⟨⟨1,5,[(30,40)]⟩,[],[],0,1⟩,⟨⟨1,0,lineW⟩,[],[],0,5⟩],[]⟩
theorem ints_nil (w : World) : IntsV w (.slice none 0 0) [] := ⟨none,0,rfl,fun _ => rfl,by decide,fun k hk => absurd hk (Nat.not_lt_zero k)⟩
theorem brks_nil (w : World) : BrksV w (.slice none 0 0) [] := ⟨none,0,rfl,fun _ => rfl,by decide,fun k hk => by simp at hk⟩
theorem shps_nil (w : World) : ShpsV w (.slice none 0 0) [] := ⟨none,0,rfl,fun _ => rfl,by decide,fun k hk => by simp at hk⟩
theorem lineR_prb {w : World} {b1 b3 b4 bv bj : Nat} (h4 : w.heap[b4]? = some (.cells #[.int .i64 30,.int .i64 40] 54 (0,0))) (h1 : w.heap[b1]? = some (.cells #[.int .i64 0,.int .i64 10,.int .i64 10,.int .i64 0] 3 (0,0))) (h3 : w.heap[b3]? = some (.cells #[.int .i64 0,.int .i64 1000000] 54 (0,0)))
  (hv : w.heap[bv]? = some (.cells #[.int .i64 0,.int .i64 0,.slice none 0 0,.int .u64 0,.int .i64 0,.int .i64 100,.int .i64 0,.int .i64 1,.int .i64 0,.int .i64 12,.slice none 0 0] 58 (0,0))) (hj : w.heap[bj]? = some (.cells #[.int .i64 1,.int .i64 5,.slice (some ⟨b4,0,none⟩) 1 1,.slice none 0 0,.slice none 0 0,.int .u64 0,.int .i64 1,.int .i64 1,.int .i64 0,.slice (some ⟨b3,0,none⟩) 1 1,.slice none 0 0,.slice none 0 0,.int .u64 0,.int .i64 5] 88 (0,0))) :
  PrbV w ⟨.slice (some ⟨b1,0,none⟩) 4 4,.slice (some ⟨b1,0,none⟩) 4 4,.slice (some ⟨bv,0,none⟩) 1 1,.slice (some ⟨bj,0,none⟩) 2 2,.slice none 0 0⟩ lineR := by
 have hI : IntsV w (.slice (some ⟨b1,0,none⟩) 4 4) [0,10,10,0] := by
  refine ⟨_,4,rfl,(fun e => by cases e),by decide,fun k hk => ⟨b1,0,rfl,?_⟩⟩
  rw [cell_of_row _ _ _ _ _ _ h1]
  have : k = 0 ∨ k = 1 ∨ k = 2 ∨ k = 3 := by simp at hk;omega
  rcases this with rfl | rfl | rfl | rfl <;> rfl
 have hW : WinsV w (.slice (some ⟨b3,0,none⟩) 1 1) lineW := by
  refine ⟨_,1,rfl,(fun e => by cases e),rfl,by decide,fun k hk => ⟨b3,0,rfl,?_⟩⟩
  have : k = 0 := by simp [lineW] at hk;omega
  subst this
  exact ⟨by rw [cell_of_row _ _ _ _ _ _ h3];rfl,by rw [cell_of_row _ _ _ _ _ _ h3];rfl⟩
 have hW4 : WinsV w (.slice (some ⟨b4,0,none⟩) 1 1) [(30,40)] := by
  refine ⟨_,1,rfl,(fun e => by cases e),rfl,by decide,fun k hk => ⟨b4,0,rfl,?_⟩⟩
  have : k = 0 := by simp at hk;omega
  subst this
  exact ⟨by rw [cell_of_row _ _ _ _ _ _ h4];rfl,by rw [cell_of_row _ _ _ _ _ _ h4];rfl⟩
 have wd0 : Wd 0 := ⟨by decide,by decide⟩
 refine ⟨hI,hI,?_,?_,shps_nil w⟩
 ·refine ⟨_,1,rfl,(fun e => by cases e),by decide,fun k hk => ?_⟩
  have : k = 0 := by simp [lineR] at hk;omega
  subst this
  refine ⟨bv,0,vehE ⟨0,0,[],0,(0,100),0,1,0,12,[]⟩ (.slice none 0 0) (.slice none 0 0),rfl,rfl,fun j hj => ?_,⟨_,_,rfl,ints_nil w,brks_nil w,wd0⟩⟩
  rw [cell_of_row _ _ _ _ _ _ hv]
  simp [vehE]
 ·refine ⟨_,2,rfl,(fun e => by cases e),by decide,fun k hk => ?_⟩
  have : k = 0 ∨ k = 1 := by simp [lineR] at hk;omega
  rcases this with rfl | rfl
  ·refine ⟨bj,0,jobE ⟨⟨1,5,[(30,40)]⟩,[],[],0,1⟩ (.slice (some ⟨b4,0,none⟩) 1 1) (.slice none 0 0) (.slice none 0 0),rfl,rfl,fun j hj2 => ?_,⟨_,_,_,rfl,hW4,ints_nil w,ints_nil w,wd0⟩⟩
   rw [cell_of_row _ _ _ _ _ _ hj]
   have : j = 0 ∨ j = 1 ∨ j = 2 ∨ j = 3 ∨ j = 4 ∨ j = 5 ∨ j = 6 := by omega
   rcases this with rfl | rfl | rfl | rfl | rfl | rfl | rfl <;> rfl
  ·refine ⟨bj,0,jobE ⟨⟨1,0,lineW⟩,[],[],0,5⟩ (.slice (some ⟨b3,0,none⟩) 1 1) (.slice none 0 0) (.slice none 0 0),rfl,rfl,fun j hj2 => ?_,⟨_,_,_,rfl,hW,ints_nil w,ints_nil w,wd0⟩⟩
   rw [cell_of_row _ _ _ _ _ _ hj]
   have : j = 0 ∨ j = 1 ∨ j = 2 ∨ j = 3 ∨ j = 4 ∨ j = 5 ∨ j = 6 := by omega
   rcases this with rfl | rfl | rfl | rfl | rfl | rfl | rfl <;> rfl
theorem lineR_law : lawM lineR = true := by kernel_rfl
theorem lineR_e : fitE lineR 0 [(1,0)] = 0 := by kernel_rfl
theorem lineR_err : errV lineR (lineR.vs.getD 0 vz) [(1,0)] = 0 := by kernel_rfl
theorem lineR_p : fitP lineR 0 [(1,0)] = planM lineR 0 (lineR.vs.getD 0 vz) [(1,0)] := by kernel_rfl
theorem lineR_late : latG (lineR.vs.getD 0 vz).shift.2 (stgM lineR (lineR.vs.getD 0 vz) [(1,0)]) = some [30,40,100] := by kernel_rfl
theorem lineR_end : endG (lineR.vs.getD 0 vz).shift.2 ((stgM lineR (lineR.vs.getD 0 vz) [(1,0)]).drop 1) 40 = some 55 := by kernel_rfl
theorem lineR_len : (planM lineR 0 (lineR.vs.getD 0 vz) [(1,0)]).steps.length = 3 := by kernel_rfl
end Go.Proofs.Ytndbikoccdjafaa
namespace Go.Proofs.Ytndbikoccdjafaa
open Go.RowKit
theorem lineR_ready {w1 : World} {b1 b3 bv bj : Nat} (h : LineAt w1 b1 b3 bv bj) :
    PrbV (((((w1.setCell ⟨bv, 5, none⟩ (.int .i64 100)).setCell ⟨bj, 2, none⟩ (.slice (some ⟨w1.heap.size + 1, 0, none⟩) 1 1)).alloc (.cells #[.int .i64 0, .int .i64 2, .slice (some ⟨b1, 0, none⟩) 4 4, .int .i64 2, .slice (some ⟨b1, 0, none⟩) 4 4, .slice (some ⟨bv, 0, none⟩) 1 1, .slice (some ⟨bj, 0, none⟩) 2 2, .slice none 0 0] 29)).alloc (.cells #[.int .i64 30, .int .i64 40] 54)).alloc (.cells #[.int .i64 1, .int .i64 0] 43)) (lineX b1 bv bj) lineR ∧ VsV (((((w1.setCell ⟨bv, 5, none⟩ (.int .i64 100)).setCell ⟨bj, 2, none⟩ (.slice (some ⟨w1.heap.size + 1, 0, none⟩) 1 1)).alloc (.cells #[.int .i64 0, .int .i64 2, .slice (some ⟨b1, 0, none⟩) 4 4, .int .i64 2, .slice (some ⟨b1, 0, none⟩) 4 4, .slice (some ⟨bv, 0, none⟩) 1 1, .slice (some ⟨bj, 0, none⟩) 2 2, .slice none 0 0] 29)).alloc (.cells #[.int .i64 30, .int .i64 40] 54)).alloc (.cells #[.int .i64 1, .int .i64 0] 43)) (.slice (some ⟨w1.heap.size + 1 + 1, 0, none⟩) 1 1) [(1, 0)] ∧ (∀ B, B ≤ bj → B ≤ bv → B ≤ w1.heap.size → Below B w1 (((((w1.setCell ⟨bv, 5, none⟩ (.int .i64 100)).setCell ⟨bj, 2, none⟩ (.slice (some ⟨w1.heap.size + 1, 0, none⟩) 1 1)).alloc (.cells #[.int .i64 0, .int .i64 2, .slice (some ⟨b1, 0, none⟩) 4 4, .int .i64 2, .slice (some ⟨b1, 0, none⟩) 4 4, .slice (some ⟨bv, 0, none⟩) 1 1, .slice (some ⟨bj, 0, none⟩) 2 2, .slice none 0 0] 29)).alloc (.cells #[.int .i64 30, .int .i64 40] 54)).alloc (.cells #[.int .i64 1, .int .i64 0] 43))) ∧ (((((w1.setCell ⟨bv, 5, none⟩ (.int .i64 100)).setCell ⟨bj, 2, none⟩ (.slice (some ⟨w1.heap.size + 1, 0, none⟩) 1 1)).alloc (.cells #[.int .i64 0, .int .i64 2, .slice (some ⟨b1, 0, none⟩) 4 4, .int .i64 2, .slice (some ⟨b1, 0, none⟩) 4 4, .slice (some ⟨bv, 0, none⟩) 1 1, .slice (some ⟨bj, 0, none⟩) 2 2, .slice none 0 0] 29)).alloc (.cells #[.int .i64 30, .int .i64 40] 54)).alloc (.cells #[.int .i64 1, .int .i64 0] 43)).heap.size = w1.heap.size + 3 ∧ (((((w1.setCell ⟨bv, 5, none⟩ (.int .i64 100)).setCell ⟨bj, 2, none⟩ (.slice (some ⟨w1.heap.size + 1, 0, none⟩) 1 1)).alloc (.cells #[.int .i64 0, .int .i64 2, .slice (some ⟨b1, 0, none⟩) 4 4, .int .i64 2, .slice (some ⟨b1, 0, none⟩) 4 4, .slice (some ⟨bv, 0, none⟩) 1 1, .slice (some ⟨bj, 0, none⟩) 2 2, .slice none 0 0] 29)).alloc (.cells #[.int .i64 30, .int .i64 40] 54)).alloc (.cells #[.int .i64 1, .int .i64 0] 43)).heap[w1.heap.size]? = some (.cells #[.int .i64 0, .int .i64 2, .slice (some ⟨b1, 0, none⟩) 4 4, .int .i64 2, .slice (some ⟨b1, 0, none⟩) 4 4, .slice (some ⟨bv, 0, none⟩) 1 1, .slice (some ⟨bj, 0, none⟩) 2 2, .slice none 0 0] 29 (0, 0)) := by
  have l1 := lt_of_block h.h1
  have l3 := lt_of_block h.h3
  have lv := lt_of_block h.hv
  have lj := lt_of_block h.hj
  have n1 : b1 ≠ bj := fun e => by have := h.h1; rw [e, h.hj] at this; simp at this
  have n3 : b3 ≠ bj := fun e => by have := h.h3; rw [e, h.hj] at this; simp at this
  have nv : bv ≠ bj := fun e => by have := h.hv; rw [e, h.hj] at this; simp at this
  have n1v : b1 ≠ bv := fun e => by have := h.h1; rw [e, h.hv] at this; simp at this
  have n3v : b3 ≠ bv := fun e => by have := h.h3; rw [e, h.hv] at this; simp at this
  obtain ⟨D, hD⟩ : ∃ D, D = w1.setCell ⟨bv, 5, none⟩ (.int .i64 100) := ⟨_, rfl⟩
  have sD : D.heap.size = w1.heap.size := by rw [hD]; simp
  have oD : ∀ q, q ≠ bv → D.heap[q]? = w1.heap[q]? := fun q hq => by rw [hD]; exact heap_setCell_other _ _ _ _ hq
  have vD := heap_setCell_same w1 bv 5 _ _ (.int .i64 100) h.hv
  rw [← hD] at vD ⊢
  have hjD : D.heap[bj]? = w1.heap[bj]? := oD _ (Ne.symm nv)
  obtain ⟨C, hC⟩ : ∃ C, C = D.setCell ⟨bj, 2, none⟩ (.slice (some ⟨w1.heap.size + 1, 0, none⟩) 1 1) := ⟨_, rfl⟩
  have sC : C.heap.size = w1.heap.size := by rw [hC]; simp [sD]
  have oC : ∀ q, q ≠ bj → C.heap[q]? = D.heap[q]? := fun q hq => by rw [hC]; exact heap_setCell_other _ _ _ _ hq
  have jC := heap_setCell_same D bj 2 _ _ (.slice (some ⟨w1.heap.size + 1, 0, none⟩) 1 1) (hjD.trans h.hj)
  rw [← hC] at jC ⊢
  obtain ⟨A, hA⟩ : ∃ A, A = (C.alloc (.cells #[.int .i64 0, .int .i64 2, .slice (some ⟨b1, 0, none⟩) 4 4, .int .i64 2, .slice (some ⟨b1, 0, none⟩) 4 4, .slice (some ⟨bv, 0, none⟩) 1 1, .slice (some ⟨bj, 0, none⟩) 2 2, .slice none 0 0] 29)).alloc (.cells #[.int .i64 30, .int .i64 40] 54) := ⟨_, rfl⟩
  have sA : A.heap.size = w1.heap.size + 2 := by rw [hA]; simp [sC]
  have oA : ∀ q, q < w1.heap.size → A.heap[q]? = C.heap[q]? := fun q hq => by rw [hA, heap_alloc_old _ _ (by simp; omega), heap_alloc_old _ _ (by omega)]
  have bA : A.heap[w1.heap.size]? = some (.cells #[.int .i64 0, .int .i64 2, .slice (some ⟨b1, 0, none⟩) 4 4, .int .i64 2, .slice (some ⟨b1, 0, none⟩) 4 4, .slice (some ⟨bv, 0, none⟩) 1 1, .slice (some ⟨bj, 0, none⟩) 2 2, .slice none 0 0] 29 (0, 0)) := by rw [hA, heap_alloc_old _ _ (by simp; omega), ← sC, heap_alloc_new]
  have wA : A.heap[w1.heap.size + 1]? = some (.cells #[.int .i64 30, .int .i64 40] 54 (0, 0)) := by
    have := heap_alloc_new (C.alloc (.cells #[.int .i64 0, .int .i64 2, .slice (some ⟨b1, 0, none⟩) 4 4, .int .i64 2, .slice (some ⟨b1, 0, none⟩) 4 4, .slice (some ⟨bv, 0, none⟩) 1 1, .slice (some ⟨bj, 0, none⟩) 2 2, .slice none 0 0] 29)) (.cells #[.int .i64 30, .int .i64 40] 54)
    rw [← hA] at this
    simpa [sC] using this
  rw [← hA]
  have bX : ∀ q, q < w1.heap.size + 2 → (A.alloc (.cells #[.int .i64 1, .int .i64 0] 43)).heap[q]? = A.heap[q]? := fun q hq => heap_alloc_old _ _ (by omega)
  refine ⟨?_, ?_, fun B h1 h3 h2 => ?_, ?_, ?_⟩
  · refine lineR_prb (b3 := b3) (b4 := w1.heap.size + 1) ?_ ?_ ?_ ?_ ?_
    · rw [bX _ (by omega)]; exact wA
    · rw [bX _ (by omega), oA _ l1, oC _ n1, oD _ n1v]; exact h.h1
    · rw [bX _ (by omega), oA _ l3, oC _ n3, oD _ n3v]; exact h.h3
    · rw [bX _ (by omega), oA _ lv, oC _ nv, vD]; rfl
    · rw [bX _ (by omega), oA _ lj, jC]; rfl
  · have e := heap_alloc_new A (.cells #[.int .i64 1, .int .i64 0] 43)
    rw [sA] at e
    refine ⟨_, 1, rfl, by decide, fun k hk => ⟨w1.heap.size + 1 + 1, 0, rfl, ?_⟩⟩
    have : k = 0 := by simp at hk; omega
    subst this
    exact ⟨by rw [cell_of_row _ _ _ _ _ _ e]; rfl, by rw [cell_of_row _ _ _ _ _ _ e]; rfl⟩
  · rw [hA, hC, hD]
    exact ((((((Below.refl B w1).setCell h3 _).setCell h1 _).alloc (by simp; omega) _).alloc (by simp; omega) _).alloc (by simp; omega) _)
  · simp [sA]
  · rw [bX _ (by omega)]
    exact bA
set_option maxRecDepth 100000 in
set_option maxHeartbeats 6400000 in
theorem awake_any (w : World) : Calls Try.prog 11 #[] w fun e w' => e = .returned (.bool true) ∧ Below w.heap.size w w' := by
  go_enter Try.func11, Try.ntmps11
  go_wp2_with (first | (go_at_call 33; refine (line_cells _).mono ?_; rintro e w1 ⟨b1, b3, bv, bj, rfl, ⟨hA, hbj, hbv⟩, k1⟩; rw [show prbE lineP (lineX b1 bv bj) = #[.int .i64 0, .int .i64 2, .slice (some ⟨b1, 0, none⟩) 4 4, .int .i64 2, .slice (some ⟨b1, 0, none⟩) 4 4, .slice (some ⟨bv, 0, none⟩) 1 1, .slice (some ⟨bj, 0, none⟩) 2 2, .slice none 0 0] from rfl]; have K1 := hide k1; have HA := hide hA; have lj : bj < w1.heap.size := lt_of_block hA.hj; have lv : bv < w1.heap.size := lt_of_block hA.hv; have c2 : w1.cell? ⟨bj, 2, none⟩ = some (.slice (some ⟨b3, 0, none⟩) 1 1) := cell_of_row _ _ _ _ _ _ hA.hj; have f2 : w1.frozen? ⟨bj, 2, none⟩ = false := frozen_of_row _ _ _ _ _ hA.hj; have c5 : w1.cell? ⟨bv, 5, none⟩ = some (.int .i64 1000000) := cell_of_row _ _ _ _ _ _ hA.hv; have f5 : w1.frozen? ⟨bv, 5, none⟩ = false := frozen_of_row _ _ _ _ _ hA.hv; have m0 : ¬ bj = w1.heap.size := (by omega); have m1 : ¬ bj = w1.heap.size + 1 := (by omega); have m2 : ¬ bv = w1.heap.size := (by omega); have m3 : ¬ bv = w1.heap.size + 1 := (by omega); have HBJ := hide hbj; have HBV := hide hbv; have nv : ¬ bv = bj := (fun e => by have := hA.hv; rw [e, hA.hj] at this; simp at this); clear k1 hA hbj hbv) | fail)
  obtain ⟨hp, hv, hbl, hsz, hbx⟩ := lineR_ready HA.out
  have HBL := hide (hbl w.heap.size HBJ.out HBV.out K1.out.size)
  generalize hX : (((((w1.setCell ⟨bv, 5, none⟩ (.int .i64 100)).setCell ⟨bj, 2, none⟩ (.slice (some ⟨w1.heap.size + 1, 0, none⟩) 1 1)).alloc (.cells #[.int .i64 0, .int .i64 2, .slice (some ⟨b1, 0, none⟩) 4 4, .int .i64 2, .slice (some ⟨b1, 0, none⟩) 4 4, .slice (some ⟨bv, 0, none⟩) 1 1, .slice (some ⟨bj, 0, none⟩) 2 2, .slice none 0 0] 29)).alloc (.cells #[.int .i64 30, .int .i64 40] 54)).alloc (.cells #[.int .i64 1, .int .i64 0] 43)) = X at hp hv HBL hsz hbx ⊢
  clear hX hbl c2 f2 c5 f5 m0 m1 m2 m3 nv lj lv
  have h9 := rfit_any' (vi := 0) hp lineR_law hv rfl (by decide)
  rw [lineR_e, lineR_p] at h9
  rw [show prbE lineR (lineX b1 bv bj) = #[.int .i64 0, .int .i64 2, .slice (some ⟨b1, 0, none⟩) 4 4, .int .i64 2, .slice (some ⟨b1, 0, none⟩) 4 4, .slice (some ⟨bv, 0, none⟩) 1 1, .slice (some ⟨bj, 0, none⟩) 2 2, .slice none 0 0] from rfl] at h9
  have HPX := hide hp
  have HBX := hide hbx
  have HSZ := hide hsz
  have HBW := hide (K1.out.trans HBL.out)
  obtain ⟨pl, hpl⟩ : ∃ z, planM lineR 0 (lineR.vs.getD 0 vz) [(1, 0)] = z := ⟨_, rfl⟩
  have hRt := rout_plan (p := lineR) (k := 0) (vi := 0) lineR_law (by decide) lineR_err (by decide)
  have hln := lineR_len
  have hvh : pl.veh = 0 := by rw [← hpl]; rfl
  rw [hpl] at h9 hRt hln
  refine h9.mono ?_
  rintro e w2 ⟨u, rfl, hpw, k2⟩
  obtain ⟨pa, pn, pc, ys, rfl, hr, hn⟩ := hpw
  rw [hvh]
  have K2 := hide k2
  have hst := stpR_read hr hn
  rw [hln] at hn
  subst hn
  obtain ⟨tm, htm⟩ : ∃ z, pl.time = z := ⟨_, rfl⟩
  obtain ⟨ds, hds⟩ : ∃ z, pl.dist = z := ⟨_, rfl⟩
  obtain ⟨wt, hwt⟩ : ∃ z, pl.wait = z := ⟨_, rfl⟩
  obtain ⟨sv, hsv⟩ : ∃ z, pl.serv = z := ⟨_, rfl⟩
  obtain ⟨co, hco⟩ : ∃ z, pl.cost = z := ⟨_, rfl⟩
  rw [htm, hds, hwt, hsv, hco]
  have HSL : Hid (SlkV w2 (lineX b1 bv bj) lineR 0 pa 3 pl.steps (stgM lineR (lineR.vs.getD 0 vz) [(1, 0)])) := ⟨HPX.out.on k2, lineR_law, by decide, hst, hRt⟩
  have HBX2 := hide ((k2.block _ (lt_of_block HBX.out)).trans HBX.out)
  have H13 : Hid (∀ W2, Below w2.heap.size w2 W2 → Calls Try.prog 13 #[.agg #[.int .i64 0, .int .i64 2, .slice (some ⟨b1, 0, none⟩) 4 4, .int .i64 2, .slice (some ⟨b1, 0, none⟩) 4 4, .slice (some ⟨bv, 0, none⟩) 1 1, .slice (some ⟨bj, 0, none⟩) 2 2, .slice none 0 0], .agg #[.int .i64 0, .slice pa 3 pc, .int .i64 tm, .int .i64 ds, .int .i64 wt, .int .i64 sv, .int .i64 co]] W2 fun e w' => ∃ nb, e = .returned (.slice (some ⟨nb, 0, none⟩) 3 3) ∧ IRow w' W2.heap.size (.slice (some ⟨nb, 0, none⟩) 3 3) [30, 40, 100] ∧ Below W2.heap.size W2 w') := fun W2 hf => latest_any (HSL.out.on hf) lineR_late pc tm ds wt sv co
  have H17 : Hid (∀ W2, Below w2.heap.size w2 W2 → Calls Try.prog 17 #[.agg #[.int .i64 0, .int .i64 2, .slice (some ⟨b1, 0, none⟩) 4 4, .int .i64 2, .slice (some ⟨b1, 0, none⟩) 4 4, .slice (some ⟨bv, 0, none⟩) 1 1, .slice (some ⟨bj, 0, none⟩) 2 2, .slice none 0 0], .agg #[.int .i64 0, .slice pa 3 pc, .int .i64 tm, .int .i64 ds, .int .i64 wt, .int .i64 sv, .int .i64 co], .int .i64 1, .int .i64 40] W2 fun e w' => e = .returned (.tuple #[.int .i64 55, .bool true]) ∧ Below W2.heap.size W2 w') := fun W2 hf => by
    have h8 := ends_any (HSL.out.on hf) lineR_late (i := 1) (by decide) (t := 40) (by decide) pc tm ds wt sv co
    rw [lineR_end] at h8
    exact h8
  clear h9 hp hv hbx hsz hRt hln hvh k2 hst hr htm hds hwt hsv hco hpl
  unfold planC
  go_upto_region 5 with fail
  obtain ⟨u3, hu3⟩ : ∃ z, w2.alloc (.cells #[.int .i64 0, .slice pa 3 pc, .int .i64 tm, .int .i64 ds, .int .i64 wt, .int .i64 sv, .int .i64 co] 34) = z := ⟨_, rfl⟩
  rw [hu3]
  have HX8 : Hid (u3.heap[w2.heap.size]? = some (.cells #[.int .i64 0, .slice pa 3 pc, .int .i64 tm, .int .i64 ds, .int .i64 wt, .int .i64 sv, .int .i64 co] 34 (0, 0))) := by show _ = _; rw [← hu3]; exact new_block _ _
  have K3 : Hid (Below w2.heap.size w2 u3) := by show Below _ _ _; rw [← hu3]; exact (Below.refl _ _).alloc (Nat.le_refl _) _
  clear hu3
  have HX1 := hide ((K3.out.block _ (lt_of_block HBX2.out)).trans HBX2.out)
  have u310 : u3.cell? ⟨w1.heap.size, 0, none⟩ = some (.int .i64 0) := cell_of_row _ _ _ _ _ _ (HX1.out)
  have u311 : u3.cell? ⟨w1.heap.size, 1, none⟩ = some (.int .i64 2) := cell_of_row _ _ _ _ _ _ (HX1.out)
  have u312 : u3.cell? ⟨w1.heap.size, 2, none⟩ = some (.slice (some ⟨b1, 0, none⟩) 4 4) := cell_of_row _ _ _ _ _ _ (HX1.out)
  have u313 : u3.cell? ⟨w1.heap.size, 3, none⟩ = some (.int .i64 2) := cell_of_row _ _ _ _ _ _ (HX1.out)
  have u314 : u3.cell? ⟨w1.heap.size, 4, none⟩ = some (.slice (some ⟨b1, 0, none⟩) 4 4) := cell_of_row _ _ _ _ _ _ (HX1.out)
  have u315 : u3.cell? ⟨w1.heap.size, 5, none⟩ = some (.slice (some ⟨bv, 0, none⟩) 1 1) := cell_of_row _ _ _ _ _ _ (HX1.out)
  have u316 : u3.cell? ⟨w1.heap.size, 6, none⟩ = some (.slice (some ⟨bj, 0, none⟩) 2 2) := cell_of_row _ _ _ _ _ _ (HX1.out)
  have u317 : u3.cell? ⟨w1.heap.size, 7, none⟩ = some (.slice none 0 0) := cell_of_row _ _ _ _ _ _ (HX1.out)
  have u320 : u3.cell? ⟨w2.heap.size, 0, none⟩ = some (.int .i64 0) := cell_of_row _ _ _ _ _ _ (HX8.out)
  have u321 : u3.cell? ⟨w2.heap.size, 1, none⟩ = some (.slice pa 3 pc) := cell_of_row _ _ _ _ _ _ (HX8.out)
  have u322 : u3.cell? ⟨w2.heap.size, 2, none⟩ = some (.int .i64 tm) := cell_of_row _ _ _ _ _ _ (HX8.out)
  have u323 : u3.cell? ⟨w2.heap.size, 3, none⟩ = some (.int .i64 ds) := cell_of_row _ _ _ _ _ _ (HX8.out)
  have u324 : u3.cell? ⟨w2.heap.size, 4, none⟩ = some (.int .i64 wt) := cell_of_row _ _ _ _ _ _ (HX8.out)
  have u325 : u3.cell? ⟨w2.heap.size, 5, none⟩ = some (.int .i64 sv) := cell_of_row _ _ _ _ _ _ (HX8.out)
  have u326 : u3.cell? ⟨w2.heap.size, 6, none⟩ = some (.int .i64 co) := cell_of_row _ _ _ _ _ _ (HX8.out)
  go_wp2_with (first | (go_at_call 13; refine (H13.out _ K3.out).mono ?_; rintro e u4 ⟨nb, rfl, hq, kk⟩; have K4 := hide kk; have HQ4 := hide hq; clear kk hq; clear u310 u311 u312 u313 u314 u315 u316 u317 u320 u321 u322 u323 u324 u325 u326; have u410 : u4.cell? ⟨w1.heap.size, 0, none⟩ = some (.int .i64 0) := cell_of_row _ _ _ _ _ _ ((K4.out.block _ (lt_of_block HX1.out)).trans HX1.out); have u411 : u4.cell? ⟨w1.heap.size, 1, none⟩ = some (.int .i64 2) := cell_of_row _ _ _ _ _ _ ((K4.out.block _ (lt_of_block HX1.out)).trans HX1.out); have u412 : u4.cell? ⟨w1.heap.size, 2, none⟩ = some (.slice (some ⟨b1, 0, none⟩) 4 4) := cell_of_row _ _ _ _ _ _ ((K4.out.block _ (lt_of_block HX1.out)).trans HX1.out); have u413 : u4.cell? ⟨w1.heap.size, 3, none⟩ = some (.int .i64 2) := cell_of_row _ _ _ _ _ _ ((K4.out.block _ (lt_of_block HX1.out)).trans HX1.out); have u414 : u4.cell? ⟨w1.heap.size, 4, none⟩ = some (.slice (some ⟨b1, 0, none⟩) 4 4) := cell_of_row _ _ _ _ _ _ ((K4.out.block _ (lt_of_block HX1.out)).trans HX1.out); have u415 : u4.cell? ⟨w1.heap.size, 5, none⟩ = some (.slice (some ⟨bv, 0, none⟩) 1 1) := cell_of_row _ _ _ _ _ _ ((K4.out.block _ (lt_of_block HX1.out)).trans HX1.out); have u416 : u4.cell? ⟨w1.heap.size, 6, none⟩ = some (.slice (some ⟨bj, 0, none⟩) 2 2) := cell_of_row _ _ _ _ _ _ ((K4.out.block _ (lt_of_block HX1.out)).trans HX1.out); have u417 : u4.cell? ⟨w1.heap.size, 7, none⟩ = some (.slice none 0 0) := cell_of_row _ _ _ _ _ _ ((K4.out.block _ (lt_of_block HX1.out)).trans HX1.out); have u420 : u4.cell? ⟨w2.heap.size, 0, none⟩ = some (.int .i64 0) := cell_of_row _ _ _ _ _ _ ((K4.out.block _ (lt_of_block HX8.out)).trans HX8.out); have u421 : u4.cell? ⟨w2.heap.size, 1, none⟩ = some (.slice pa 3 pc) := cell_of_row _ _ _ _ _ _ ((K4.out.block _ (lt_of_block HX8.out)).trans HX8.out); have u422 : u4.cell? ⟨w2.heap.size, 2, none⟩ = some (.int .i64 tm) := cell_of_row _ _ _ _ _ _ ((K4.out.block _ (lt_of_block HX8.out)).trans HX8.out); have u423 : u4.cell? ⟨w2.heap.size, 3, none⟩ = some (.int .i64 ds) := cell_of_row _ _ _ _ _ _ ((K4.out.block _ (lt_of_block HX8.out)).trans HX8.out); have u424 : u4.cell? ⟨w2.heap.size, 4, none⟩ = some (.int .i64 wt) := cell_of_row _ _ _ _ _ _ ((K4.out.block _ (lt_of_block HX8.out)).trans HX8.out); have u425 : u4.cell? ⟨w2.heap.size, 5, none⟩ = some (.int .i64 sv) := cell_of_row _ _ _ _ _ _ ((K4.out.block _ (lt_of_block HX8.out)).trans HX8.out); have u426 : u4.cell? ⟨w2.heap.size, 6, none⟩ = some (.int .i64 co) := cell_of_row _ _ _ _ _ _ ((K4.out.block _ (lt_of_block HX8.out)).trans HX8.out)) | (go_at_call 17; refine (H17.out _ (below_on K3.out K4.out)).mono ?_; rintro e u5 ⟨rfl, kk⟩; have K5 := hide (below_on K4.out kk); have HQ5 := hide (HQ4.out.later (Nat.le_refl _) kk); clear kk; clear u410 u411 u412 u413 u414 u415 u416 u417 u420 u421 u422 u423 u424 u425 u426; have r0 : u5.cell? ⟨nb, 0, none⟩ = some (.int .i64 30) := HQ5.out.cell 0 (by decide); have r1 : u5.cell? ⟨nb, 1, none⟩ = some (.int .i64 40) := HQ5.out.cell 1 (by decide); have r2 : u5.cell? ⟨nb, 2, none⟩ = some (.int .i64 100) := HQ5.out.cell 2 (by decide)) | fail)
  go_ret
  exact ⟨rfl, below_on HBW.out (below_on K2.out (below_on K3.out K5.out))⟩
end Go.Proofs.Ytndbikoccdjafaa
