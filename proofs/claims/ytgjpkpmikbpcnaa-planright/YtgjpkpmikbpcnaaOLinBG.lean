import Derived.Deep.RegionHeld3
import Derived.Test.YtgjpkpmikbpcnaaOFitE
set_option maxRecDepth 100000
set_option maxHeartbeats 6400000
namespace Go.Proofs.Ytgjpkpmikbpcnaa
open Go.RowKit
def yaW (b1 bv bj:Nat):aU:=⟨.slice (some ⟨b1,0,none⟩) 4 4,.slice (some ⟨b1,0,none⟩) 4 4,.slice (some ⟨bv,0,none⟩) 1 1,.slice (some ⟨bj,0,none⟩) 2 2,.slice none 0 0⟩
structure ygM (w:World) (b1 b3 bv bj:Nat):Prop where
 h1:w.heap[b1]? = some (.cells #[.int .i64 0,.int .i64 10,.int .i64 10,.int .i64 0] 3 (0,0))
 h3:w.heap[b3]? = some (.cells #[.int .i64 0,.int .i64 1000000] 61 (0,0))
 hv:w.heap[bv]? = some (.cells #[.int .i64 0,.int .i64 0,.slice none 0 0,.int .u64 0,.int .i64 0,.int .i64 1000000,.int .i64 0,.int .i64 1,.int .i64 0,.int .i64 12,.slice none 0 0] 86 (0,0))
 hj:w.heap[bj]? = some (.cells #[.int .i64 1,.int .i64 5,.slice (some ⟨b3,0,none⟩) 1 1,.slice none 0 0,.slice none 0 0,.int .u64 0,.int .i64 1,.int .i64 1,.int .i64 0,.slice (some ⟨b3,0,none⟩) 1 1,.slice none 0 0,.slice none 0 0,.int .u64 0,.int .i64 5] 67 (0,0))
theorem zP (w:World):Calls Try.prog 50 #[] w fun e w'=>∃ b1 b3 bv bj,e=.returned (.agg (aL tD (yaW b1 bv bj)))∧(ygM w' b1 b3 bv bj∧w.heap.size≤bj)∧Below w.heap.size w w':=by
 obtain ⟨W,hW⟩:∃ W,W=(((w.alloc (.cells #[.int .i64 0,.int .i64 0,.slice none 0 0,.int .i64 0,.slice none 0 0,.slice none 0 0,.slice none 0 0,.slice none 0 0] 29)).alloc (.cells #[.int .i64 0,.int .i64 10,.int .i64 10,.int .i64 0] 3)).alloc (.cells #[.int .i64 2,.slice (some ⟨w.heap.size+1,0,none⟩) 4 4] 24)).alloc (.cells #[.int .i64 0,.int .i64 1000000] 61):=⟨_,rfl⟩;have hsz:W.heap.size=w.heap.size+4:=by rw [hW];simp
 have HBW:Hid (Below w.heap.size w W):=by
  rw [hW];exact ((Mn.a.alloc (by simp) _).alloc (by simp;omega) _).alloc (by simp;omega) _
 have H1:Hid (W.heap[w.heap.size+1]? = some (.cells #[.int .i64 0,.int .i64 10,.int .i64 10,.int .i64 0] 3 (0,0))):=by
  show _=_;rw [hW,heap_alloc_old _ _ (by simp),heap_alloc_old _ _ (by simp)];exact heap_alloc2_new w _ _
 have H3:Hid (W.heap[w.heap.size+3]? = some (.cells #[.int .i64 0,.int .i64 1000000] 61 (0,0))):=by
  show _=_;rw [hW];have e:w.heap.size+3=(((w.alloc (.cells #[.int .i64 0,.int .i64 0,.slice none 0 0,.int .i64 0,.slice none 0 0,.slice none 0 0,.slice none 0 0,.slice none 0 0] 29)).alloc (.cells #[.int .i64 0,.int .i64 10,.int .i64 10,.int .i64 0] 3)).alloc (.cells #[.int .i64 2,.slice (some ⟨w.heap.size+1,0,none⟩) 4 4] 24)).heap.size:=by simp
  rw [e];exact heap_alloc_new _ _
 have h0:W.heap[w.heap.size]? = some (.cells #[.int .i64 0,.int .i64 0,.slice none 0 0,.int .i64 0,.slice none 0 0,.slice none 0 0,.slice none 0 0,.slice none 0 0] 29 (0,0)):=by
  rw [hW,heap_alloc_old _ _ (by simp;omega),heap_alloc_old _ _ (by simp;omega)];exact heap_alloc2_old w _ _
 have h2:W.heap[w.heap.size+2]? = some (.cells #[.int .i64 2,.slice (some ⟨w.heap.size+1,0,none⟩) 4 4] 24 (0,0)):=by
  rw [hW,heap_alloc_old _ _ (by simp)];have e:w.heap.size+2=((w.alloc (.cells #[.int .i64 0,.int .i64 0,.slice none 0 0,.int .i64 0,.slice none 0 0,.slice none 0 0,.slice none 0 0,.slice none 0 0] 29)).alloc (.cells #[.int .i64 0,.int .i64 10,.int .i64 10,.int .i64 0] 3)).heap.size:=by simp
  conv=>lhs;arg 2;rw [e]
  exact heap_alloc_new _ _
 obtain ⟨b0,hb0⟩:∃ b,w.heap.size=b:=⟨_,rfl⟩;rw [hb0] at H1 H3 h0 h2 hW hsz;have HB:=hide hb0;obtain ⟨N,hN⟩:∃ N,W.heap.size=N:=⟨_,rfl⟩;rw [hN] at hsz;have HSZ:=hide hsz;obtain ⟨c2,hc2⟩:∃ c,b0+1+1=c:=⟨_,rfl⟩;obtain ⟨c3,hc3⟩:∃ c,c2+1=c:=⟨_,rfl⟩;have HC3:=hide hc3;have d1:¬ b0=N:=by omega
 have d2:¬ b0=N+1:=by omega
 have d3:¬ c2=N:=by omega
 have d4:¬ c2=N+1:=by omega
 have d5:¬ c3=N:=by omega
 have d6:¬ c3=N+1:=by omega
 have e1:¬ N=b0:=by omega
 have e2:¬ N+1=b0:=by omega
 have e3:b0<N:=by omega
 have e4:b0<N+1:=by omega
 have e5:c2<N:=by omega
 have e6:c2<N+1:=by omega
 have e7:c3<N:=by omega
 have e8:c3<N+1:=by omega
 have d7:¬ c2=b0:=by omega
 have d8:¬ c3=b0:=by omega
 rw [show b0+2=c2 from hc2] at h2;rw [show b0+3=c3 by omega] at H3;clear hsz;have cs:∀ j u,(#[.int .i64 0,.int .i64 0,.slice none 0 0,.int .i64 0,.slice none 0 0,.slice none 0 0,.slice none 0 0,.slice none 0 0]:Array Value)[j]? = some u→W.cell? ⟨b0,j,none⟩=some u:=fun j u h=>by rw [cell_of_row _ _ _ _ _ _ h0];exact h
 have k0:=cs 0 _ rfl;have k1:=cs 1 _ rfl;have k2:=cs 2 _ rfl;have k3:=cs 3 _ rfl;have k4:=cs 4 _ rfl;have k5:=cs 5 _ rfl;have k6:=cs 6 _ rfl;have k7:=cs 7 _ rfl;have fz:∀ t,W.frozen? ⟨b0,t,none⟩=false:=fun t=>frozen_of_row W b0 t _ _ h0;have m0:W.cell? ⟨c2,0,none⟩=some (.int .i64 2):=by rw [cell_of_row _ _ _ _ _ _ h2];rfl
 have m1:W.cell? ⟨c2,1,none⟩=some (.slice (some ⟨b0+1,0,none⟩) 4 4):=by rw [cell_of_row _ _ _ _ _ _ h2];rfl
 have m2:W.cell? ⟨c3,0,none⟩=some (.int .i64 0):=by rw [cell_of_row _ _ _ _ _ _ H3.out];rfl
 have m3:W.cell? ⟨c3,1,none⟩=some (.int .i64 1000000):=by rw [cell_of_row _ _ _ _ _ _ H3.out];rfl
 clear cs;have HC2:=hide hc2;go_enter Try.func50,Try.ntmps50;go_wp2;rw [← hW];clear hW hb0 hc2 hc3
 go_region_held3 (fun w'=>w'.cell? ⟨c2,0,none⟩=some (.int .i64 2)∧w'.cell? ⟨c2,1,none⟩=some (.slice (some ⟨b0+1,0,none⟩) 4 4)∧w'.cell? ⟨c3,0,none⟩=some (.int .i64 0)∧w'.cell? ⟨c3,1,none⟩=some (.int .i64 1000000)) (first | (go_keep;done) | ((try dsimp only);refine ⟨?_,?_,?_,?_⟩ <;> (refine bB (w:=W) ?_ (by assumption);(repeat (first | rw [heap_drew] | rw [heap_alloc_old _ _ (by simp;omega)] | rw [heap_setCell_other _ _ _ _ (by simp;omega)]))))) (fail)
 all_goals rename_i hHeld
 all_goals clear hHeld
 all_goals go_wp2
 ·obtain ⟨q1,q2,q3⟩:=put8 (.int .i64 0) (.int .i64 2) (.slice (some ⟨b0+1,0,none⟩) 4 4) (.int .i64 2) (.slice (some ⟨b0+1,0,none⟩) 4 4) (.slice (some ⟨N,0,none⟩) 1 1) (.slice (some ⟨N+1,0,none⟩) 2 2) (.slice none 0 0) h0;have HBX:Hid (Below b0 W ((((((((W.setCell ⟨b0,0,none⟩ (.int .i64 0)).setCell ⟨b0,1,none⟩ (.int .i64 2)).setCell ⟨b0,2,none⟩ (.slice (some ⟨b0+1,0,none⟩) 4 4)).setCell ⟨b0,3,none⟩ (.int .i64 2)).setCell ⟨b0,4,none⟩ (.slice (some ⟨b0+1,0,none⟩) 4 4)).setCell ⟨b0,5,none⟩ (.slice (some ⟨N,0,none⟩) 1 1)).setCell ⟨b0,6,none⟩ (.slice (some ⟨N+1,0,none⟩) 2 2)).setCell ⟨b0,7,none⟩ (.slice none 0 0))):=((((((((Below.refl b0 W).setCell (Nat.le_refl _) _).setCell (Nat.le_refl _) _).setCell (Nat.le_refl _) _).setCell (Nat.le_refl _) _).setCell (Nat.le_refl _) _).setCell (Nat.le_refl _) _).setCell (Nat.le_refl _) _).setCell (Nat.le_refl _) _
  generalize ((((((((W.setCell ⟨b0,0,none⟩ (.int .i64 0)).setCell ⟨b0,1,none⟩ (.int .i64 2)).setCell ⟨b0,2,none⟩ (.slice (some ⟨b0+1,0,none⟩) 4 4)).setCell ⟨b0,3,none⟩ (.int .i64 2)).setCell ⟨b0,4,none⟩ (.slice (some ⟨b0+1,0,none⟩) 4 4)).setCell ⟨b0,5,none⟩ (.slice (some ⟨N,0,none⟩) 1 1)).setCell ⟨b0,6,none⟩ (.slice (some ⟨N+1,0,none⟩) 2 2)).setCell ⟨b0,7,none⟩ (.slice none 0 0))=X at *
  rw [hN] at q2;have HBY:Hid (∀ A B,Below b0 W ((X.alloc A).alloc B).drew):=fun A B=>((HBX.out.alloc (by omega) A).alloc (by simp;omega) B).drew;obtain ⟨p1,p2,p3⟩:=sF q2 (.cells #[.int .i64 0,.int .i64 0,.slice none 0 0,.int .u64 0,.int .i64 0,.int .i64 1000000,.int .i64 0,.int .i64 1,.int .i64 0,.int .i64 12,.slice none 0 0] 86) (.cells #[.int .i64 1,.int .i64 5,.slice (some ⟨c3,0,none⟩) 1 1,.slice none 0 0,.slice none 0 0,.int .u64 0,.int .i64 1,.int .i64 1,.int .i64 0,.slice (some ⟨c3,0,none⟩) 1 1,.slice none 0 0,.slice none 0 0,.int .u64 0,.int .i64 5] 67);have HBZ:=hide (HBY.out (.cells #[.int .i64 0,.int .i64 0,.slice none 0 0,.int .u64 0,.int .i64 0,.int .i64 1000000,.int .i64 0,.int .i64 1,.int .i64 0,.int .i64 12,.slice none 0 0] 86) (.cells #[.int .i64 1,.int .i64 5,.slice (some ⟨c3,0,none⟩) 1 1,.slice none 0 0,.slice none 0 0,.int .u64 0,.int .i64 1,.int .i64 1,.int .i64 0,.slice (some ⟨c3,0,none⟩) 1 1,.slice none 0 0,.slice none 0 0,.int .u64 0,.int .i64 5] 67))
  generalize ((X.alloc (.cells #[.int .i64 0,.int .i64 0,.slice none 0 0,.int .u64 0,.int .i64 0,.int .i64 1000000,.int .i64 0,.int .i64 1,.int .i64 0,.int .i64 12,.slice none 0 0] 86)).alloc (.cells #[.int .i64 1,.int .i64 5,.slice (some ⟨c3,0,none⟩) 1 1,.slice none 0 0,.slice none 0 0,.int .u64 0,.int .i64 1,.int .i64 1,.int .i64 0,.slice (some ⟨c3,0,none⟩) 1 1,.slice none 0 0,.slice none 0 0,.int .u64 0,.int .i64 5] 67)).drew=Y at *
  have z0:=p3 b0 (by omega);rw [q1] at z0;refine bodyPost_ret (v:=.agg (aL tD ⟨.slice (some ⟨b0+1,0,none⟩) 4 4,.slice (some ⟨b0+1,0,none⟩) 4 4,.slice (some ⟨N,0,none⟩) 1 1,.slice (some ⟨N+1,0,none⟩) 2 2,.slice none 0 0⟩)) ?_ rfl ⟨b0+1,c3,N,N+1,rfl,⟨⟨?_,?_,?_,?_⟩,by have:=HB.out;have:=HSZ.out;omega⟩,?_⟩
  ·have cs:∀ j,Y.cell? ⟨b0,j,none⟩=(#[.int .i64 0,.int .i64 2,.slice (some ⟨b0+1,0,none⟩) 4 4,.int .i64 2,.slice (some ⟨b0+1,0,none⟩) 4 4,.slice (some ⟨N,0,none⟩) 1 1,.slice (some ⟨N+1,0,none⟩) 2 2,.slice none 0 0]:Array Value)[j]?:=fun j=>cell_of_row _ _ _ _ _ _ z0
   simp [results,Try.results50,go_sem,cs,aL,tD,tE]
  ·rw [p3 _ (by have:=HSZ.out;omega),q3 _ (by omega)];exact H1.out
  ·rw [p3 _ (by omega),q3 _ d8];exact H3.out
  ·exact p1
  ·exact p2
  ·have:=HBZ.out;rw [← HB.out] at this;exact HBW.out.trans (this.mono (Nat.le_refl _))
 ·obtain ⟨q1,q2,q3⟩:=put8 (.int .i64 0) (.int .i64 2) (.slice (some ⟨b0+1,0,none⟩) 4 4) (.int .i64 2) (.slice (some ⟨b0+1,0,none⟩) 4 4) (.slice (some ⟨N+1,0,none⟩) 1 1) (.slice (some ⟨N,0,none⟩) 2 2) (.slice none 0 0) h0;have HBX:Hid (Below b0 W ((((((((W.setCell ⟨b0,0,none⟩ (.int .i64 0)).setCell ⟨b0,1,none⟩ (.int .i64 2)).setCell ⟨b0,2,none⟩ (.slice (some ⟨b0+1,0,none⟩) 4 4)).setCell ⟨b0,3,none⟩ (.int .i64 2)).setCell ⟨b0,4,none⟩ (.slice (some ⟨b0+1,0,none⟩) 4 4)).setCell ⟨b0,5,none⟩ (.slice (some ⟨N+1,0,none⟩) 1 1)).setCell ⟨b0,6,none⟩ (.slice (some ⟨N,0,none⟩) 2 2)).setCell ⟨b0,7,none⟩ (.slice none 0 0))):=((((((((Below.refl b0 W).setCell (Nat.le_refl _) _).setCell (Nat.le_refl _) _).setCell (Nat.le_refl _) _).setCell (Nat.le_refl _) _).setCell (Nat.le_refl _) _).setCell (Nat.le_refl _) _).setCell (Nat.le_refl _) _).setCell (Nat.le_refl _) _
  generalize ((((((((W.setCell ⟨b0,0,none⟩ (.int .i64 0)).setCell ⟨b0,1,none⟩ (.int .i64 2)).setCell ⟨b0,2,none⟩ (.slice (some ⟨b0+1,0,none⟩) 4 4)).setCell ⟨b0,3,none⟩ (.int .i64 2)).setCell ⟨b0,4,none⟩ (.slice (some ⟨b0+1,0,none⟩) 4 4)).setCell ⟨b0,5,none⟩ (.slice (some ⟨N+1,0,none⟩) 1 1)).setCell ⟨b0,6,none⟩ (.slice (some ⟨N,0,none⟩) 2 2)).setCell ⟨b0,7,none⟩ (.slice none 0 0))=X at *
  rw [hN] at q2;have HBY:Hid (∀ A B,Below b0 W ((X.alloc A).alloc B).drew):=fun A B=>((HBX.out.alloc (by omega) A).alloc (by simp;omega) B).drew;obtain ⟨p1,p2,p3⟩:=sF q2 (.cells #[.int .i64 1,.int .i64 5,.slice (some ⟨c3,0,none⟩) 1 1,.slice none 0 0,.slice none 0 0,.int .u64 0,.int .i64 1,.int .i64 1,.int .i64 0,.slice (some ⟨c3,0,none⟩) 1 1,.slice none 0 0,.slice none 0 0,.int .u64 0,.int .i64 5] 67) (.cells #[.int .i64 0,.int .i64 0,.slice none 0 0,.int .u64 0,.int .i64 0,.int .i64 1000000,.int .i64 0,.int .i64 1,.int .i64 0,.int .i64 12,.slice none 0 0] 86);have HBZ:=hide (HBY.out (.cells #[.int .i64 1,.int .i64 5,.slice (some ⟨c3,0,none⟩) 1 1,.slice none 0 0,.slice none 0 0,.int .u64 0,.int .i64 1,.int .i64 1,.int .i64 0,.slice (some ⟨c3,0,none⟩) 1 1,.slice none 0 0,.slice none 0 0,.int .u64 0,.int .i64 5] 67) (.cells #[.int .i64 0,.int .i64 0,.slice none 0 0,.int .u64 0,.int .i64 0,.int .i64 1000000,.int .i64 0,.int .i64 1,.int .i64 0,.int .i64 12,.slice none 0 0] 86))
  generalize ((X.alloc (.cells #[.int .i64 1,.int .i64 5,.slice (some ⟨c3,0,none⟩) 1 1,.slice none 0 0,.slice none 0 0,.int .u64 0,.int .i64 1,.int .i64 1,.int .i64 0,.slice (some ⟨c3,0,none⟩) 1 1,.slice none 0 0,.slice none 0 0,.int .u64 0,.int .i64 5] 67)).alloc (.cells #[.int .i64 0,.int .i64 0,.slice none 0 0,.int .u64 0,.int .i64 0,.int .i64 1000000,.int .i64 0,.int .i64 1,.int .i64 0,.int .i64 12,.slice none 0 0] 86)).drew=Y at *
  have z0:=p3 b0 (by omega);rw [q1] at z0;refine bodyPost_ret (v:=.agg (aL tD ⟨.slice (some ⟨b0+1,0,none⟩) 4 4,.slice (some ⟨b0+1,0,none⟩) 4 4,.slice (some ⟨N+1,0,none⟩) 1 1,.slice (some ⟨N,0,none⟩) 2 2,.slice none 0 0⟩)) ?_ rfl ⟨b0+1,c3,N+1,N,rfl,⟨⟨?_,?_,?_,?_⟩,by have:=HB.out;have:=HSZ.out;omega⟩,?_⟩
  ·have cs:∀ j,Y.cell? ⟨b0,j,none⟩=(#[.int .i64 0,.int .i64 2,.slice (some ⟨b0+1,0,none⟩) 4 4,.int .i64 2,.slice (some ⟨b0+1,0,none⟩) 4 4,.slice (some ⟨N+1,0,none⟩) 1 1,.slice (some ⟨N,0,none⟩) 2 2,.slice none 0 0]:Array Value)[j]?:=fun j=>cell_of_row _ _ _ _ _ _ z0
   simp [results,Try.results50,go_sem,cs,aL,tD,tE]
  ·rw [p3 _ (by have:=HSZ.out;omega),q3 _ (by omega)];exact H1.out
  ·rw [p3 _ (by omega),q3 _ d8];exact H3.out
  ·exact p2
  ·exact p1
  ·have:=HBZ.out;rw [← HB.out] at this;exact HBW.out.trans (this.mono (Nat.le_refl _))
def j8:Prb:=⟨0,tE,tE,[⟨0,0,[],0,(0,1000000),0,1,0,12,[]⟩],[⟨⟨1,5,[(30,40)]⟩,[],[],0,1⟩,⟨⟨1,0,tB⟩,[],[],0,5⟩],[]⟩
theorem ycI {w:World} {b1 b3 b4 bv bj:Nat} (h4:w.heap[b4]? = some (.cells #[.int .i64 30,.int .i64 40] 61 (0,0))) (h1:w.heap[b1]? = some (.cells #[.int .i64 0,.int .i64 10,.int .i64 10,.int .i64 0] 3 (0,0))) (h3:w.heap[b3]? = some (.cells #[.int .i64 0,.int .i64 1000000] 61 (0,0)))
  (hv:w.heap[bv]? = some (.cells #[.int .i64 0,.int .i64 0,.slice none 0 0,.int .u64 0,.int .i64 0,.int .i64 1000000,.int .i64 0,.int .i64 1,.int .i64 0,.int .i64 12,.slice none 0 0] 86 (0,0))) (hj:w.heap[bj]? = some (.cells #[.int .i64 1,.int .i64 5,.slice (some ⟨b4,0,none⟩) 1 1,.slice none 0 0,.slice none 0 0,.int .u64 0,.int .i64 1,.int .i64 1,.int .i64 0,.slice (some ⟨b3,0,none⟩) 1 1,.slice none 0 0,.slice none 0 0,.int .u64 0,.int .i64 5] 67 (0,0))) :
  PrbV w ⟨.slice (some ⟨b1,0,none⟩) 4 4,.slice (some ⟨b1,0,none⟩) 4 4,.slice (some ⟨bv,0,none⟩) 1 1,.slice (some ⟨bj,0,none⟩) 2 2,.slice none 0 0⟩ j8:=by
 have hI:IntsV w (.slice (some ⟨b1,0,none⟩) 4 4) [0,10,10,0]:=by
  refine ⟨_,4,rfl,(fun e=>by cases e),by decide,fun k hk=>⟨b1,0,rfl,?_⟩⟩;rw [cell_of_row _ _ _ _ _ _ h1];have:k=0∨k=1∨k=2∨k=3:=by simp at hk;omega
  rcases this with rfl | rfl | rfl | rfl <;> rfl
 have hW:WinsV w (.slice (some ⟨b3,0,none⟩) 1 1) tB:=by
  refine ⟨_,1,rfl,(fun e=>by cases e),rfl,by decide,fun k hk=>⟨b3,0,rfl,?_⟩⟩;have:k=0:=by simp [tB] at hk;omega
  subst this;exact ⟨by rw [cell_of_row _ _ _ _ _ _ h3];rfl,by rw [cell_of_row _ _ _ _ _ _ h3];rfl⟩
 have hW4:WinsV w (.slice (some ⟨b4,0,none⟩) 1 1) [(30,40)]:=by
  refine ⟨_,1,rfl,(fun e=>by cases e),rfl,by decide,fun k hk=>⟨b4,0,rfl,?_⟩⟩;have:k=0:=by simp at hk;omega
  subst this;exact ⟨by rw [cell_of_row _ _ _ _ _ _ h4];rfl,by rw [cell_of_row _ _ _ _ _ _ h4];rfl⟩
 have wd0:Wd 0:=⟨by decide,by decide⟩;refine ⟨hI,hI,?_,?_,yd8 w⟩
 ·refine ⟨_,1,rfl,(fun e=>by cases e),by decide,fun k hk=>?_⟩;have:k=0:=by simp [j8] at hk;omega
  subst this;refine ⟨bv,0,kF ⟨0,0,[],0,(0,1000000),0,1,0,12,[]⟩ (.slice none 0 0) (.slice none 0 0),rfl,rfl,fun j hj=>?_,⟨_,_,rfl,kQ w,yf9 w,wd0⟩⟩;rw [cell_of_row _ _ _ _ _ _ hv]
  simp [kF]
 ·refine ⟨_,2,rfl,(fun e=>by cases e),by decide,fun k hk=>?_⟩;have:k=0∨k=1:=by simp [j8] at hk;omega
  rcases this with rfl | rfl
  ·refine ⟨bj,0,pH ⟨⟨1,5,[(30,40)]⟩,[],[],0,1⟩ (.slice (some ⟨b4,0,none⟩) 1 1) (.slice none 0 0) (.slice none 0 0),rfl,rfl,fun j hj2=>?_,⟨_,_,_,rfl,hW4,kQ w,kQ w,wd0⟩⟩;rw [cell_of_row _ _ _ _ _ _ hj];have:j=0∨j=1∨j=2∨j=3∨j=4∨j=5∨j=6:=by omega
   rcases this with rfl | rfl | rfl | rfl | rfl | rfl | rfl <;> rfl
  ·refine ⟨bj,0,pH ⟨⟨1,0,tB⟩,[],[],0,5⟩ (.slice (some ⟨b3,0,none⟩) 1 1) (.slice none 0 0) (.slice none 0 0),rfl,rfl,fun j hj2=>?_,⟨_,_,_,rfl,hW,kQ w,kQ w,wd0⟩⟩;rw [cell_of_row _ _ _ _ _ _ hj];have:j=0∨j=1∨j=2∨j=3∨j=4∨j=5∨j=6:=by omega
   rcases this with rfl | rfl | rfl | rfl | rfl | rfl | rfl <;> rfl
theorem ycJ:aY j8=true:=by kernel_rfl
theorem ye1:ofE j8 0 (dO j8 0 [(1,0)])=0:=by kernel_rfl
theorem lineQ_e:mD j8 0 [(1,0)]=0:=by kernel_rfl
theorem lineQ_p:((kB j8 0 [(1,0)]).steps.map fun s=>(s.arr,s.wait))=[(0,0),(10,20),(45,0)]∧(kB j8 0 [(1,0)]).cost=20:=⟨by kernel_rfl,by kernel_rfl⟩
end Go.Proofs.Ytgjpkpmikbpcnaa
namespace Go.Proofs.Ytgjpkpmikbpcnaa
open Go.RowKit
theorem zO {w1:World} {b1 b3 bv bj:Nat} (h:ygM w1 b1 b3 bv bj) :
  PrbV ((((w1.setCell ⟨bj,2,none⟩ (.slice (some ⟨w1.heap.size+1,0,none⟩) 1 1)).alloc (.cells #[.int .i64 0,.int .i64 2,.slice (some ⟨b1,0,none⟩) 4 4,.int .i64 2,.slice (some ⟨b1,0,none⟩) 4 4,.slice (some ⟨bv,0,none⟩) 1 1,.slice (some ⟨bj,0,none⟩) 2 2,.slice none 0 0] 29)).alloc (.cells #[.int .i64 30,.int .i64 40] 61)).alloc (.cells #[.int .i64 1,.int .i64 0] 34)) (yaW b1 bv bj) j8∧VsV ((((w1.setCell ⟨bj,2,none⟩ (.slice (some ⟨w1.heap.size+1,0,none⟩) 1 1)).alloc (.cells #[.int .i64 0,.int .i64 2,.slice (some ⟨b1,0,none⟩) 4 4,.int .i64 2,.slice (some ⟨b1,0,none⟩) 4 4,.slice (some ⟨bv,0,none⟩) 1 1,.slice (some ⟨bj,0,none⟩) 2 2,.slice none 0 0] 29)).alloc (.cells #[.int .i64 30,.int .i64 40] 61)).alloc (.cells #[.int .i64 1,.int .i64 0] 34)) (.slice (some ⟨w1.heap.size+1+1,0,none⟩) 1 1) [(1,0)]∧(∀ B,B≤bj→B≤w1.heap.size→Below B w1 ((((w1.setCell ⟨bj,2,none⟩ (.slice (some ⟨w1.heap.size+1,0,none⟩) 1 1)).alloc (.cells #[.int .i64 0,.int .i64 2,.slice (some ⟨b1,0,none⟩) 4 4,.int .i64 2,.slice (some ⟨b1,0,none⟩) 4 4,.slice (some ⟨bv,0,none⟩) 1 1,.slice (some ⟨bj,0,none⟩) 2 2,.slice none 0 0] 29)).alloc (.cells #[.int .i64 30,.int .i64 40] 61)).alloc (.cells #[.int .i64 1,.int .i64 0] 34)))∧((((w1.setCell ⟨bj,2,none⟩ (.slice (some ⟨w1.heap.size+1,0,none⟩) 1 1)).alloc (.cells #[.int .i64 0,.int .i64 2,.slice (some ⟨b1,0,none⟩) 4 4,.int .i64 2,.slice (some ⟨b1,0,none⟩) 4 4,.slice (some ⟨bv,0,none⟩) 1 1,.slice (some ⟨bj,0,none⟩) 2 2,.slice none 0 0] 29)).alloc (.cells #[.int .i64 30,.int .i64 40] 61)).alloc (.cells #[.int .i64 1,.int .i64 0] 34)).heap.size=w1.heap.size+3∧∀ j,((((w1.setCell ⟨bj,2,none⟩ (.slice (some ⟨w1.heap.size+1,0,none⟩) 1 1)).alloc (.cells #[.int .i64 0,.int .i64 2,.slice (some ⟨b1,0,none⟩) 4 4,.int .i64 2,.slice (some ⟨b1,0,none⟩) 4 4,.slice (some ⟨bv,0,none⟩) 1 1,.slice (some ⟨bj,0,none⟩) 2 2,.slice none 0 0] 29)).alloc (.cells #[.int .i64 30,.int .i64 40] 61)).alloc (.cells #[.int .i64 1,.int .i64 0] 34)).cell? ⟨w1.heap.size,j,none⟩=(#[.int .i64 0,.int .i64 2,.slice (some ⟨b1,0,none⟩) 4 4,.int .i64 2,.slice (some ⟨b1,0,none⟩) 4 4,.slice (some ⟨bv,0,none⟩) 1 1,.slice (some ⟨bj,0,none⟩) 2 2,.slice none 0 0]:Array Value)[j]?:=by
 have l1:=aD h.h1;have l3:=aD h.h3;have lv:=aD h.hv;have lj:=aD h.hj;have n1:b1≠bj:=fun e=>by have:=h.h1;rw [e,h.hj] at this;simp at this
 have n3:b3≠bj:=fun e=>by have:=h.h3;rw [e,h.hj] at this;simp at this
 have nv:bv≠bj:=fun e=>by have:=h.hv;rw [e,h.hj] at this;simp at this
 obtain ⟨C,hC⟩:∃ C,C=w1.setCell ⟨bj,2,none⟩ (.slice (some ⟨w1.heap.size+1,0,none⟩) 1 1):=⟨_,rfl⟩;have sC:C.heap.size=w1.heap.size:=by rw [hC];simp
 have oC:∀ q,q≠bj→C.heap[q]? = w1.heap[q]?:=fun q hq=>by rw [hC];exact heap_setCell_other _ _ _ _ hq
 have jC:=heap_setCell_same w1 bj 2 _ _ (.slice (some ⟨w1.heap.size+1,0,none⟩) 1 1) h.hj;rw [← hC] at jC ⊢;obtain ⟨A,hA⟩:∃ A,A=(C.alloc (.cells #[.int .i64 0,.int .i64 2,.slice (some ⟨b1,0,none⟩) 4 4,.int .i64 2,.slice (some ⟨b1,0,none⟩) 4 4,.slice (some ⟨bv,0,none⟩) 1 1,.slice (some ⟨bj,0,none⟩) 2 2,.slice none 0 0] 29)).alloc (.cells #[.int .i64 30,.int .i64 40] 61):=⟨_,rfl⟩;have sA:A.heap.size=w1.heap.size+2:=by rw [hA];simp [sC]
 have oA:∀ q,q<w1.heap.size→A.heap[q]? = C.heap[q]?:=fun q hq=>by rw [hA,heap_alloc_old _ _ (by simp;omega),heap_alloc_old _ _ (by omega)]
 have bA:A.heap[w1.heap.size]? = some (.cells #[.int .i64 0,.int .i64 2,.slice (some ⟨b1,0,none⟩) 4 4,.int .i64 2,.slice (some ⟨b1,0,none⟩) 4 4,.slice (some ⟨bv,0,none⟩) 1 1,.slice (some ⟨bj,0,none⟩) 2 2,.slice none 0 0] 29):=by rw [hA,heap_alloc_old _ _ (by simp;omega),← sC,heap_alloc_new]
 have wA:A.heap[w1.heap.size+1]? = some (.cells #[.int .i64 30,.int .i64 40] 61):=by
  have:=heap_alloc_new (C.alloc (.cells #[.int .i64 0,.int .i64 2,.slice (some ⟨b1,0,none⟩) 4 4,.int .i64 2,.slice (some ⟨b1,0,none⟩) 4 4,.slice (some ⟨bv,0,none⟩) 1 1,.slice (some ⟨bj,0,none⟩) 2 2,.slice none 0 0] 29)) (.cells #[.int .i64 30,.int .i64 40] 61);rw [← hA] at this
  simpa [sC] using this
 rw [← hA];have bX:∀ q,q<w1.heap.size+2→(A.alloc (.cells #[.int .i64 1,.int .i64 0] 34)).heap[q]? = A.heap[q]?:=fun q hq=>heap_alloc_old _ _ (by omega);refine ⟨?_,?_,fun B h1 h2=>?_,?_,fun j=>?_⟩
 ·refine ycI (b3:=b3) (b4:=w1.heap.size+1) ?_ ?_ ?_ ?_ ?_
  ·rw [bX _ (by omega)];exact wA
  ·rw [bX _ (by omega),oA _ l1,oC _ n1];exact h.h1
  ·rw [bX _ (by omega),oA _ l3,oC _ n3];exact h.h3
  ·rw [bX _ (by omega),oA _ lv,oC _ nv];exact h.hv
  ·rw [bX _ (by omega),oA _ lj,jC];rfl
 ·have e:=heap_alloc_new A (.cells #[.int .i64 1,.int .i64 0] 34);rw [sA] at e;refine ⟨_,1,rfl,by decide,fun k hk=>⟨w1.heap.size+1+1,0,rfl,?_⟩⟩;have:k=0:=by simp at hk;omega
  subst this;exact ⟨by rw [cell_of_row _ _ _ _ _ _ e];rfl,by rw [cell_of_row _ _ _ _ _ _ e];rfl⟩
 ·rw [hA,hC];exact (((((Below.refl B w1).setCell h1 _).alloc (by simp;omega) _).alloc (by simp;omega) _).alloc (by simp;omega) _)
 ·simp [sA]
 ·have e9:(A.alloc (.cells #[.int .i64 1,.int .i64 0] 34)).heap[w1.heap.size]? = some (.cells #[.int .i64 0,.int .i64 2,.slice (some ⟨b1,0,none⟩) 4 4,.int .i64 2,.slice (some ⟨b1,0,none⟩) 4 4,.slice (some ⟨bv,0,none⟩) 1 1,.slice (some ⟨bj,0,none⟩) 2 2,.slice none 0 0] 29):=by
   rw [bX _ (by omega)];exact bA
  exact cell_of_row _ _ _ _ _ _ e9
theorem ydZ {L:List gA} (h:L.map (fun s=>(s.arr,s.wait))=[(0,0),(10,20),(45,0)]):∃ s0 s1 s2,L=[s0,s1,s2]∧s1.arr=10∧s1.wait=20∧s2.arr=45:=by
 rcases L with _ | ⟨s0,_ | ⟨s1,_ | ⟨s2,_ | ⟨s3,L⟩⟩⟩⟩
 ·simp at h
 ·simp at h
 ·simp at h
 ·simp at h;exact ⟨s0,s1,s2,rfl,h.2.1.1,h.2.1.2,h.2.2.1⟩
 ·simp at h
theorem eH (w:World):Calls Try.prog 35 #[] w fun e w'=>e=.returned (.bool true)∧Below w.heap.size w w':=by
 go_enter Try.func35,Try.ntmps35;go_wp2_with (first | (go_at_call 50;refine (zP _).mono ?_;rintro e w1 ⟨b1,b3,bv,bj,rfl,⟨hA,hbj⟩,k1⟩;rw [show aL tD (yaW b1 bv bj)=#[.int .i64 0,.int .i64 2,.slice (some ⟨b1,0,none⟩) 4 4,.int .i64 2,.slice (some ⟨b1,0,none⟩) 4 4,.slice (some ⟨bv,0,none⟩) 1 1,.slice (some ⟨bj,0,none⟩) 2 2,.slice none 0 0] from rfl];have K1:=hide k1;have HA:=hide hA;have lj:bj<w1.heap.size:=aD hA.hj;have c2:w1.cell? ⟨bj,2,none⟩=some (.slice (some ⟨b3,0,none⟩) 1 1):=cell_of_row _ _ _ _ _ _ hA.hj;have f2:w1.frozen? ⟨bj,2,none⟩=false:=pQ hA.hj;have m0:¬ bj=w1.heap.size:=(by omega);have m1:¬ bj=w1.heap.size+1:=(by omega);have HBJ:=hide hbj;clear k1 hA hbj) | fail);obtain ⟨hp,hv,hbl,hsz,_⟩:=zO HA.out;have HBL:=hide (hbl w.heap.size HBJ.out K1.out.size)
 generalize hX:(((w1.setCell ⟨bj,2,none⟩ (.slice (some ⟨w1.heap.size+1,0,none⟩) 1 1)).alloc (.cells #[.int .i64 0,.int .i64 2,.slice (some ⟨b1,0,none⟩) 4 4,.int .i64 2,.slice (some ⟨b1,0,none⟩) 4 4,.slice (some ⟨bv,0,none⟩) 1 1,.slice (some ⟨bj,0,none⟩) 2 2,.slice none 0 0] 29)).alloc (.cells #[.int .i64 30,.int .i64 40] 61)).alloc (.cells #[.int .i64 1,.int .i64 0] 34)=X at hp hv HBL hsz ⊢
 clear hX hbl;have h9:=xR (vi:=0) (V:=[(1,0)]) hp ycJ hv rfl (by decide) (by decide) (fun _ _=>by rw [ye1];decide);rw [show aL j8 (yaW b1 bv bj)=#[.int .i64 0,.int .i64 2,.slice (some ⟨b1,0,none⟩) 4 4,.int .i64 2,.slice (some ⟨b1,0,none⟩) 4 4,.slice (some ⟨bv,0,none⟩) 1 1,.slice (some ⟨bj,0,none⟩) 2 2,.slice none 0 0] from rfl] at h9;refine h9.mono ?_;rintro e w2 ⟨v2,rfl,hp2,k2⟩;rw [lineQ_e];have K2:=hide k2;clear h9 hp hv;obtain ⟨PL,hPL⟩:∃ PL,kB j8 0 [(1,0)]=PL:=⟨_,rfl⟩;have hq:=lineQ_p;rw [hPL] at hp2 hq;clear hPL;obtain ⟨hq1,hq2⟩:=hq;obtain ⟨pa,pn,pc,ys,rfl,hr,hs,hn⟩:=hp2
 obtain ⟨s0,s1,s2,hst,a1,wt1,a2⟩:∃ s0 s1 s2,PL.steps=[s0,s1,s2]∧s1.arr=10∧s1.wait=20∧s2.arr=45:=by
  exact ydZ hq1
 rw [hst] at hr hn;simp at hn;subst hn;obtain ⟨y1,g,cap,hy1,hg,_,hgl⟩:=RowS.some hr (k:=1) rfl;injection hg with hg1 _ hg3;subst hg1 hg3;have enc9:∀ (s:gA) (y:Value),(oO s y).length=9:=fun _ _=>rfl;have c12:w2.cell? ⟨g,12,none⟩=some (.int .i64 10):=by have:=RowS.cells enc9 hr (k:=1) rfl hy1 3 (by decide);rw [a1.symm];exact this
 have c13:w2.cell? ⟨g,13,none⟩=some (.int .i64 20):=by have:=RowS.cells enc9 hr (k:=1) rfl hy1 4 (by decide);rw [wt1.symm];exact this
 have c21:w2.cell? ⟨g,21,none⟩=some (.int .i64 45):=by
  obtain ⟨y2,g',cap',hy2,hg',_,_⟩:=RowS.some hr (k:=2) rfl;have:=RowS.cells enc9 hr (k:=2) rfl hy2 3 (by decide);rw [a2.symm];exact this
 have mg:¬ g=w2.heap.size:=by omega
 unfold bV;rw [hq2];clear hr hs hq1 hq2 hst a1 wt1 a2 hy1 k2;go_wp2_with fail;go_ret;exact ⟨rfl,below_on (below_on (K1.out.trans HBL.out) K2.out) Mn.a⟩
end Go.Proofs.Ytgjpkpmikbpcnaa
