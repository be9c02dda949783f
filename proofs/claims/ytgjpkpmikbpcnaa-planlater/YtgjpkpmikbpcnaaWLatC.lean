/-
  A problem's copy whose vehicle k begins its shift later, in memory.
-/
import Derived.Test.YtgjpkpmikbpcnaaWLatP
import Derived.Test.YtgjpkpmikbpcnaaXCpVG
import Derived.Test.YtgjpkpmikbpcnaaXTStp
import Derived.Test.YtgjpkpmikbpcnaaWRFt
import Derived.Test.YtgjpkpmikbpcnaaXCpX
import Derived.Test.YtgjpkpmikbpcnaaXCelG
namespace Go.Proofs.Ytgjpkpmikbpcnaa
open Go.RowKit
theorem set_cell {w : World} {g n j t : Nat} {A : Array Value} {v : Value} (h : w.heap[g]? = some (.cells A t (0,0))) (hn : n < A.size) : (w.setCell ⟨g,n,none⟩ v).cell? ⟨g,j,none⟩ = if n = j then some v else w.cell? ⟨g,j,none⟩ := by
 rw [cell_of_row _ _ _ _ _ _ (heap_setCell_same w g n _ _ v h),cell_of_row _ _ _ _ _ _ h,Array.getElem?_setIfInBounds]
 by_cases e : n = j
 ·rw [if_pos e,if_pos e,if_pos hn]
 ·rw [if_neg e,if_neg e]
theorem later_close {w3 : World} {base gv gj gs k c : Nat} {y : Int} {p : Prb} {x : PrbS} (hF : CpF w3 base gv gj gs p x) (hk : k < p.vs.length) (hv : x.v = .slice (some ⟨gv,0,none⟩) p.vs.length c) : PrbV (w3.setCell ⟨gv,k * 11 + 4,none⟩ (.int .i64 y)) x (laterP p k y) := by
 obtain ⟨w',hw'⟩ : ∃ w',w3.setCell ⟨gv,k * 11 + 4,none⟩ (.int .i64 y) = w' := ⟨_,rfl⟩
 have hg : w3.grownBy w' (some gv) := by rw [← hw'];exact grw_set (grw_refl _ _) _ _
 have kp : Kp w3 w' base (G3 gv gj gs) (G3 gv gj gs) := fun b hb _ hl => ⟨hg.block b hl (fun e => by injection e with e;exact hb (.inl e)),hb⟩
 have kj : Kp w3 w' base (fun b => G3 gv gj gs b ∧ b ≠ gj) (fun b => G3 gv gj gs b ∧ b ≠ gj) := fun b hb _ hl => ⟨hg.block b hl (fun e => by injection e with e;exact hb ⟨.inl e,fun e2 => hF.vj (e.symm.trans e2)⟩),hb⟩
 have ks : Kp w3 w' base (fun b => G3 gv gj gs b ∧ b ≠ gs) (fun b => G3 gv gj gs b ∧ b ≠ gs) := fun b hb _ hl => ⟨hg.block b hl (fun e => by injection e with e;exact hb ⟨.inl e,fun e2 => hF.vs (e.symm.trans e2)⟩),hb⟩
 rw [hw']
 refine ⟨(hF.t.kp kp).read,(hF.d.kp kp).read,?_,?_,?_⟩
 ·have hS : SlV 11 120 vz (fun _ l a => OVeh w3 w3 base (G3 gv gj gs) (G3 gv gj gs) a.brks.length l a) w3 x.v p.vs := hF.v.read fun k l a ha hp => hp
  obtain ⟨R,h1,h2,h3,h4,h5⟩ := hF.v
  obtain ⟨cur,t,hcur⟩ : ∃ cur t,w3.heap[gv]? = some (.cells cur t (0,0)) := by
   rcases h1.2 with ⟨e,_⟩ | ⟨g,cap,cur,e,a,hb,_⟩
   ·rw [hv] at e;cases e
   ·rw [hv] at e
    injection e with e1 e2 e3
    injection e1 with e1
    injection e1 with e1
    subst e1
    exact ⟨_,_,hb⟩
  obtain ⟨a0,c0,e0,f0,f1,f2⟩ := hS
  have ea : a0 = some ⟨gv,0,none⟩ := by rw [hv] at e0;injection e0 with e1;exact e1.symm
  have hsz : k * 11 + 4 < cur.size := by
   obtain ⟨b,off,l,e1,e2,e3,_⟩ := f2 k hk
   rw [ea] at e1
   injection e1 with e1
   injection e1 with e1 e4
   subst e1 e4
   have h9 := e3 4 (by decide)
   rw [cell_of_row _ _ _ _ _ _ hcur] at h9
   have h8 : l[4]? = some (l[4]'(by omega)) := List.getElem?_eq_getElem (by omega)
   rw [h8] at h9
   have := (Array.getElem?_eq_some_iff.1 h9).1
   omega
  refine ⟨some ⟨gv,0,none⟩,c,(by rw [hv];unfold laterP;rw [List.length_set]),(fun e => by cases e),(by unfold laterP;rw [List.length_set];exact f1),fun i hi => ?_⟩
  have hi' : i < p.vs.length := by unfold laterP at hi;simpa using hi
  obtain ⟨b,off,l,e1,e2,e3,hO⟩ := f2 i hi'
  rw [ea] at e1
  injection e1 with e1
  injection e1 with e1 e4
  subst e1 e4
  obtain ⟨xc,xb,e5,q1,q2,q3⟩ := VehV.of_o (hO.kp kp)
  by_cases hik : i = k
  ·subst hik
   refine ⟨gv,0,vehE (laterV (p.vs.getD i vz) y) xc xb,rfl,rfl,fun j hj => ?_,?_⟩
   ·rw [← hw',set_cell hcur hsz]
    by_cases h4 : j = 4
    ·subst h4
     rw [if_pos (by omega)]
     rfl
    ·rw [if_neg (by omega),e3 j hj,e5]
     have hj' : j = 0 ∨ j = 1 ∨ j = 2 ∨ j = 3 ∨ j = 5 ∨ j = 6 ∨ j = 7 ∨ j = 8 ∨ j = 9 ∨ j = 10 := by omega
     rcases hj' with rfl | rfl | rfl | rfl | rfl | rfl | rfl | rfl | rfl | rfl <;> rfl
   ·rw [lat_veh hi']
    exact ⟨xc,xb,rfl,q1,q2,q3⟩
  ·have hge : (laterP p k y).vs.getD i vz = p.vs.getD i vz := by
    unfold laterP
    rw [List.getD_eq_getElem?_getD,List.getElem?_set_ne (by omega),List.getD_eq_getElem?_getD]
   refine ⟨gv,0,l,rfl,e2,fun j hj => ?_,?_⟩
   ·rw [← hw',set_cell hcur hsz,if_neg (by omega)]
    exact e3 j hj
   ·rw [hge]
    exact ⟨xc,xb,e5,q1,q2,q3⟩
 ·exact (hF.j.kp kj fun k l a h => h.kp kp).read fun k l a ha hp => by
   obtain ⟨a,b,c,e,h1,h2,h3,h4⟩ := hp
   exact ⟨a,b,c,e,h1.read,h2.read,h3.read,h4⟩
 ·exact (hF.s.kp ks fun k l a h => h.kp kp).read fun k l a ha hp => by
   obtain ⟨a,b,c,e,h1,h2,h3,h4⟩ := hp
   exact ⟨a,b,c,e,h1.read,h2.read,h3.read,h4⟩
theorem cpf_v {w : World} {base gv gj gs : Nat} {p : Prb} {x : PrbS} (hF : CpF w base gv gj gs p x) (hn : 0 < p.vs.length) : (∃ c,x.v = .slice (some ⟨gv,0,none⟩) p.vs.length c) ∧ base ≤ gv ∧ gv < w.heap.size ∧ ∀ j,w.frozen? ⟨gv,j,none⟩ = false := by
 obtain ⟨R,h1,h2,h3,h4,h5⟩ := hF.v
 have hlt := h1.lt gv hF.ev
 rcases h1.2 with ⟨_,e⟩ | ⟨g,cap,cur,e,a,hb,_⟩
 ·omega
 ·have hg : g = gv := by
   have := hF.ev
   rw [e] at this
   exact own_blk this
  subst hg
  exact ⟨⟨cap,e⟩,hlt.1,hlt.2,fun j => frozen_of_row w g j _ _ hb⟩
theorem cpf_cell {w : World} {base gv gj gs k c : Nat} {p : Prb} {x : PrbS} (hF : CpF w base gv gj gs p x) (hk : k < p.vs.length) (hv : x.v = .slice (some ⟨gv,0,none⟩) p.vs.length c) : w.cell? ⟨gv,k * 11 + 4,none⟩ = some (.int .i64 (p.vs.getD k vz).shift.1) := by
 obtain ⟨b,off,c2,xc,xb,he,hb,hcs,_,_⟩ := veh_cells hF.prb.v hk
 rw [hv] at he
 injection he with e1 _ _
 injection e1 with e1
 injection e1 with e1 e4
 subst e1 e4
 have := hcs 4 (by decide)
 rw [Nat.zero_add] at this
 exact this
theorem copy_any {w : World} {x : PrbS} {p : Prb} (h : PrbV w x p) (hn : 0 < p.vs.length) : Calls Try.prog 17 #[.agg (prbE p x)] w fun e w' => ∃ ta tc da dc gv cv ja jc sa sc gj gs,e = .returned (.agg (prbE p ⟨.slice ta p.time.cells.length tc,.slice da p.dist.cells.length dc,.slice (some ⟨gv,0,none⟩) p.vs.length cv,.slice ja p.js.length jc,.slice sa p.ss.length sc⟩)) ∧ (CpF w' (w.heap.size + 2) gv gj gs p ⟨.slice ta p.time.cells.length tc,.slice da p.dist.cells.length dc,.slice (some ⟨gv,0,none⟩) p.vs.length cv,.slice ja p.js.length jc,.slice sa p.ss.length sc⟩ ∧ w.heap.size + 2 ≤ gv ∧ gv < w'.heap.size ∧ ∀ j,w'.frozen? ⟨gv,j,none⟩ = false) ∧ Below w.heap.size w w' := by
 refine (copied_any h).mono ?_
 rintro e w' ⟨x',rfl,⟨gv,gj,gs,hF⟩,k9⟩
 obtain ⟨⟨cv,hv⟩,h1,h2,h3⟩ := cpf_v hF hn
 obtain ⟨ta,tc,da,dc,va,vc,ja,jc,sa,sc,rfl⟩ := hF.prb.open
 simp only at hv
 injection hv with e1 _ e3
 subst e1 e3
 exact ⟨ta,tc,da,dc,gv,_,ja,jc,sa,sc,gj,gs,rfl,⟨hF,h1,h2,h3⟩,k9⟩
theorem umod_hundred (x : Int) : ∃ r : Nat,(IntKind.u64.wrap x).tmod 100 = r ∧ r < 100 := by
 have h0 : 0 ≤ IntKind.u64.wrap x := by rw [IntKind.wrap_u64];omega
 have h1 := Int.tmod_lt_of_pos (IntKind.u64.wrap x) (show (0 : Int) < 100 by decide)
 have h2 := Int.tmod_nonneg 100 h0
 exact ⟨((IntKind.u64.wrap x).tmod 100).toNat,by omega,by omega⟩
theorem lat_fit {p : Prb} {k : Nat} {y : Int} {V : List Vst} (hl : lawM p = true) (hlq : lawM (laterP p k y) = true) (hk : k < p.vs.length) (hbr : (p.vs.getD k vz).brks.length = 0) (hy : (p.vs.getD k vz).shift.1 ≤ y) (hfq : fitE (laterP p k y) k V = 0) : fitE p k V = 0 ∧ (fitP p k V).cost = (fitP (laterP p k y) k V).cost ∧ (fitP p k V).steps.length = V.length + 2 ∧ (fitP (laterP p k y) k V).steps.length = V.length + 2 ∧ ∀ i,i < V.length + 2 → ∃ s s',(fitP p k V).steps[i]? = some s ∧ (fitP (laterP p k y) k V).steps[i]? = some s' ∧ s.arr ≤ s'.arr ∧ s.time = s'.time := by
 have hkq : k < (laterP p k y).vs.length := by unfold laterP;simpa using hk
 have hm : manB p (k : Int) = true := by unfold manB;rw [decide_eq_true (by omega),decide_eq_true (by omega)];rfl
 have hmq : manB (laterP p k y) (k : Int) = true := by unfold manB;rw [decide_eq_true (by omega),decide_eq_true (by omega)];rfl
 have hb : hasB V = false := by
  cases hb : hasB V with
  | false => rfl
  | true => rw [(fit_brk hmq hb).1] at hfq;cases hfq
 have hbq : ((laterP p k y).vs.getD ((k : Int)).toNat vz).brks.length = 0 := by rw [Int.toNat_natCast,lat_veh hk];exact hbr
 have hbp : (p.vs.getD ((k : Int)).toNat vz).brks.length = 0 := by rw [Int.toNat_natCast];exact hbr
 obtain ⟨f1,f2⟩ := fit_none hm hb hl hbp
 obtain ⟨g1,g2⟩ := fit_none hmq hb hlq hbq
 rw [g1,ofE_man hmq,Int.toNat_natCast,lat_veh hk] at hfq
 have hvq := veh_ok (law_veh hlq hkq)
 rw [lat_veh hk] at hvq
 obtain ⟨e1,e2⟩ := lat_err hl hk hy hvq.shift.2.1 V hfq
 have hep : ofE p k V = 0 := by rw [ofE_man hm,Int.toNat_natCast];exact e1
 have heq : ofE (laterP p k y) k V = 0 := by rw [ofE_man hmq,Int.toNat_natCast,lat_veh hk];exact hfq
 rw [f1,f2,g2,ofP_good hep,ofP_good heq,Int.toNat_natCast,lat_veh hk]
 have st : ∀ m,sumN (travelM m (stopsM (laterP p k y) (laterV (p.vs.getD k vz) y) V)) (V.length + 2) = sumN (travelM m (stopsM p (p.vs.getD k vz) V)) (V.length + 2) := fun m => lat_sum m V _ (Nat.le_refl _)
 refine ⟨hep,?_,?_,?_,fun i hi => ?_⟩
 ·show (p.vs.getD k vz).fixed + sumN _ (stopsM p (p.vs.getD k vz) V).length * _ + sumN _ (stopsM p (p.vs.getD k vz) V).length * _ = (p.vs.getD k vz).fixed + sumN _ (stopsM (laterP p k y) (laterV (p.vs.getD k vz) y) V).length * _ + sumN _ (stopsM (laterP p k y) (laterV (p.vs.getD k vz) y) V).length * _
  rw [stopsM_len,stopsM_len]
  show _ + sumN (travelM p.time _) _ * (p.vs.getD k vz).perT + sumN (travelM p.dist _) _ * (p.vs.getD k vz).perD = _ + sumN (travelM p.time _) _ * (p.vs.getD k vz).perT + sumN (travelM p.dist _) _ * (p.vs.getD k vz).perD
  rw [st p.time,st p.dist]
 ·show ((List.range (stopsM p (p.vs.getD k vz) V).length).map _).length = _
  rw [List.length_map,List.length_range,stopsM_len]
 ·show ((List.range (stopsM (laterP p k y) (laterV (p.vs.getD k vz) y) V).length).map _).length = _
  rw [List.length_map,List.length_range,stopsM_len]
 ·refine ⟨stepM p p.dims.toNat (p.vs.getD k vz).shift.1 V (stopsM p (p.vs.getD k vz) V) i,stepM (laterP p k y) (laterP p k y).dims.toNat y V (stopsM (laterP p k y) (laterV (p.vs.getD k vz) y) V) i,?_,?_,e2 i hi,?_⟩
  ·show ((List.range (stopsM p (p.vs.getD k vz) V).length).map _)[i]? = _
   rw [stopsM_len,List.getElem?_map,List.getElem?_range hi];rfl
  ·show ((List.range (stopsM (laterP p k y) (laterV (p.vs.getD k vz) y) V).length).map _)[i]? = _
   rw [stopsM_len,List.getElem?_map,List.getElem?_range hi];rfl
  ·show sumN (travelM p.time _) (i + 1) = sumN (travelM p.time _) (i + 1)
   rw [lat_sum p.time V (i + 1) (by omega)]
end Go.Proofs.Ytgjpkpmikbpcnaa
