/-
  Several texts in one: CBrkP CRigP SkM CSamW SkT.
-/
import Derived.BigRegion
import Derived.Test.YtndbikoccdjafaaBCFitQ
import Derived.Test.YtndbikoccdjafaaBCFst0G
import Derived.Test.YtndbikoccdjafaaBCFitHG
import Derived.Test.YtndbikoccdjafaaBCHCallG
import Derived.Test.YtndbikoccdjafaaBCStpAG
import Derived.Test.YtndbikoccdjafaaBCVrwG
import Derived.Test.YtndbikoccdjafaaBCCpBG
import Derived.Test.YtndbikoccdjafaaBCLoaLG
namespace Go.Proofs.Ytndbikoccdjafaa
open Go.RowKit
theorem ins_len : ∀ (ps : List Nat) (k q : Nat) (L : List Vst),(insB k q ps L).length = L.length + ps.length
 | [],_,_,_ => rfl
 | a :: ps,k,q,L => by
  show (L.take (a - q) ++ ((4,(k : Int)) :: insB (k + 1) a ps (L.drop (a - q)))).length = _
  rw [List.length_append,List.length_cons,ins_len ps (k + 1) a,List.length_take,List.length_drop]
  simp
  omega
section
variable {p : Prb} {v : Veh} {V : List Vst} {ps : List Nat}
end
end Go.Proofs.Ytndbikoccdjafaa
namespace Go.Proofs.Ytndbikoccdjafaa
open Go.RowKit
theorem fit_form {p : Prb} {vi : Int} {V : List Vst} (hl : lawM p = true) : (fitE p vi V ≠ 0 → fitP p vi V = planZ) ∧ (fitE p vi V = 0 → manB p vi = true ∧ ∃ U,nob U = V ∧ U.length = V.length + (p.vs.getD vi.toNat vz).brks.length ∧ errV p (p.vs.getD vi.toNat vz) U = 0 ∧ fitP p vi V = planM p vi (p.vs.getD vi.toNat vz) U) := by
 cases hm : manB p vi with
 | false =>
  unfold fitE fitP
  rw [hm]
  exact ⟨fun _ => rfl,fun h => by cases h⟩
 | true =>
 cases hb : hasB V with
 | true =>
  unfold fitE fitP
  rw [hm,hb]
  exact ⟨fun _ => rfl,fun h => by cases h⟩
 | false =>
 have hV := hasB_no hb
 obtain ⟨k,hk,hkl⟩ := man_nat (show (decide (0 ≤ vi) && decide (vi < (p.vs.length : Int))) = true from hm)
 have hvo : VehOk p.dims p.time.n (p.vs.getD vi.toNat vz) := veh_ok (law_veh hl (by rw [hk];simpa using hkl))
 have hH : headV p vi V = insB 0 0 (List.replicate (p.vs.getD vi.toNat vz).brks.length 0) V := head_ins rfl
 have hI : ∀ ps : List Nat,ps.length = (p.vs.getD vi.toNat vz).brks.length → (ofE p vi (insB 0 0 ps V) ≠ 0 → ofP p vi (insB 0 0 ps V) = planZ) ∧ (ofE p vi (insB 0 0 ps V) = 0 → true = true ∧ ∃ U,nob U = V ∧ U.length = V.length + (p.vs.getD vi.toNat vz).brks.length ∧ errV p (p.vs.getD vi.toNat vz) U = 0 ∧ ofP p vi (insB 0 0 ps V) = planM p vi (p.vs.getD vi.toNat vz) U) := fun ps hp =>
  ⟨fun h => ofP_bad h,fun h => ⟨rfl,insB 0 0 ps V,nob_ins ps 0 0 V hV,by rw [ins_len,hp],by rw [← ofE_man hm];exact h,ofP_good h⟩⟩
 cases hd : decide (ofE p vi (headV p vi V) = 167) with
 | false =>
  unfold fitE fitP
  rw [hm,hb,hd,hH]
  exact hI _ List.length_replicate
 | true =>
  have hF : First p (p.vs.getD vi.toNat vz) V (seekP p (p.vs.getD vi.toNat vz) V) := first_is hl hvo hV (List.length_replicate (n := (p.vs.getD vi.toNat vz).brks.length) (a := 0)) (by rw [← ofE_man hm,← hH];exact of_decide_eq_true hd)
  cases hs : seekP p (p.vs.getD vi.toNat vz) V with
  | none =>
   unfold fitE fitP
   rw [hm,hb,hd,hs]
   exact ⟨fun _ => rfl,fun h => by cases h⟩
  | some ps =>
   rw [hs] at hF
   obtain ⟨y1,y2,_,_⟩ := hF.yes ps rfl
   unfold fitE fitP
   rw [hm,hb,hd,hs]
   show (ofE p vi (setM V (ps.map _)) ≠ 0 → ofP p vi (setM V (ps.map _)) = planZ) ∧ _
   have h9 := hI ps y1
   rw [← setM_ins y2] at h9
   exact h9
theorem errV_zero {p : Prb} {v : Veh} {U : List Vst} (h : errV p v U = 0) : wholeM p U = true ∧ restM U v.brks.length = true ∧ lightM p p.dims.toNat v U = true ∧ linkedM p (stopsM p v U) = true ∧ timelyM p.time (stopsM p v U) v.shift.1 = true := by
 unfold errV at h
 cases h1 : wholeM p U <;> cases h2 : restM U v.brks.length <;> cases h3 : ableM p v U <;> cases h4 : smallM v U <;> cases h5 : lightM p p.dims.toNat v U <;> cases h6 : linkedM p (stopsM p v U) <;> cases h7 : timelyM p.time (stopsM p v U) v.shift.1 <;> rw [h1,h2,h3,h4,h5,h6,h7] at h <;> first | exact ⟨rfl,rfl,rfl,rfl,rfl⟩ | (exfalso;revert h;decide)
end Go.Proofs.Ytndbikoccdjafaa
namespace Go.Proofs.Ytndbikoccdjafaa
open Go.RowKit
theorem own : ownKnob Try.prog.godebug = none := by kernel_rfl
def StpC (w : World) (a : Option Addr) (n : Nat) (L : List StepT) : Prop := L.length = n ∧ ∀ i s,L[i]? = some s → ∃ g y,a = some ⟨g,0,none⟩ ∧ g < w.heap.size ∧ ∀ j,j < 9 → w.cell? ⟨g,i * 9 + j,none⟩ = (encS s y)[j]?
theorem StpC.on {w w' : World} {a : Option Addr} {n : Nat} {L : List StepT} (h : StpC w a n L) (f : Below w.heap.size w w') : StpC w' a n L := ⟨h.1,fun i s hs => by
 obtain ⟨g,y,e,hg,hc⟩ := h.2 i s hs
 exact ⟨g,y,e,Nat.lt_of_lt_of_le hg f.size,fun j hj => ((bcell f).1 _ _ hg).trans (hc j hj)⟩⟩
structure SlkV (w : World) (x : PrbS) (p : Prb) (k : Nat) (a : Option Addr) (n : Nat) (L : List StepT) (G : List Stg) : Prop where
 prb : PrbV w x p
 law : lawM p = true
 veh : k < p.vs.length
 stp : StpC w a n L
 rt : Rout p k L G
theorem SlkV.on {w w' : World} {x : PrbS} {p : Prb} {k n : Nat} {a : Option Addr} {L : List StepT} {G : List Stg} (h : SlkV w x p k a n L G) (f : Below w.heap.size w w') : SlkV w' x p k a n L G := ⟨h.prb.on f,h.law,h.veh,h.stp.on f,h.rt⟩
theorem stpM_few {p : Prb} (h : lawM p = true) (k i : Int) : (stpM p k i).wins.length ≤ 4 := by
 have key : ∀ {n : Int} {s : Stp},stpB n s = true → s.wins.length ≤ 4 := fun h => by
  unfold stpB at h
  simp only [Bool.and_eq_true] at h
  exact (winB_ok h.2).2.1
 cases ht : thereV p k i with
 | false => rw [stpM_no ht];exact Nat.zero_le _
 | true =>
  rcases thereV_cases ht with ⟨_,j,_,hj,e⟩ | ⟨_,j,_,hj,e⟩ | ⟨_,j,_,hj,e⟩ <;> rw [e]
  ·have := law_job h hj
   unfold jobB at this
   simp only [Bool.and_eq_true] at this
   exact key this.1.1.1.1
  ·have := law_shp h hj
   unfold shpB at this
   simp only [Bool.and_eq_true] at this
   exact key this.1.1.1.1
  ·have := law_shp h hj
   unfold shpB at this
   simp only [Bool.and_eq_true] at this
   exact key this.1.1.1.2
theorem stopW_any {w : World} {x : PrbS} {p : Prb} (h : PrbV w x p) (hl : lawM p = true) (k i : Int) : Calls Try.prog 89 #[.agg (prbE p x),.agg #[.int .i64 k,.int .i64 i]] w fun e w' => ∃ y,e = .returned (.tuple #[.agg #[.int .i64 (stpM p k i).place,.int .i64 (stpM p k i).serv,y],.bool (thereV p k i)]) ∧ WinsV w' y (stpM p k i).wins ∧ Below w.heap.size w w' := by
 refine (stopV_any h k i).mono ?_
 rintro e w' ⟨y,rfl,h1,h2⟩
 have hf := stpM_few hl k i
 exact ⟨y,rfl,OWins.read (G := fun _ => False) (base := w.heap.size) ⟨h1,by omega,fun _ _ h => h⟩,h2⟩
end Go.Proofs.Ytndbikoccdjafaa
namespace Go.Proofs.Ytndbikoccdjafaa
open Go.RowKit
def PlanW (w : World) (base : Nat) (v : Value) (pl : PlanT) : Prop := ∃ a n c ys,v = .agg (planC pl.veh (.slice a n c) pl.time pl.dist pl.wait pl.serv pl.cost) ∧ StpR w base base (.slice a n c) pl.steps ys ∧ pl.steps.length = n
theorem PlanW.on {w w' : World} {base : Nat} {v : Value} {pl : PlanT} (h : PlanW w base v pl) (f : Below w.heap.size w w') : PlanW w' base v pl := by
 obtain ⟨a,n,c,ys,e,hr,hn⟩ := h
 exact ⟨a,n,c,ys,e,RowS.on hr (loc_steps base) f,hn⟩
theorem planZ_w (w : World) (base : Nat) : PlanW w base (.agg (planC 0 (.slice none 0 0) 0 0 0 0 0)) planZ := ⟨none,0,0,[],rfl,RowS.nil (World.ownsRow_nil w base 45 9),rfl⟩
end Go.Proofs.Ytndbikoccdjafaa
namespace Go.Proofs.Ytndbikoccdjafaa
open Go.RowKit
theorem stpR_read {w : World} {base b2 n c : Nat} {a : Option Addr} {L : List StepT} {ys : List Value} (h : StpR w base b2 (.slice a n c) L ys) (hn : L.length = n) : StpC w a n L := ⟨hn,fun i s hs => by
 obtain ⟨g,y1,yc,e,hg,hc,_⟩ := stp_get h hs
 exact ⟨g,_,e,hg,hc⟩⟩
section
variable {p : Prb} {v : Veh} {U : List Vst}
theorem stg_len : (stgM p v U).length = U.length + 1 := by unfold stgM;rw [List.length_map,List.length_range]
theorem stg_at {i : Nat} (h : i < U.length + 1) : (stgM p v U)[i]? = some (optW (stopsM p v U) i,((stopsM p v U).getD i sz).serv + travelM p.time (stopsM p v U) (i + 1)) := by
 unfold stgM
 rw [List.getElem?_map,List.getElem?_range h]
 rfl
theorem stg_ok (hl : lawM p = true) (hv : VehOk p.dims p.time.n v) : okG (stgM p v U) := fun s hs L e => by
 unfold stgM at hs
 obtain ⟨i,hi,rfl⟩ := List.mem_map.1 hs
 unfold optW at e
 by_cases h0 : i = 0
 ·simp only [if_pos h0] at e;cases e
 ·simp only [if_neg h0] at e
  injection e with e
  subst e
  exact (stops_ok hl hv U i).1
theorem tim_beg (h : timelyM p.time (stopsM p v U) v.shift.1 = true) {j : Nat} (hj : j < U.length + 2) : (begM p.time (stopsM p v U) v.shift.1 j).2 = true := by
 unfold timelyM at h
 rw [stopsM_len] at h
 exact all_get h hj
theorem own_end (hv : VehOk p.dims p.time.n v) (he : errV p v U = 0) : ∀ d i,i + d = U.length + 1 → endL p v U i (arrM p.time (stopsM p v U) v.shift.1 i) = some (arrM p.time (stopsM p v U) v.shift.1 (U.length + 1))
 | 0,i,hi => by
  obtain ⟨_,_,_,_,h5⟩ := errV_zero he
  have hb := tim_beg h5 (j := U.length + 1) (by omega)
  have e : i = U.length + 1 := by omega
  subst e
  unfold endL
  rw [List.drop_eq_nil_of_le (by rw [stg_len];exact Nat.le_refl _)]
  unfold endG
  have hle : arrM p.time (stopsM p v U) v.shift.1 (U.length + 1) ≤ v.shift.2 := by
   unfold begM at hb
   rw [stop_end] at hb
   by_cases h : arrM p.time (stopsM p v U) v.shift.1 (U.length + 1) ≤ v.shift.2
   ·exact h
   ·have hb : (Hr.startM (arrM p.time (stopsM p v U) v.shift.1 (U.length + 1)) [v.shift]).2 = true := hb
    rw [start_over h] at hb
    cases hb
  rw [if_pos hle]
 | d + 1,i,hi => by
  have ih := own_end hv he d (i + 1) (by omega)
  obtain ⟨_,_,_,_,h5⟩ := errV_zero he
  have hb := tim_beg h5 (j := i) (by omega)
  have hsh := hv.shift.2.1
  unfold endL at ih ⊢
  rw [end_stop (stg_at (by omega))]
  unfold optW
  by_cases h0 : i = 0
  ·subst h0
   rw [if_pos rfl]
   show (if true = true then endG _ _ (arrM p.time (stopsM p v U) v.shift.1 0 + (((stopsM p v U).getD 0 sz).serv + travelM p.time (stopsM p v U) 1)) else none) = _
   rw [if_pos rfl,← ih]
   congr 1
   unfold arrM
   rw [lf_one hsh,stop_zero]
   show v.shift.1 + 0 + (0 + travelM p.time (stopsM p v U) 1) = v.shift.1 + travelM p.time (stopsM p v U) 1
   omega
  ·rw [if_neg h0]
   show (if (begM p.time (stopsM p v U) v.shift.1 i).2 = true then endG _ _ ((begM p.time (stopsM p v U) v.shift.1 i).1 + (((stopsM p v U).getD i sz).serv + travelM p.time (stopsM p v U) (i + 1))) else none) = _
   rw [if_pos hb,← ih]
   congr 1
   show _ = lfM p.time (stopsM p v U) v.shift.1 (i + 1) + travelM p.time (stopsM p v U) (i + 1)
   rw [lfM_succ]
   omega
theorem plan_len {vi : Int} : (planM p vi v U).steps.length = U.length + 2 := by
 show ((List.range (stopsM p v U).length).map _).length = _
 rw [List.length_map,List.length_range,stopsM_len]
theorem plan_step {vi : Int} {i : Nat} (hi : i < U.length + 2) : (planM p vi v U).steps[i]? = some (stepM p p.dims.toNat v.shift.1 U (stopsM p v U) i) := by
 show ((List.range (stopsM p v U).length).map _)[i]? = _
 rw [stopsM_len,List.getElem?_map,List.getElem?_range hi]
 rfl
theorem rout_plan {k : Nat} {vi : Int} (hl : lawM p = true) (hk : k < p.vs.length) (he : errV p (p.vs.getD k vz) U = 0) (hU : U.length ≤ 38) : Rout p k (planM p vi (p.vs.getD k vz) U).steps (stgM p (p.vs.getD k vz) U) := by
 have hv := veh_ok (law_veh hl hk)
 obtain ⟨v,hvv⟩ : ∃ v,p.vs.getD k vz = v := ⟨_,rfl⟩
 rw [hvv] at he hv ⊢
 obtain ⟨h1,h2,_,h4,_⟩ := errV_zero he
 refine ⟨by rw [plan_len,stg_len],by rw [stg_len];omega,by rw [stg_len];omega,stg_ok hl hv,fun i hi => ?_⟩
 rw [hvv]
 rw [stg_len] at hi
 refine ⟨stepM p p.dims.toNat v.shift.1 U (stopsM p v U) i,stepM p p.dims.toNat v.shift.1 U (stopsM p v U) (i + 1),plan_step (by omega),plan_step (by omega),?_,(stops_ok hl hv U i).2,?_,?_,?_⟩
 ·rw [stg_at hi,travelM_succ]
  unfold optW
  by_cases h0 : i = 0
  ·rw [if_pos h0,if_pos h0];rfl
  ·obtain ⟨j,rfl⟩ : ∃ j,i = j + 1 := ⟨i - 1,by omega⟩
   obtain ⟨u,hu⟩ : ∃ u,U[j]? = some u := ⟨_,List.getElem?_eq_getElem (by omega)⟩
   rw [if_neg h0,if_neg h0]
   show some (some ((stopsM p v U).getD (j + 1) sz).wins,_) = some (some (winS p v ((pointsM U).getD (j + 1) (0,0)).1 ((pointsM U).getD (j + 1) (0,0)).2),_)
   rw [points_at hu]
   have e : ((stopsM p v U).getD (j + 1) sz).wins = winS p v u.1 u.2 := by
    rw [stop_at hu]
    unfold stopW winS
    split <;> rfl
   rw [e]
   rfl
 ·show 0 ≤ cellM p.time ((stopsM p v U).getD i sz).place ((stopsM p v U).getD (i + 1) sz).place ∧ cellM p.time ((stopsM p v U).getD i sz).place ((stopsM p v U).getD (i + 1) sz).place ≤ 32000000
  have := (linked_get h4 (j := i + 1) (by omega)).1
  rw [travelM_succ] at this
  exact ⟨this,((ways_ok hl).mt _ _).2⟩
 ·rintro rfl
  refine ⟨rfl,rfl,?_⟩
  show ((stopsM p v U).getD 0 sz).serv = 0
  rw [stop_zero]
  rfl
 ·intro h0
  obtain ⟨j,rfl⟩ : ∃ j,i = j + 1 := ⟨i - 1,by omega⟩
  obtain ⟨u,hu⟩ : ∃ u,U[j]? = some u := ⟨_,List.getElem?_eq_getElem (by omega)⟩
  show (((pointsM U).getD (j + 1) (0,0)).1 = 4 ∧ ∃ q : Nat,((pointsM U).getD (j + 1) (0,0)).2 = q ∧ q < v.brks.length ∧ ((stopsM p v U).getD (j + 1) sz).serv = (v.brks.getD q bz).serv) ∨ (((pointsM U).getD (j + 1) (0,0)).1 ≠ 4 ∧ thereV p ((pointsM U).getD (j + 1) (0,0)).1 ((pointsM U).getD (j + 1) (0,0)).2 = true ∧ ((stopsM p v U).getD (j + 1) sz).serv = (stpM p ((pointsM U).getD (j + 1) (0,0)).1 ((pointsM U).getD (j + 1) (0,0)).2).serv)
  rw [points_at hu,stop_at hu]
  unfold stopW
  by_cases h4 : u.1 = 4
  ·obtain ⟨q,hq,hq2⟩ := (brkF_in U 0 _ (of_decide_eq_true h2)).2 u (List.mem_of_getElem? hu) h4
   rw [if_pos h4,hq]
   exact .inl ⟨h4,q,rfl,hq2,rfl⟩
  ·rw [if_neg h4]
   exact .inr ⟨h4,(((wholeM_iff p U).1 h1).1 j u hu h4).1,rfl⟩
structure LatF (p : Prb) (v : Veh) (U : List Vst) : Prop where
 lat : latG v.shift.2 (stgM p v U) = some (latL p v U)
 len : (latL p v U).length = U.length + 2
 own : ∀ i,i ≤ U.length + 1 → arrM p.time (stopsM p v U) v.shift.1 i ≤ (latL p v U).getD i 0
 ends : ∀ i,i ≤ U.length + 1 → ∀ t,(endL p v U i t).isSome = true ↔ t ≤ (latL p v U).getD i 0
theorem lat_facts (hl : lawM p = true) (hv : VehOk p.dims p.time.n v) (he : errV p v U = 0) : LatF p v U := by
 have ok := stg_ok (U := U) hl hv
 have h0 := own_end hv he (U.length + 1) 0 (by omega)
 have h0' : endG v.shift.2 (stgM p v U) (arrM p.time (stopsM p v U) v.shift.1 0) = some (arrM p.time (stopsM p v U) v.shift.1 (U.length + 1)) := h0
 obtain ⟨l,hll⟩ := end_lat ok (show (endG v.shift.2 (stgM p v U) (arrM p.time (stopsM p v U) v.shift.1 0)).isSome = true by rw [h0'];rfl)
 have e : latL p v U = l := by unfold latL;rw [hll];rfl
 have hends : ∀ i,i ≤ U.length + 1 → ∀ t,(endL p v U i t).isSome = true ↔ t ≤ l.getD i 0 := fun i hi t => lat_end_at ok hll (by rw [stg_len];exact hi)
 refine ⟨by rw [hll,e],by rw [e,lat_len hll,stg_len],fun i hi => ?_,fun i hi t => by rw [e];exact hends i hi t⟩
 rw [e]
 refine (hends i hi _).1 ?_
 rw [own_end hv he (U.length + 1 - i) i (by omega)]
 rfl
end
end Go.Proofs.Ytndbikoccdjafaa
