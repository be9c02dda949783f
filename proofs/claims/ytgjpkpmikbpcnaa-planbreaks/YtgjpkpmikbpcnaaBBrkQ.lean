/-
  Plain: wherever the breaks stand, either it is too late, or Fit answers the same.
-/
import Derived.Test.YtgjpkpmikbpcnaaBBrkP
import Derived.Test.YtgjpkpmikbpcnaaWFitD
namespace Go.Proofs.Ytgjpkpmikbpcnaa
open Go.RowKit
theorem brk_fit {p : Prb} {k i j lb : Nat} {V : List Vst} (hl : lawM p = true) (hk : k < p.vs.length) (hV : ∀ u ∈ V,u.1 ≠ 4) (hn : (p.vs.getD k vz).brks.length = lb) (hij : i ≤ j) (hj : j ≤ V.length) :
  (ofE p (k : Int) (setM V ((([i,j] : List Nat).take lb).map fun z : Nat => (z : Int))) = 0 → fitE p (k : Int) V = 0 ∧ (ofP p (k : Int) (setM V ((([i,j] : List Nat).take lb).map fun z : Nat => (z : Int)))).time = (fitP p (k : Int) V).time ∧ (ofP p (k : Int) (setM V ((([i,j] : List Nat).take lb).map fun z : Nat => (z : Int)))).dist = (fitP p (k : Int) V).dist ∧ (ofP p (k : Int) (setM V ((([i,j] : List Nat).take lb).map fun z : Nat => (z : Int)))).cost = (fitP p (k : Int) V).cost ∧ (ofP p (k : Int) (setM V ((([i,j] : List Nat).take lb).map fun z : Nat => (z : Int)))).serv = (fitP p (k : Int) V).serv)
  ∧ (ofE p (k : Int) (setM V ((([i,j] : List Nat).take lb).map fun z : Nat => (z : Int))) ≠ 0 → ofE p (k : Int) (setM V ((([i,j] : List Nat).take lb).map fun z : Nat => (z : Int))) = 167 ∨ ofE p (k : Int) (setM V ((([i,j] : List Nat).take lb).map fun z : Nat => (z : Int))) = fitE p (k : Int) V) := by
 have hvo : VehOk p.dims p.time.n (p.vs.getD k vz) := veh_ok (law_veh hl hk)
 have h2 := hvo.two
 have hs : (p.vs.getD k vz).shift.1 ≤ (p.vs.getD k vz).shift.2 := by have := hvo.shift;omega
 have hdw := dg_stop hl (p.vs.getD k vz)
 have hd : Dg2 p (p.vs.getD k vz).start := by have := hvo.start;exact dg_at hl this.1 this.2
 have hm : manB p (k : Int) = true := by unfold manB;simp [hk]
 have hb : hasB V = false := by
  unfold hasB
  rw [List.any_eq_false]
  intro u hu
  simpa using hV u hu
 obtain ⟨ps,hps⟩ : ∃ ps,([i,j] : List Nat).take lb = ps := ⟨_,rfl⟩
 have hpl : ps.length = (p.vs.getD k vz).brks.length := by rw [← hps,hn,List.length_take];simp;omega
 have hvl : Vld V.length 0 ps := by
  rw [← hps]
  have h3 : lb = 0 ∨ lb = 1 ∨ lb = 2 := by omega
  rcases h3 with rfl | rfl | rfl
  ·trivial
  ·exact ⟨Nat.zero_le _,by omega,trivial⟩
  ·exact ⟨Nat.zero_le _,by omega,hij,hj,trivial⟩
 rw [hps,setM_ins hvl]
 have hT : ((k : Int)).toNat = k := by simp
 have hE : ∀ U,ofE p (k : Int) U = errV p (p.vs.getD k vz) U := fun U => by rw [ofE_man hm,hT]
 have hI : ∀ ps : List Nat,ps.length = (p.vs.getD k vz).brks.length → errV p (p.vs.getD k vz) (insB 0 0 ps V) = bif decide (errN p (p.vs.getD k vz) V = 0) then (bif goT p (p.vs.getD k vz) (p.vs.getD k vz).start (p.vs.getD k vz).shift.1 (insB 0 0 ps V) then 0 else 167) else errN p (p.vs.getD k vz) V := fun ps h => errV_ins hs hdw hd hV h
 have hH : headV p (k : Int) V = insB 0 0 (List.replicate (p.vs.getD k vz).brks.length 0) V := head_ins (by rw [hT])
 have hP : ∀ U,ofE p (k : Int) U = 0 → ofP p (k : Int) U = planM p (k : Int) (p.vs.getD k vz) U := fun U h => by unfold ofP;rw [h,hT];rfl
 have hsame : ∀ ps' : List Nat,ps'.length = (p.vs.getD k vz).brks.length → ofE p (k : Int) (insB 0 0 ps V) = 0 → ofE p (k : Int) (insB 0 0 ps' V) = 0 →
   (ofP p (k : Int) (insB 0 0 ps V)).time = (ofP p (k : Int) (insB 0 0 ps' V)).time ∧ (ofP p (k : Int) (insB 0 0 ps V)).dist = (ofP p (k : Int) (insB 0 0 ps' V)).dist ∧ (ofP p (k : Int) (insB 0 0 ps V)).cost = (ofP p (k : Int) (insB 0 0 ps' V)).cost ∧ (ofP p (k : Int) (insB 0 0 ps V)).serv = (ofP p (k : Int) (insB 0 0 ps' V)).serv := fun ps' hp' h1 h2 => by
  rw [hP _ h1,hP _ h2,plan_cost,plan_cost]
  obtain ⟨a1,a2,a3⟩ := brk_plan (ps := ps) hl hvo hV (k : Int)
  obtain ⟨b1,b2,b3⟩ := brk_plan (ps := ps') hl hvo hV (k : Int)
  rw [a1,a2,a3,b1,b2,b3,hpl,hp']
  exact ⟨rfl,rfl,rfl,rfl⟩
 have hr : (List.replicate (p.vs.getD k vz).brks.length 0).length = (p.vs.getD k vz).brks.length := List.length_replicate
 by_cases hN : errN p (p.vs.getD k vz) V = 0
 ·have hI2 : ∀ ps : List Nat,ps.length = (p.vs.getD k vz).brks.length → errV p (p.vs.getD k vz) (insB 0 0 ps V) = bif goT p (p.vs.getD k vz) (p.vs.getD k vz).start (p.vs.getD k vz).shift.1 (insB 0 0 ps V) then 0 else 167 := fun ps h => by rw [hI ps h,decide_eq_true hN];rfl
  have h01 : ∀ ps : List Nat,ps.length = (p.vs.getD k vz).brks.length → ofE p (k : Int) (insB 0 0 ps V) = 0 ∨ ofE p (k : Int) (insB 0 0 ps V) = 167 := fun ps h => by
   rw [hE,hI2 ps h]
   cases goT p (p.vs.getD k vz) (p.vs.getD k vz).start (p.vs.getD k vz).shift.1 (insB 0 0 ps V)
   ·exact Or.inr rfl
   ·exact Or.inl rfl
  refine ⟨fun h0 => ?_,fun h0 => ?_⟩
  ·rcases h01 _ hr with hh | hh
   ·have hz : fitE p (k : Int) V = ofE p (k : Int) (headV p (k : Int) V) ∧ fitP p (k : Int) V = ofP p (k : Int) (headV p (k : Int) V) := by
     unfold fitE fitP
     rw [hm,hb,hH,hh]
     exact ⟨rfl,rfl⟩
    rw [hz.1,hz.2,hH]
    exact ⟨hh,hsame _ hr h0 hh⟩
   ·have hF : First p (p.vs.getD k vz) V (seekP p (p.vs.getD k vz) V) := first_is hl hvo hV hr (by rw [← hE];exact hh)
    cases hq : seekP p (p.vs.getD k vz) V with
    | none =>
     rw [hq] at hF
     have := hF.no rfl ps hpl hvl
     rw [← hE,h0] at this
     cases this
    | some qs =>
     rw [hq] at hF
     obtain ⟨y1,y2,y3,_⟩ := hF.yes qs rfl
     have hz : fitE p (k : Int) V = ofE p (k : Int) (insB 0 0 qs V) ∧ fitP p (k : Int) V = ofP p (k : Int) (insB 0 0 qs V) := by
      unfold fitE fitP
      rw [hm,hb,hH,hh,hT,hq]
      show ofE p (k : Int) (setM V (qs.map _)) = _ ∧ ofP p (k : Int) (setM V (qs.map _)) = _
      rw [setM_ins y2]
      exact ⟨rfl,rfl⟩
     have y4 : ofE p (k : Int) (insB 0 0 qs V) = 0 := by rw [hE];exact y3
     rw [hz.1,hz.2]
     exact ⟨y4,hsame _ y1 h0 y4⟩
  ·exact Or.inl ((h01 ps hpl).resolve_left h0)
 ·have hI3 : ∀ ps : List Nat,ps.length = (p.vs.getD k vz).brks.length → ofE p (k : Int) (insB 0 0 ps V) = errN p (p.vs.getD k vz) V := fun ps h => by rw [hE,hI ps h,decide_eq_false hN];rfl
  refine ⟨fun h0 => absurd (by rw [← hI3 ps hpl];exact h0) hN,fun _ => Or.inr ?_⟩
  have hh := hI3 _ hr
  have hz : fitE p (k : Int) V = ofE p (k : Int) (headV p (k : Int) V) := by
   unfold fitE
   rw [hm,hb,hH,hh,decide_eq_false (errN_ne p (p.vs.getD k vz) V)]
   exact hh.symm ▸ rfl
  rw [hz,hH,hh,hI3 ps hpl]
end Go.Proofs.Ytgjpkpmikbpcnaa
