/-
  Plain: a problem with one vehicle more, the same as vehicle k; two vehicles that are the same drive the same plan.
-/
import Derived.Test.YtgjpkpmikbpcnaaWFitD
namespace Go.Proofs.Ytgjpkpmikbpcnaa
open Go.RowKit
def alikeP (p : Prb) (k : Nat) : Prb := ⟨p.dims,p.time,p.dist,p.vs ++ [p.vs.getD k vz],p.js,p.ss⟩
theorem alk_at {p : Prb} {k : Nat} (hk : k < p.vs.length) : (alikeP p k).vs.getD k vz = p.vs.getD k vz := by
 show (p.vs ++ [p.vs.getD k vz]).getD k vz = _
 rw [List.getD_eq_getElem?_getD,List.getElem?_append_left hk,List.getD_eq_getElem?_getD]
theorem alk_end {p : Prb} {k : Nat} : (alikeP p k).vs.getD p.vs.length vz = p.vs.getD k vz := by
 show (p.vs ++ [p.vs.getD k vz]).getD p.vs.length vz = _
 rw [List.getD_eq_getElem?_getD,List.getElem?_append_right (Nat.le_refl _)]
 simp
theorem alk_len (p : Prb) (k : Nat) : (alikeP p k).vs.length = p.vs.length + 1 := by
 show (p.vs ++ [p.vs.getD k vz]).length = _
 simp
theorem alk_law {p : Prb} {k : Nat} (hl : lawM p = true) (hk : k < p.vs.length) (h3 : p.vs.length ≤ 3) : lawM (alikeP p k) = true := by
 obtain ⟨a1,a2,a3,a4,a5⟩ := lawM_ok hl
 have hv := law_veh hl hk
 have b4 : fewB (alikeP p k) = true := by
  unfold fewB at a4 ⊢
  rw [alk_len]
  have h9 := of_decide_eq_true a4
  exact decide_eq_true ⟨by omega,h9.2⟩
 have b5 : allB (alikeP p k) = true := by
  unfold allB at a5 ⊢
  simp only [Bool.and_eq_true] at a5 ⊢
  refine ⟨⟨?_,a5.1.2⟩,a5.2⟩
  show (p.vs ++ [p.vs.getD k vz]).all _ = true
  rw [List.all_append,Bool.and_eq_true]
  refine ⟨a5.1.1,?_⟩
  rw [List.all_cons,List.all_nil,Bool.and_true]
  exact hv
 unfold lawM
 refine decide_eq_true ?_
 unfold checkM
 have e1 : (dimB (alikeP p k) && matB (alikeP p k).time.n (alikeP p k).time && matB (alikeP p k).time.n (alikeP p k).dist) = true := by
  show (dimB p && matB p.time.n p.time && matB p.time.n p.dist) = true
  rw [a1,a2,a3];rfl
 rw [if_neg (by rw [e1];decide),if_neg (by rw [b4];decide),if_neg (by rw [b5];decide)]
theorem plan_as (q : Prb) (i j : Int) (v : Veh) (U : List Vst) : planM q i v U = { planM q j v U with veh := i } := rfl
theorem alk_fit {q : Prb} {i j : Nat} (hi : i < q.vs.length) (hj : j < q.vs.length) (hv : q.vs.getD i vz = q.vs.getD j vz) (V : List Vst) : fitE q (i : Int) V = fitE q (j : Int) V ∧ (fitE q (i : Int) V = 0 → fitP q (i : Int) V = { fitP q (j : Int) V with veh := (i : Int) }) := by
 have hmi : manB q (i : Int) = true := by unfold manB;simp [hi]
 have hmj : manB q (j : Int) = true := by unfold manB;simp [hj]
 have ti : ((i : Int)).toNat = i := by simp
 have tj : ((j : Int)).toNat = j := by simp
 have hE : ∀ U,ofE q (i : Int) U = ofE q (j : Int) U := fun U => by rw [ofE_man hmi,ofE_man hmj,ti,tj,hv]
 have hP : ∀ U,ofE q (i : Int) U = 0 → ofP q (i : Int) U = { ofP q (j : Int) U with veh := (i : Int) } := fun U h => by
  have h2 : ofE q (j : Int) U = 0 := by rw [← hE];exact h
  unfold ofP
  rw [h,h2,ti,tj,hv]
  exact plan_as q i j _ U
 have hH : headV q (i : Int) V = headV q (j : Int) V := by unfold headV;rw [ti,tj,hv]
 unfold fitE fitP
 rw [hmi,hmj,hH,hE,ti,tj,hv]
 cases hasB V with
 | true => exact ⟨rfl,fun h => by cases h⟩
 | false =>
  cases hd : decide (ofE q (j : Int) (headV q (j : Int) V) = 167) with
  | true =>
   cases hs : seekP q (q.vs.getD j vz) V with
   | none => exact ⟨rfl,fun h => by cases h⟩
   | some ps => exact ⟨hE _,fun h => hP _ h⟩
  | false => exact ⟨rfl,fun h => hP _ (by rw [hE];exact h)⟩
end Go.Proofs.Ytgjpkpmikbpcnaa
