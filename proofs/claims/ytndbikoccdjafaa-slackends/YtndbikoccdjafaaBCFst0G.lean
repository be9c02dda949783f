/-
  Several texts in one: CFst0 COfD0.
-/
import Derived.Test.YtndbikoccdjafaaBCLoaLG
import Derived.Test.YtndbikoccdjafaaBCPrs
import Derived.Test.YtndbikoccdjafaaBCRLd0G
import Derived.Test.YtndbikoccdjafaaBCPlBG
namespace Go.Proofs.Ytndbikoccdjafaa
open Go.RowKit
def firstM (p : Prb) (v : Veh) (V : List Vst) : Int :=
 bif !wholeM p V then 161 else bif !restM V v.brks.length then 162 else bif !ableM p v V then 163 else bif !smallM v V then 164 else bif !lightM p p.dims.toNat v V then 165 else bif !linkedM p (stopsM p v V) then 166 else 0
theorem errV_first (p : Prb) (v : Veh) (V : List Vst) : errV p v V = bif decide (firstM p v V = 0) then (bif !timelyM p.time (stopsM p v V) v.shift.1 then 167 else 0) else firstM p v V := by
 unfold errV firstM
 cases wholeM p V <;> cases restM V v.brks.length <;> cases ableM p v V <;> cases smallM v V <;> cases lightM p p.dims.toNat v V <;> cases linkedM p (stopsM p v V) <;> rfl
def sklO (p : Prb) (L : List Tsk) : Nat := L.foldl (fun a t => a ||| (sklM p t).toNat) 0
theorem sklO_snoc (p : Prb) (L : List Tsk) (t : Tsk) : sklO p (L ++ [t]) = sklO p L ||| (sklM p t).toNat := by unfold sklO;rw [List.foldl_append];rfl
theorem or_three (a b c : Nat) : a ||| (b ||| c) = a ↔ a ||| b = a ∧ a ||| c = a := by
 constructor
 ·intro h
  constructor
  ·refine Nat.eq_of_testBit_eq fun k => ?_
   have h9 : (a.testBit k || (b.testBit k || c.testBit k)) = a.testBit k := by have := congrArg (Nat.testBit · k) h;rw [Nat.testBit_or,Nat.testBit_or] at this;exact this
   rw [Nat.testBit_or]
   revert h9
   cases a.testBit k <;> cases b.testBit k <;> cases c.testBit k <;> simp
  ·refine Nat.eq_of_testBit_eq fun k => ?_
   have h9 : (a.testBit k || (b.testBit k || c.testBit k)) = a.testBit k := by have := congrArg (Nat.testBit · k) h;rw [Nat.testBit_or,Nat.testBit_or] at this;exact this
   rw [Nat.testBit_or]
   revert h9
   cases a.testBit k <;> cases b.testBit k <;> cases c.testBit k <;> simp
 ·rintro ⟨h1,h2⟩
  rw [← Nat.or_assoc,h1,h2]
theorem able_or (p : Prb) (a : Int) (L : List Tsk) : L.all (fun t => coversB a (sklM p t)) = decide (a.toNat ||| sklO p L = a.toNat) := by
 have key : L.all (fun t => coversB a (sklM p t)) = true ↔ a.toNat ||| sklO p L = a.toNat := by
  refine foldl_snoc_ind (Q := fun L : List Tsk => L.all (fun t => coversB a (sklM p t)) = true ↔ a.toNat ||| sklO p L = a.toNat) (by simp [sklO]) (fun L t ih => ?_) L
  rw [List.all_append,Bool.and_eq_true,ih,sklO_snoc,or_three]
  simp [coversB]
 cases e : L.all (fun t => coversB a (sklM p t)) with
 | true => exact (decide_eq_true (key.1 e)).symm
 | false => exact (decide_eq_false fun h => by rw [key.2 h] at e;cases e).symm
theorem sklO_lt {p : Prb} (h : ∀ t,Wd (sklM p t)) (L : List Tsk) : sklO p L < 18446744073709551616 := by
 refine foldl_snoc_ind (Q := fun L : List Tsk => sklO p L < 18446744073709551616) (by simp [sklO]) (fun L t ih => ?_) L
 rw [sklO_snoc]
 have := h t
 unfold Wd at this
 exact Nat.or_lt_two_pow (n := 64) ih (by omega)
theorem linked_all (p : Prb) (v : Veh) (V : List Vst) : linkedM p (stopsM p v V) = (List.range (V.length + 1)).all fun i => decide (0 ≤ travelM p.time (stopsM p v V) (i + 1)) && decide (0 ≤ travelM p.dist (stopsM p v V) (i + 1)) := by
 have key : linkedM p (stopsM p v V) = true ↔ ((List.range (V.length + 1)).all fun i => decide (0 ≤ travelM p.time (stopsM p v V) (i + 1)) && decide (0 ≤ travelM p.dist (stopsM p v V) (i + 1))) = true := by
  unfold linkedM
  rw [stopsM_len]
  constructor
  ·intro h
   exact all_yes fun i hi => all_get h (show i + 1 < V.length + 2 by omega)
  ·intro h
   refine all_yes fun i hi => ?_
   cases i with
   | zero => simp [travelM]
   | succ i => exact all_get h (by omega)
 cases e : linkedM p (stopsM p v V) with
 | true => exact (key.1 e).symm
 | false =>
  cases e2 : (List.range (V.length + 1)).all fun i => decide (0 ≤ travelM p.time (stopsM p v V) (i + 1)) && decide (0 ≤ travelM p.dist (stopsM p v V) (i + 1)) with
  | false => rfl
  | true => rw [key.2 e2] at e;cases e
theorem light_all {p : Prb} {dd : Nat} (h : lawM p = true) (hd : p.dims = dd) (v : Veh) (V : List Vst) : lightM p dd v V = (List.range (V.length + 1)).all fun k => Ld.underB (rldM p dd V k) v.cap := by
 have e : loadsM p dd V = (List.range (V.length + 1)).map (rldM p dd V) := by
  refine List.ext_getElem? fun k => ?_
  by_cases hk : k ≤ V.length
  ·rw [loads_rld h hd V k hk]
   simp [show k < V.length + 1 by omega]
  ·rw [List.getElem?_eq_none (by rw [loadsM_len];omega),List.getElem?_eq_none (by simp;omega)]
 unfold lightM
 rw [e,List.all_map]
 rfl
theorem next_place {p : Prb} {v : Veh} {V : List Vst} {i : Nat} {kd it : Int} (hw : wholeM p V = true) (h : V[i]? = some (kd,it)) : ((stopsM p v V).getD (i + 1) sz).place = if thereV p kd it = true then (stpM p kd it).place else ((stopsM p v V).getD i sz).place := by
 rw [stop_at h]
 unfold stopW
 by_cases h4 : kd = 4
 ·subst h4
  have : thereV p 4 it = false := by unfold thereV ofM;simp
  rw [if_pos rfl,if_neg (by rw [this];simp)]
 ·have ht : thereV p kd it = true := (((wholeM_iff p V).1 hw).1 i _ h h4).1
  rw [if_neg h4,if_pos ht]
theorem rest_end (V : List Vst) (n : Nat) (h : brkF 0 V = some n) (m : Nat) : restM V m = decide (n = m) := by
 unfold restM
 rw [h]
 simp
end Go.Proofs.Ytndbikoccdjafaa
namespace Go.Proofs.Ytndbikoccdjafaa
open Go.RowKit
theorem loadsT_at {p : Prb} {dd : Nat} (h : lawM p = true) (hd : p.dims = dd) (V : List Vst) (k : Nat) (hk : k ≤ V.length) : (loadsT p dd V).getD k [] = rldM p dd V k := by
 unfold loadsT
 rw [List.getD_eq_getElem?_getD,List.getElem?_append_left (by rw [loadsM_len];omega),loads_rld h hd V k hk]
 rfl
theorem loadsM_last (p : Prb) (dd : Nat) (V : List Vst) : (loadsM p dd V)[V.length]? = some (lastL p (startM p dd V) V) := by
 unfold loadsM
 cases hV : V with
 | nil => rfl
 | cons u W =>
  rw [← hV,show V.length = W.length + 1 by rw [hV];rfl,List.getElem?_cons_succ,goM_get _ _ W.length (by rw [hV];simp),List.take_of_length_le (by rw [hV];simp)]
theorem loadsT_end {p : Prb} {dd : Nat} (h : lawM p = true) (hd : p.dims = dd) (V : List Vst) : (loadsT p dd V).getD (V.length + 1) [] = rldM p dd V V.length := by
 have e1 := loadsM_last p dd V
 rw [loads_rld h hd V _ (Nat.le_refl _)] at e1
 injection e1 with e1
 unfold loadsT
 rw [List.getD_eq_getElem?_getD,List.getElem?_append_right (by rw [loadsM_len];exact Nat.le_refl _),loadsM_len,Nat.sub_self,e1]
 rfl
theorem points_zero (V : List Vst) : (pointsM V).getD 0 (0,0) = (5,0) := rfl
theorem points_at {V : List Vst} {i : Nat} {u : Vst} (h : V[i]? = some u) : (pointsM V).getD (i + 1) (0,0) = u := by
 unfold pointsM
 have hi := (List.getElem?_eq_some_iff.1 h).1
 rw [List.getD_eq_getElem?_getD,List.getElem?_cons_succ,List.getElem?_append_left hi,h]
 rfl
theorem points_end (V : List Vst) : (pointsM V).getD (V.length + 1) (0,0) = (6,0) := by
 unfold pointsM
 rw [List.getD_eq_getElem?_getD,List.getElem?_cons_succ,List.getElem?_append_right (Nat.le_refl _),Nat.sub_self]
 rfl
theorem start_ge {t : Int} {L : List Win} (h : Lw L) (hs : (Hr.startM t L).2 = true) : t ≤ (Hr.startM t L).1 := by
 rcases Hr.startM_is t L h with ⟨_,h2,_,_⟩ | ⟨e,_⟩
 ·exact h2
 ·rw [e] at hs;cases hs
theorem start_one {t : Int} {w : Win} (h1 : w.1 ≤ t) (h2 : t ≤ w.2) : Hr.startM t [w] = (t,true) := by
 unfold Hr.startM
 rw [if_pos h2]
 by_cases h : w.1 < t
 ·rw [if_pos h]
 ·rw [if_neg h,show w.1 = t by omega]
theorem start_over {t : Int} {w : Win} (h2 : ¬ t ≤ w.2) : Hr.startM t [w] = (0,false) := by
 unfold Hr.startM
 rw [if_neg h2]
 rfl
section
variable {p : Prb} {v : Veh} {V : List Vst}
theorem first_beg (hs : v.shift.1 ≤ v.shift.2) : begM p.time (stopsM p v V) v.shift.1 0 = (v.shift.1,true) := by
 unfold begM arrM
 rw [stop_zero]
 show Hr.startM (v.shift.1 + 0) [v.shift] = _
 rw [Int.add_zero]
 exact start_one (Int.le_refl _) hs
theorem lf_one (hs : v.shift.1 ≤ v.shift.2) : lfM p.time (stopsM p v V) v.shift.1 1 = v.shift.1 := by
 rw [lfM_succ,first_beg hs,stop_zero]
 show v.shift.1 + 0 = _
 omega
theorem lf_low (hl : lawM p = true) (hv : VehOk p.dims p.time.n v) : ∀ i,(∀ j,j < i → (begM p.time (stopsM p v V) v.shift.1 j).2 = true) → (∀ j,j < i → 0 ≤ travelM p.time (stopsM p v V) j) → v.shift.1 ≤ lfM p.time (stopsM p v V) v.shift.1 i
 | 0,_,_ => Int.le_refl _
 | i + 1,h1,h2 => by
  have ih := lf_low hl hv i (fun j hj => h1 j (by omega)) (fun j hj => h2 j (by omega))
  have hso := stops_ok hl hv V i
  have hb := start_ge hso.1 (h1 i (by omega))
  have ht := h2 i (by omega)
  rw [lfM_succ]
  unfold begM at hb ⊢
  unfold arrM at hb ⊢
  have := hso.2
  omega
theorem linked_get (h : linkedM p (stopsM p v V) = true) {j : Nat} (hj : j < V.length + 2) : 0 ≤ travelM p.time (stopsM p v V) j ∧ 0 ≤ travelM p.dist (stopsM p v V) j := by
 unfold linkedM at h
 rw [stopsM_len] at h
 have := all_get h hj
 simpa using this
theorem timely_yes (h : ∀ j,j < V.length + 2 → (begM p.time (stopsM p v V) v.shift.1 j).2 = true) : timelyM p.time (stopsM p v V) v.shift.1 = true := by
 unfold timelyM
 rw [stopsM_len]
 exact all_yes h
theorem timely_no {j : Nat} (hj : j < V.length + 2) (h : (begM p.time (stopsM p v V) v.shift.1 j).2 = false) : timelyM p.time (stopsM p v V) v.shift.1 = false := by
 unfold timelyM
 rw [stopsM_len]
 exact all_not hj h
theorem step_zero {dd : Nat} (hl : lawM p = true) (hd : p.dims = dd) (hs : v.shift.1 ≤ v.shift.2) : stepM p dd v.shift.1 V (stopsM p v V) 0 = ⟨5,0,v.start,v.shift.1,0,0,rldM p dd V 0,0,0⟩ := by
 unfold stepM waitM
 rw [points_zero,first_beg hs,loadsT_at hl hd V 0 (Nat.zero_le _),stop_zero]
 have e1 : arrM p.time (stopsM p v V) v.shift.1 0 = v.shift.1 := by unfold arrM;show v.shift.1 + 0 = _;omega
 rw [e1]
 have e2 : ∀ m,sumN (travelM m (stopsM p v V)) (0 + 1) = 0 := fun m => rfl
 rw [e2,e2]
 show (⟨5,0,v.start,v.shift.1,v.shift.1 - v.shift.1,0,rldM p dd V 0,0,0⟩ : StepT) = _
 rw [Int.sub_self]
theorem sums_one (hs : v.shift.1 ≤ v.shift.2) : sumN (travelM p.time (stopsM p v V)) 1 = 0 ∧ sumN (travelM p.dist (stopsM p v V)) 1 = 0 ∧ sumN (waitM p.time (stopsM p v V) v.shift.1) 1 = 0 ∧ sumN (servM (stopsM p v V)) 1 = 0 := by
 refine ⟨rfl,rfl,?_,?_⟩
 ·show 0 + waitM p.time (stopsM p v V) v.shift.1 0 = 0
  unfold waitM
  rw [first_beg hs]
  have e1 : arrM p.time (stopsM p v V) v.shift.1 0 = v.shift.1 := by unfold arrM;show v.shift.1 + 0 = _;omega
  rw [e1]
  omega
 ·show 0 + ((stopsM p v V).getD 0 sz).serv = 0
  rw [stop_zero]
  rfl
theorem step_at {dd i : Nat} {u : Vst} {f : Int} (hl : lawM p = true) (hd : p.dims = dd) (h : V[i]? = some u) : stepM p dd f V (stopsM p v V) (i + 1) = ⟨u.1,u.2,((stopsM p v V).getD (i + 1) sz).place,arrM p.time (stopsM p v V) f (i + 1),waitM p.time (stopsM p v V) f (i + 1),((stopsM p v V).getD (i + 1) sz).serv,rldM p dd V (i + 1),sumN (travelM p.time (stopsM p v V)) (i + 2),sumN (travelM p.dist (stopsM p v V)) (i + 2)⟩ := by
 have hi := (List.getElem?_eq_some_iff.1 h).1
 unfold stepM
 rw [points_at h,loadsT_at hl hd V (i + 1) (by omega)]
theorem step_end {dd : Nat} {f : Int} (hl : lawM p = true) (hd : p.dims = dd) : stepM p dd f V (stopsM p v V) (V.length + 1) = ⟨6,0,v.stop,arrM p.time (stopsM p v V) f (V.length + 1),waitM p.time (stopsM p v V) f (V.length + 1),0,rldM p dd V V.length,sumN (travelM p.time (stopsM p v V)) (V.length + 2),sumN (travelM p.dist (stopsM p v V)) (V.length + 2)⟩ := by
 unfold stepM
 rw [points_end,loadsT_end hl hd V,stop_end]
 rfl
end
end Go.Proofs.Ytndbikoccdjafaa
