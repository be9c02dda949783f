/-
  Plain: the first thing that is wrong with a list but for its times, by the document's words.
-/
import Derived.Test.YtgjpkpmikbpcnaaWSamP
import Derived.Test.YtgjpkpmikbpcnaaXPtsG
import Derived.Test.YtgjpkpmikbpcnaaXRTskG
namespace Go.Proofs.Ytgjpkpmikbpcnaa
open Go.RowKit
def firstM (p : Prb) (v : Veh) (V : List Vst) : Int :=
 bif !wholeM p V then 161 else bif !restM V v.brks.length then 162 else bif !ableM p v V then 163 else bif !smallM v V then 164 else bif !lightM p p.dims.toNat v V then 165 else bif !linkedM p (stopsM p v V) then 166 else 0
theorem errV_first (p : Prb) (v : Veh) (V : List Vst) : errV p v V = bif decide (firstM p v V = 0) then (bif !timelyM p.time (stopsM p v V) v.shift.1 then 167 else 0) else firstM p v V := by
 unfold errV firstM
 cases wholeM p V <;> cases restM V v.brks.length <;> cases ableM p v V <;> cases smallM v V <;> cases lightM p p.dims.toNat v V <;> cases linkedM p (stopsM p v V) <;> rfl
def sklO (p : Prb) (L : List Tsk) : Nat := L.foldl (fun a t => a ||| (sklM p t).toNat) 0
theorem sklO_snoc (p : Prb) (L : List Tsk) (t : Tsk) : sklO p (L ++ [t]) = sklO p L ||| (sklM p t).toNat := by unfold sklO;rw [List.foldl_append];rfl
theorem or_three (a b c : Nat) : a ||| (b ||| c) = a ↔ a ||| b = a ∧ a ||| c = a := by
 constructor
 ·intro h
  constructor
  ·refine Nat.eq_of_testBit_eq fun k => ?_
   have h9 : (a.testBit k || (b.testBit k || c.testBit k)) = a.testBit k := by have := congrArg (Nat.testBit · k) h;rw [Nat.testBit_or,Nat.testBit_or] at this;exact this
   rw [Nat.testBit_or]
   revert h9
   cases a.testBit k <;> cases b.testBit k <;> cases c.testBit k <;> simp
  ·refine Nat.eq_of_testBit_eq fun k => ?_
   have h9 : (a.testBit k || (b.testBit k || c.testBit k)) = a.testBit k := by have := congrArg (Nat.testBit · k) h;rw [Nat.testBit_or,Nat.testBit_or] at this;exact this
   rw [Nat.testBit_or]
   revert h9
   cases a.testBit k <;> cases b.testBit k <;> cases c.testBit k <;> simp
 ·rintro ⟨h1,h2⟩
  rw [← Nat.or_assoc,h1,h2]
theorem able_or (p : Prb) (a : Int) (L : List Tsk) : L.all (fun t => coversB a (sklM p t)) = decide (a.toNat ||| sklO p L = a.toNat) := by
 have key : L.all (fun t => coversB a (sklM p t)) = true ↔ a.toNat ||| sklO p L = a.toNat := by
  refine foldl_snoc_ind (Q := fun L : List Tsk => L.all (fun t => coversB a (sklM p t)) = true ↔ a.toNat ||| sklO p L = a.toNat) (by simp [sklO]) (fun L t ih => ?_) L
  rw [List.all_append,Bool.and_eq_true,ih,sklO_snoc,or_three]
  simp [coversB]
 cases e : L.all (fun t => coversB a (sklM p t)) with
 | true => exact (decide_eq_true (key.1 e)).symm
 | false => exact (decide_eq_false fun h => by rw [key.2 h] at e;cases e).symm
theorem sklO_lt {p : Prb} (h : ∀ t,Wd (sklM p t)) (L : List Tsk) : sklO p L < 18446744073709551616 := by
 refine foldl_snoc_ind (Q := fun L : List Tsk => sklO p L < 18446744073709551616) (by simp [sklO]) (fun L t ih => ?_) L
 rw [sklO_snoc]
 have := h t
 unfold Wd at this
 exact Nat.or_lt_two_pow (n := 64) ih (by omega)
theorem linked_all (p : Prb) (v : Veh) (V : List Vst) : linkedM p (stopsM p v V) = (List.range (V.length + 1)).all fun i => decide (0 ≤ travelM p.time (stopsM p v V) (i + 1)) && decide (0 ≤ travelM p.dist (stopsM p v V) (i + 1)) := by
 have key : linkedM p (stopsM p v V) = true ↔ ((List.range (V.length + 1)).all fun i => decide (0 ≤ travelM p.time (stopsM p v V) (i + 1)) && decide (0 ≤ travelM p.dist (stopsM p v V) (i + 1))) = true := by
  unfold linkedM
  rw [stopsM_len]
  constructor
  ·intro h
   exact all_yes fun i hi => all_get h (show i + 1 < V.length + 2 by omega)
  ·intro h
   refine all_yes fun i hi => ?_
   cases i with
   | zero => simp [travelM]
   | succ i => exact all_get h (by omega)
 cases e : linkedM p (stopsM p v V) with
 | true => exact (key.1 e).symm
 | false =>
  cases e2 : (List.range (V.length + 1)).all fun i => decide (0 ≤ travelM p.time (stopsM p v V) (i + 1)) && decide (0 ≤ travelM p.dist (stopsM p v V) (i + 1)) with
  | false => rfl
  | true => rw [key.2 e2] at e;cases e
theorem light_all {p : Prb} {dd : Nat} (h : lawM p = true) (hd : p.dims = dd) (v : Veh) (V : List Vst) : lightM p dd v V = (List.range (V.length + 1)).all fun k => Ld.underB (rldM p dd V k) v.cap := by
 have e : loadsM p dd V = (List.range (V.length + 1)).map (rldM p dd V) := by
  refine List.ext_getElem? fun k => ?_
  by_cases hk : k ≤ V.length
  ·rw [loads_rld h hd V k hk]
   simp [show k < V.length + 1 by omega]
  ·rw [List.getElem?_eq_none (by rw [loadsM_len];omega),List.getElem?_eq_none (by simp;omega)]
 unfold lightM
 rw [e,List.all_map]
 rfl
theorem next_place {p : Prb} {v : Veh} {V : List Vst} {i : Nat} {kd it : Int} (hw : wholeM p V = true) (h : V[i]? = some (kd,it)) : ((stopsM p v V).getD (i + 1) sz).place = if thereV p kd it = true then (stpM p kd it).place else ((stopsM p v V).getD i sz).place := by
 rw [stop_at h]
 unfold stopW
 by_cases h4 : kd = 4
 ·subst h4
  have : thereV p 4 it = false := by unfold thereV ofM;simp
  rw [if_pos rfl,if_neg (by rw [this];simp)]
 ·have ht : thereV p kd it = true := (((wholeM_iff p V).1 hw).1 i _ h h4).1
  rw [if_neg h4,if_pos ht]
theorem rest_end (V : List Vst) (n : Nat) (h : brkF 0 V = some n) (m : Nat) : restM V m = decide (n = m) := by
 unfold restM
 rw [h]
 simp
end Go.Proofs.Ytgjpkpmikbpcnaa
