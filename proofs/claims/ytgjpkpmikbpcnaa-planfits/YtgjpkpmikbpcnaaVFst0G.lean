import Derived.Test.YtgjpkpmikbpcnaaVLoaLG
import Derived.Test.YtgjpkpmikbpcnaaVCntG
namespace Go.Proofs.Ytgjpkpmikbpcnaa
open Go.RowKit
def cM (p : Prb) (v : Veh) (V : List Vst) : Int :=
 bif !aQ p V then 161 else bif !cR V v.brks.length then 162 else bif !dI p v V then 163 else bif !cK v V then 164 else bif !cL p p.dims.toNat v V then 165 else bif !bP p (aD p v V) then 166 else 0
theorem l7 (p : Prb) (v : Veh) (V : List Vst) : dP p v V = bif decide (cM p v V = 0) then (bif !dE p.time (aD p v V) v.shift.1 then 167 else 0) else cM p v V := by
 unfold dP cM
 cases aQ p V <;> cases cR V v.brks.length <;> cases dI p v V <;> cases cK v V <;> cases cL p p.dims.toNat v V <;> cases bP p (aD p v V) <;> rfl
def oN (p : Prb) (L : List Tsk) : Nat := L.foldl (fun a t => a ||| (fW p t).toNat) 0
theorem nE (p : Prb) (L : List Tsk) (t : Tsk) : oN p (L ++ [t]) = oN p L ||| (fW p t).toNat := by unfold oN;rw [List.foldl_append];rfl
theorem ydJ (a b c : Nat) : a ||| (b ||| c) = a ↔ a ||| b = a ∧ a ||| c = a := by
 constructor
 ·intro h
  constructor
  ·refine Nat.eq_of_testBit_eq fun k => ?_;have h9 : (a.testBit k || (b.testBit k || c.testBit k)) = a.testBit k := by have := congrArg (Nat.testBit · k) h;rw [Nat.testBit_or,Nat.testBit_or] at this;exact this
   rw [Nat.testBit_or]
   revert h9
   cases a.testBit k <;> cases b.testBit k <;> cases c.testBit k <;> simp
  ·refine Nat.eq_of_testBit_eq fun k => ?_;have h9 : (a.testBit k || (b.testBit k || c.testBit k)) = a.testBit k := by have := congrArg (Nat.testBit · k) h;rw [Nat.testBit_or,Nat.testBit_or] at this;exact this
   rw [Nat.testBit_or]
   revert h9
   cases a.testBit k <;> cases b.testBit k <;> cases c.testBit k <;> simp
 ·rintro ⟨h1,h2⟩;rw [← Nat.or_assoc,h1,h2]
theorem able_or (p : Prb) (a : Int) (L : List Tsk) : L.all (fun t => eG a (fW p t)) = decide (a.toNat ||| oN p L = a.toNat) := by
 have key : L.all (fun t => eG a (fW p t)) = true ↔ a.toNat ||| oN p L = a.toNat := by
  refine cE (Q := fun L : List Tsk => L.all (fun t => eG a (fW p t)) = true ↔ a.toNat ||| oN p L = a.toNat) (by simp [oN]) (fun L t ih => ?_) L;rw [List.all_append,Bool.and_eq_true,ih,nE,ydJ]
  simp [eG]
 cases e : L.all (fun t => eG a (fW p t)) with
 | true => exact (decide_eq_true (key.1 e)).symm
 | false => exact (decide_eq_false fun h => by rw [key.2 h] at e;cases e).symm
theorem yW {p : Prb} (h : ∀ t,Wd (fW p t)) (L : List Tsk) : oN p L < 18446744073709551616 := by
 refine cE (Q := fun L : List Tsk => oN p L < 18446744073709551616) (by simp [oN]) (fun L t ih => ?_) L;rw [nE];have := h t;unfold Wd at this;exact Nat.or_lt_two_pow (n := 64) ih (by omega)
theorem cW (p : Prb) (v : Veh) (V : List Vst) : bP p (aD p v V) = (List.range (V.length + 1)).all fun i => decide (0 ≤ aE p.time (aD p v V) (i + 1)) && decide (0 ≤ aE p.dist (aD p v V) (i + 1)) := by
 have key : bP p (aD p v V) = true ↔ ((List.range (V.length + 1)).all fun i => decide (0 ≤ aE p.time (aD p v V) (i + 1)) && decide (0 ≤ aE p.dist (aD p v V) (i + 1))) = true := by
  unfold bP;rw [bJ]
  constructor
  ·intro h;exact gU fun i hi => o4 h (show i + 1 < V.length + 2 by omega)
  ·intro h;refine gU fun i hi => ?_
   cases i with
   | zero => simp [aE]
   | succ i => exact o4 h (by omega)
 cases e : bP p (aD p v V) with
 | true => exact (key.1 e).symm
 | false =>
  cases e2 : (List.range (V.length + 1)).all fun i => decide (0 ≤ aE p.time (aD p v V) (i + 1)) && decide (0 ≤ aE p.dist (aD p v V) (i + 1)) with
  | false => rfl
  | true => rw [key.2 e2] at e;cases e
theorem ybD {p : Prb} {dd : Nat} (h : bC p = true) (hd : p.dims = dd) (v : Veh) (V : List Vst) : cL p dd v V = (List.range (V.length + 1)).all fun k => Ld.underB (bZ p dd V k) v.cap := by
 have e : cD p dd V = (List.range (V.length + 1)).map (bZ p dd V) := by
  refine List.ext_getElem? fun k => ?_
  by_cases hk : k ≤ V.length
  ·rw [nH h hd V k hk]
   simp [show k < V.length + 1 by omega]
  ·rw [List.getElem?_eq_none (by rw [eJ];omega),List.getElem?_eq_none (by simp;omega)]
 unfold cL;rw [e,List.all_map]
 rfl
theorem xS {p : Prb} {v : Veh} {V : List Vst} {i : Nat} {kd it : Int} (hw : aQ p V = true) (h : V[i]? = some (kd,it)) : ((aD p v V).getD (i + 1) sz).place = if aH p kd it = true then (aZ p kd it).place else ((aD p v V).getD i sz).place := by
 rw [gP h];unfold aM
 by_cases h4 : kd = 4
 ·subst h4;have : aH p 4 it = false := by unfold aH ofM;simp
  rw [if_pos rfl,if_neg (by rw [this];simp)]
 ·have ht : aH p kd it = true := (((dW p V).1 hw).1 i _ h h4).1;rw [if_neg h4,if_pos ht]
theorem ydE (V : List Vst) (n : Nat) (h : gT 0 V = some n) (m : Nat) : cR V m = decide (n = m) := by
 unfold cR;rw [h]
 simp
end Go.Proofs.Ytgjpkpmikbpcnaa
namespace Go.Proofs.Ytgjpkpmikbpcnaa
open Go.RowKit
theorem nI {p : Prb} {dd : Nat} (h : bC p = true) (hd : p.dims = dd) (V : List Vst) (k : Nat) (hk : k ≤ V.length) : (fP p dd V).getD k [] = bZ p dd V k := by
 unfold fP;rw [List.getD_eq_getElem?_getD,List.getElem?_append_left (by rw [eJ];omega),nH h hd V k hk]
 rfl
theorem vM (p : Prb) (dd : Nat) (V : List Vst) : (cD p dd V)[V.length]? = some (dM p (startM p dd V) V) := by
 unfold cD
 cases hV : V with
 | nil => rfl
 | cons u W =>
  rw [← hV,show V.length = W.length + 1 by rw [hV];rfl,List.getElem?_cons_succ,oV _ _ W.length (by rw [hV];simp),List.take_of_length_le (by rw [hV];simp)]
theorem p9 {p : Prb} {dd : Nat} (h : bC p = true) (hd : p.dims = dd) (V : List Vst) : (fP p dd V).getD (V.length + 1) [] = bZ p dd V V.length := by
 have e1 := vM p dd V;rw [nH h hd V _ (Nat.le_refl _)] at e1;injection e1 with e1;unfold fP;rw [List.getD_eq_getElem?_getD,List.getElem?_append_right (by rw [eJ];exact Nat.le_refl _),eJ,Nat.sub_self,e1]
 rfl
theorem vC (V : List Vst) : (cZ V).getD 0 (0,0) = (5,0) := rfl
theorem ya3 {V : List Vst} {i : Nat} {u : Vst} (h : V[i]? = some u) : (cZ V).getD (i + 1) (0,0) = u := by
 unfold cZ;have hi := (List.getElem?_eq_some_iff.1 h).1;rw [List.getD_eq_getElem?_getD,List.getElem?_cons_succ,List.getElem?_append_left hi,h]
 rfl
theorem xP (V : List Vst) : (cZ V).getD (V.length + 1) (0,0) = (6,0) := by
 unfold cZ;rw [List.getD_eq_getElem?_getD,List.getElem?_cons_succ,List.getElem?_append_right (Nat.le_refl _),Nat.sub_self]
 rfl
theorem ycT {t : Int} {L : List Win} (h : Lw L) (hs : (Hr.startM t L).2 = true) : t ≤ (Hr.startM t L).1 := by
 rcases Hr.startM_is t L h with ⟨_,h2,_,_⟩ | ⟨e,_⟩
 ·exact h2
 ·rw [e] at hs;cases hs
theorem q8 {t : Int} {w : Win} (h1 : w.1 ≤ t) (h2 : t ≤ w.2) : Hr.startM t [w] = (t,true) := by
 unfold Hr.startM;rw [if_pos h2]
 by_cases h : w.1 < t
 ·rw [if_pos h]
 ·rw [if_neg h,show w.1 = t by omega]
theorem xG {t : Int} {w : Win} (h2 : ¬ t ≤ w.2) : Hr.startM t [w] = (0,false) := by
 unfold Hr.startM;rw [if_neg h2]
 rfl
section
variable {p : Prb} {v : Veh} {V : List Vst}
theorem lO (hs : v.shift.1 ≤ v.shift.2) : dY p.time (aD p v V) v.shift.1 0 = (v.shift.1,true) := by
 unfold dY gM;rw [cY];show Hr.startM (v.shift.1 + 0) [v.shift] = _;rw [Int.add_zero];exact q8 (Int.le_refl _) hs
theorem lf_one (hs : v.shift.1 ≤ v.shift.2) : lfM p.time (aD p v V) v.shift.1 1 = v.shift.1 := by
 rw [gC,lO hs,cY];show v.shift.1 + 0 = _
 omega
theorem ydV (hl : bC p = true) (hv : jA p.dims p.time.n v) : ∀ i,(∀ j,j < i → (dY p.time (aD p v V) v.shift.1 j).2 = true) → (∀ j,j < i → 0 ≤ aE p.time (aD p v V) j) → v.shift.1 ≤ lfM p.time (aD p v V) v.shift.1 i
 | 0,_,_ => Int.le_refl _
 | i + 1,h1,h2 => by
  have ih := ydV hl hv i (fun j hj => h1 j (by omega)) (fun j hj => h2 j (by omega));have hso := kC hl hv V i;have hb := ycT hso.1 (h1 i (by omega));have ht := h2 i (by omega);rw [gC];unfold dY at hb ⊢;unfold gM at hb ⊢;have := hso.2
  omega
theorem qA (h : bP p (aD p v V) = true) {j : Nat} (hj : j < V.length + 2) : 0 ≤ aE p.time (aD p v V) j ∧ 0 ≤ aE p.dist (aD p v V) j := by
 unfold bP at h;rw [bJ] at h;have := o4 h hj
 simpa using this
theorem wX (h : ∀ j,j < V.length + 2 → (dY p.time (aD p v V) v.shift.1 j).2 = true) : dE p.time (aD p v V) v.shift.1 = true := by
 unfold dE;rw [bJ];exact gU h
theorem qY {j : Nat} (hj : j < V.length + 2) (h : (dY p.time (aD p v V) v.shift.1 j).2 = false) : dE p.time (aD p v V) v.shift.1 = false := by
 unfold dE;rw [bJ];exact cP hj h
theorem yaQ {dd : Nat} (hl : bC p = true) (hd : p.dims = dd) (hs : v.shift.1 ≤ v.shift.2) : cC p dd v.shift.1 V (aD p v V) 0 = ⟨5,0,v.start,v.shift.1,0,0,bZ p dd V 0,0,0⟩ := by
 unfold cC cG;rw [vC,lO hs,nI hl hd V 0 (Nat.zero_le _),cY];have e1 : gM p.time (aD p v V) v.shift.1 0 = v.shift.1 := by unfold gM;show v.shift.1 + 0 = _;omega
 rw [e1];have e2 : ∀ m,aN (aE m (aD p v V)) (0 + 1) = 0 := fun m => rfl;rw [e2,e2];show (⟨5,0,v.start,v.shift.1,v.shift.1 - v.shift.1,0,bZ p dd V 0,0,0⟩ : fL) = _;rw [Int.sub_self]
theorem ycM (hs : v.shift.1 ≤ v.shift.2) : aN (aE p.time (aD p v V)) 1 = 0 ∧ aN (aE p.dist (aD p v V)) 1 = 0 ∧ aN (cG p.time (aD p v V) v.shift.1) 1 = 0 ∧ aN (gN (aD p v V)) 1 = 0 := by
 refine ⟨rfl,rfl,?_,?_⟩
 ·show 0 + cG p.time (aD p v V) v.shift.1 0 = 0;unfold cG;rw [lO hs];have e1 : gM p.time (aD p v V) v.shift.1 0 = v.shift.1 := by unfold gM;show v.shift.1 + 0 = _;omega
  rw [e1]
  omega
 ·show 0 + ((aD p v V).getD 0 sz).serv = 0;rw [cY]
  rfl
theorem step_at {dd i : Nat} {u : Vst} {f : Int} (hl : bC p = true) (hd : p.dims = dd) (h : V[i]? = some u) : cC p dd f V (aD p v V) (i + 1) = ⟨u.1,u.2,((aD p v V).getD (i + 1) sz).place,gM p.time (aD p v V) f (i + 1),cG p.time (aD p v V) f (i + 1),((aD p v V).getD (i + 1) sz).serv,bZ p dd V (i + 1),aN (aE p.time (aD p v V)) (i + 2),aN (aE p.dist (aD p v V)) (i + 2)⟩ := by
 have hi := (List.getElem?_eq_some_iff.1 h).1;unfold cC;rw [ya3 h,nI hl hd V (i + 1) (by omega)]
theorem ycS {dd : Nat} {f : Int} (hl : bC p = true) (hd : p.dims = dd) : cC p dd f V (aD p v V) (V.length + 1) = ⟨6,0,v.stop,gM p.time (aD p v V) f (V.length + 1),cG p.time (aD p v V) f (V.length + 1),0,bZ p dd V V.length,aN (aE p.time (aD p v V)) (V.length + 2),aN (aE p.dist (aD p v V)) (V.length + 2)⟩ := by
 unfold cC;rw [xP,p9 hl hd V,iA]
 rfl
end
end Go.Proofs.Ytgjpkpmikbpcnaa
