import Derived.Test.YtgjpkpmikbpcnaaOLoaLG
import Derived.Test.YtgjpkpmikbpcnaaOCntG
namespace Go.Proofs.Ytgjpkpmikbpcnaa
open Go.RowKit
def cQ (p:Prb) (v:Veh) (V:List Vst):Int :=
 bif !aQ p V then 161 else bif !cO V v.brks.length then 162 else bif !dH p v V then 163 else bif !cG v V then 164 else bif !cA p p.dims.toNat v V then 165 else bif !bN p (aB p v V) then 166 else 0
theorem mL (p:Prb) (v:Veh) (V:List Vst):dI p v V=bif decide (cQ p v V=0) then (bif !cR p.time (aB p v V) v.shift.1 then 167 else 0) else cQ p v V:=by
 unfold dI cQ
 cases aQ p V <;> cases cO V v.brks.length <;> cases dH p v V <;> cases cG v V <;> cases cA p p.dims.toNat v V <;> cases bN p (aB p v V) <;> rfl
def pF (p:Prb) (L:List Tsk):Nat:=L.foldl (fun a t=>a ||| (gJ p t).toNat) 0
theorem oF (p:Prb) (L:List Tsk) (t:Tsk):pF p (L ++ [t])=pF p L ||| (gJ p t).toNat:=by unfold pF;rw [List.foldl_append];rfl
theorem yeR (a b c:Nat):a ||| (b ||| c)=a↔a ||| b=a∧a ||| c=a:=by
 constructor
 ·intro h
  constructor
  ·refine Nat.eq_of_testBit_eq fun k=>?_;have h9:(a.testBit k || (b.testBit k || c.testBit k))=a.testBit k:=by have:=congrArg (Nat.testBit · k) h;rw [Nat.testBit_or,Nat.testBit_or] at this;exact this
   rw [Nat.testBit_or]
   revert h9
   cases a.testBit k <;> cases b.testBit k <;> cases c.testBit k <;> simp
  ·refine Nat.eq_of_testBit_eq fun k=>?_;have h9:(a.testBit k || (b.testBit k || c.testBit k))=a.testBit k:=by have:=congrArg (Nat.testBit · k) h;rw [Nat.testBit_or,Nat.testBit_or] at this;exact this
   rw [Nat.testBit_or]
   revert h9
   cases a.testBit k <;> cases b.testBit k <;> cases c.testBit k <;> simp
 ·rintro ⟨h1,h2⟩;rw [← Nat.or_assoc,h1,h2]
theorem able_or (p:Prb) (a:Int) (L:List Tsk):L.all (fun t=>eY a (gJ p t))=decide (a.toNat ||| pF p L=a.toNat):=by
 have key:L.all (fun t=>eY a (gJ p t))=true↔a.toNat ||| pF p L=a.toNat:=by
  refine cH (Q:=fun L:List Tsk=>L.all (fun t=>eY a (gJ p t))=true↔a.toNat ||| pF p L=a.toNat) (by simp [pF]) (fun L t ih=>?_) L;rw [List.all_append,Bool.and_eq_true,ih,oF,yeR]
  simp [eY]
 cases e:L.all (fun t=>eY a (gJ p t)) with
 | true=>exact (decide_eq_true (key.1 e)).symm
 | false=>exact (decide_eq_false fun h=>by rw [key.2 h] at e;cases e).symm
theorem yaP {p:Prb} (h:∀ t,Wd (gJ p t)) (L:List Tsk):pF p L<18446744073709551616:=by
 refine cH (Q:=fun L:List Tsk=>pF p L<18446744073709551616) (by simp [pF]) (fun L t ih=>?_) L;rw [oF];have:=h t;unfold Wd at this;exact Nat.or_lt_two_pow (n:=64) ih (by omega)
theorem dB (p:Prb) (v:Veh) (V:List Vst):bN p (aB p v V)=(List.range (V.length+1)).all fun i=>decide (0≤aE p.time (aB p v V) (i+1)) && decide (0≤aE p.dist (aB p v V) (i+1)):=by
 have key:bN p (aB p v V)=true↔((List.range (V.length+1)).all fun i=>decide (0≤aE p.time (aB p v V) (i+1)) && decide (0≤aE p.dist (aB p v V) (i+1)))=true:=by
  unfold bN;rw [aO]
  constructor
  ·intro h;exact gY fun i hi=>nM h (show i+1<V.length+2 by omega)
  ·intro h;refine gY fun i hi=>?_
   cases i with
   | zero=>simp [aE]
   | succ i=>exact nM h (by omega)
 cases e:bN p (aB p v V) with
 | true=>exact (key.1 e).symm
 | false =>
  cases e2:(List.range (V.length+1)).all fun i=>decide (0≤aE p.time (aB p v V) (i+1)) && decide (0≤aE p.dist (aB p v V) (i+1)) with
  | false=>rfl
  | true=>rw [key.2 e2] at e;cases e
theorem ycM {p:Prb} {dd:Nat} (h:aY p=true) (hd:p.dims=dd) (v:Veh) (V:List Vst):cA p dd v V=(List.range (V.length+1)).all fun k=>Ld.underB (bY p dd V k) v.cap:=by
 have e:bZ p dd V=(List.range (V.length+1)).map (bY p dd V):=by
  refine List.ext_getElem? fun k=>?_
  by_cases hk:k≤V.length
  ·rw [lX h hd V k hk]
   simp [show k<V.length+1 by omega]
  ·rw [List.getElem?_eq_none (by rw [eG];omega),List.getElem?_eq_none (by simp;omega)]
 unfold cA;rw [e,List.all_map]
 rfl
theorem zK {p:Prb} {v:Veh} {V:List Vst} {i:Nat} {kd it:Int} (hw:aQ p V=true) (h:V[i]? = some (kd,it)):((aB p v V).getD (i+1) sz).place=if aI p kd it=true then (aS p kd it).place else ((aB p v V).getD i sz).place:=by
 rw [gD h];unfold aM
 by_cases h4:kd=4
 ·subst h4;have:aI p 4 it=false:=by unfold aI ofM;simp
  rw [if_pos rfl,if_neg (by rw [this];simp)]
 ·have ht:aI p kd it=true:=(((dE p V).1 hw).1 i _ h h4).1;rw [if_neg h4,if_pos ht]
theorem yeL (V:List Vst) (n:Nat) (h:gC 0 V=some n) (m:Nat):cO V m=decide (n=m):=by
 unfold cO;rw [h]
 simp
end Go.Proofs.Ytgjpkpmikbpcnaa
namespace Go.Proofs.Ytgjpkpmikbpcnaa
open Go.RowKit
theorem oI {p:Prb} {dd:Nat} (h:aY p=true) (hd:p.dims=dd) (V:List Vst) (k:Nat) (hk:k≤V.length):(dG p dd V).getD k []=bY p dd V k:=by
 unfold dG;rw [List.getD_eq_getElem?_getD,List.getElem?_append_left (by rw [eG];omega),lX h hd V k hk]
 rfl
theorem kP (p:Prb) (dd:Nat) (V:List Vst):(bZ p dd V)[V.length]? = some (dV p (startM p dd V) V):=by
 unfold bZ
 cases hV:V with
 | nil=>rfl
 | cons u W =>
  rw [← hV,show V.length=W.length+1 by rw [hV];rfl,List.getElem?_cons_succ,pP _ _ W.length (by rw [hV];simp),List.take_of_length_le (by rw [hV];simp)]
theorem qZ {p:Prb} {dd:Nat} (h:aY p=true) (hd:p.dims=dd) (V:List Vst):(dG p dd V).getD (V.length+1) []=bY p dd V V.length:=by
 have e1:=kP p dd V;rw [lX h hd V _ (Nat.le_refl _)] at e1;injection e1 with e1;unfold dG;rw [List.getD_eq_getElem?_getD,List.getElem?_append_right (by rw [eG];exact Nat.le_refl _),eG,Nat.sub_self,e1]
 rfl
theorem wZ (V:List Vst):(cE V).getD 0 (0,0)=(5,0):=rfl
theorem sP {V:List Vst} {i:Nat} {u:Vst} (h:V[i]? = some u):(cE V).getD (i+1) (0,0)=u:=by
 unfold cE;have hi:=(List.getElem?_eq_some_iff.1 h).1;rw [List.getD_eq_getElem?_getD,List.getElem?_cons_succ,List.getElem?_append_left hi,h]
 rfl
theorem qO (V:List Vst):(cE V).getD (V.length+1) (0,0)=(6,0):=by
 unfold cE;rw [List.getD_eq_getElem?_getD,List.getElem?_cons_succ,List.getElem?_append_right (Nat.le_refl _),Nat.sub_self]
 rfl
theorem wG {t:Int} {L:List Win} (h:Lw L) (hs:(Hr.startM t L).2=true):t≤(Hr.startM t L).1:=by
 rcases Hr.startM_is t L h with ⟨_,h2,_,_⟩ | ⟨e,_⟩
 ·exact h2
 ·rw [e] at hs;cases hs
theorem sJ {t:Int} {w:Win} (h1:w.1≤t) (h2:t≤w.2):Hr.startM t [w]=(t,true):=by
 unfold Hr.startM;rw [if_pos h2]
 by_cases h:w.1<t
 ·rw [if_pos h]
 ·rw [if_neg h,show w.1=t by omega]
theorem yY {t:Int} {w:Win} (h2:¬ t≤w.2):Hr.startM t [w]=(0,false):=by
 unfold Hr.startM;rw [if_neg h2]
 rfl
section
variable {p:Prb} {v:Veh} {V:List Vst}
theorem l7 (hs:v.shift.1≤v.shift.2):dR p.time (aB p v V) v.shift.1 0=(v.shift.1,true):=by
 unfold dR eQ;rw [cK];show Hr.startM (v.shift.1+0) [v.shift]=_;rw [Int.add_zero];exact sJ (Int.le_refl _) hs
theorem lf_one (hs:v.shift.1≤v.shift.2):lfM p.time (aB p v V) v.shift.1 1=v.shift.1:=by
 rw [eP,l7 hs,cK];show v.shift.1+0=_
 omega
theorem ye2 (hl:aY p=true) (hv:iS p.dims p.time.n v):∀ i,(∀ j,j<i→(dR p.time (aB p v V) v.shift.1 j).2=true)→(∀ j,j<i→0≤aE p.time (aB p v V) j)→v.shift.1≤lfM p.time (aB p v V) v.shift.1 i
 | 0,_,_=>Int.le_refl _
 | i+1,h1,h2=>by
  have ih:=ye2 hl hv i (fun j hj=>h1 j (by omega)) (fun j hj=>h2 j (by omega));have hso:=fP hl hv V i;have hb:=wG hso.1 (h1 i (by omega));have ht:=h2 i (by omega);rw [eP];unfold dR at hb ⊢;unfold eQ at hb ⊢;have:=hso.2
  omega
theorem mI (h:bN p (aB p v V)=true) {j:Nat} (hj:j<V.length+2):0≤aE p.time (aB p v V) j∧0≤aE p.dist (aB p v V) j:=by
 unfold bN at h;rw [aO] at h;have:=nM h hj
 simpa using this
theorem yP (h:∀ j,j<V.length+2→(dR p.time (aB p v V) v.shift.1 j).2=true):cR p.time (aB p v V) v.shift.1=true:=by
 unfold cR;rw [aO];exact gY h
theorem sG {j:Nat} (hj:j<V.length+2) (h:(dR p.time (aB p v V) v.shift.1 j).2=false):cR p.time (aB p v V) v.shift.1=false:=by
 unfold cR;rw [aO];exact cU hj h
theorem oE {dd:Nat} (hl:aY p=true) (hd:p.dims=dd) (hs:v.shift.1≤v.shift.2):bG p dd v.shift.1 V (aB p v V) 0=⟨5,0,v.start,v.shift.1,0,0,bY p dd V 0,0,0⟩:=by
 unfold bG bW;rw [wZ,l7 hs,oI hl hd V 0 (Nat.zero_le _),cK];have e1:eQ p.time (aB p v V) v.shift.1 0=v.shift.1:=by unfold eQ;show v.shift.1+0=_;omega
 rw [e1];have e2:∀ m,aH (aE m (aB p v V)) (0+1)=0:=fun m=>rfl;rw [e2,e2];show (⟨5,0,v.start,v.shift.1,v.shift.1-v.shift.1,0,bY p dd V 0,0,0⟩:gA)=_;rw [Int.sub_self]
theorem yd0 (hs:v.shift.1≤v.shift.2):aH (aE p.time (aB p v V)) 1=0∧aH (aE p.dist (aB p v V)) 1=0∧aH (bW p.time (aB p v V) v.shift.1) 1=0∧aH (fR (aB p v V)) 1=0:=by
 refine ⟨rfl,rfl,?_,?_⟩
 ·show 0+bW p.time (aB p v V) v.shift.1 0=0;unfold bW;rw [l7 hs];have e1:eQ p.time (aB p v V) v.shift.1 0=v.shift.1:=by unfold eQ;show v.shift.1+0=_;omega
  rw [e1]
  omega
 ·show 0+((aB p v V).getD 0 sz).serv=0;rw [cK]
  rfl
theorem step_at {dd i:Nat} {u:Vst} {f:Int} (hl:aY p=true) (hd:p.dims=dd) (h:V[i]? = some u):bG p dd f V (aB p v V) (i+1)=⟨u.1,u.2,((aB p v V).getD (i+1) sz).place,eQ p.time (aB p v V) f (i+1),bW p.time (aB p v V) f (i+1),((aB p v V).getD (i+1) sz).serv,bY p dd V (i+1),aH (aE p.time (aB p v V)) (i+2),aH (aE p.dist (aB p v V)) (i+2)⟩:=by
 have hi:=(List.getElem?_eq_some_iff.1 h).1;unfold bG;rw [sP h,oI hl hd V (i+1) (by omega)]
theorem wF {dd:Nat} {f:Int} (hl:aY p=true) (hd:p.dims=dd):bG p dd f V (aB p v V) (V.length+1)=⟨6,0,v.stop,eQ p.time (aB p v V) f (V.length+1),bW p.time (aB p v V) f (V.length+1),0,bY p dd V V.length,aH (aE p.time (aB p v V)) (V.length+2),aH (aE p.dist (aB p v V)) (V.length+2)⟩:=by
 unfold bG;rw [qO,qZ hl hd V,fQ]
 rfl
end
end Go.Proofs.Ytgjpkpmikbpcnaa
