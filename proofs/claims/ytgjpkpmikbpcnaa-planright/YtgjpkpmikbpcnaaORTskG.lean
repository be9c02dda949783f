import Derived.Test.YtgjpkpmikbpcnaaOLdsG
namespace Go.Proofs.Ytgjpkpmikbpcnaa
open Go.RowKit
theorem ybL {wr:World} {base k vc:Nat} {va:Option Addr} {L:List Tsk} {t:Tsk} {ops:Array Oper} {rest:List Oper} {o:Oper} {a:Act} {Q:Exit→Act→World→Prop} (s x:Operand)
  (hgd:o.guard=none) (ho:o.op=.call { callee:=.builtin .append,args:=#[s,x],argTypes:=#[49,49] })
  (hs:a.eval s=.slice va k vc) (hx:a.eval x=.slice (some ⟨wr.heap.size,0,none⟩) 1 1) (hrow:TRow wr base (.slice va k vc) L) (hk:L.length=k) (hk2:k≤100) (hb:base≤wr.heap.size)
  (h:∀ g' cap' w',TRow w' base (.slice (some ⟨g',0,none⟩) (k+1) cap') (L ++ [t])→Below base wr w'→wpList Try.prog ops Q rest (a.put o.dst (.slice (some ⟨g',0,none⟩) (k+1) cap')) w'):wpList Try.prog ops Q (o::rest) a (wr.alloc (.cells #[.bool t.1,.int .i64 t.2] 31)):=by
 obtain ⟨i0,hi0,hy0,hy1,hy2⟩:=info_parts info37;have fA:Below wr.heap.size wr (wr.alloc (.cells #[.bool t.1,.int .i64 t.2] 31)):=Mn.a;have hown:=hrow.later (Nat.le_refl _) fA;unfold TRow at hown;rw [hk] at hown;refine wpList_append_own _ hgd s x 49 ho base 31 i0 _ 2 16 Try.underlying49 hi0 hy0 hy1 hy2 rfl (by decide) _ k (tT L) hs hown ⟨wr.heap.size,0,none⟩ 1 1 (zY t) hx rfl (ydD wr t) ?_ (by unfold maxLen;omega) (by omega) (by simp;omega) ?_
 ·intro u hu
  simp [zY] at hu
  rcases hu with rfl | rfl <;> rfl
 ·intro v' w' h1 h2 h3;have e:tT L ++ zY t=tT (L ++ [t]):=by simp [tT]
  rw [e] at h1;have hrow:TRow w' base v' (L ++ [t]):=by unfold TRow;rw [List.length_append,hk];exact h1
  have f:Below base wr w':=(fA.mono hb).grown h2 (by simp;omega) fun q hq=>(hown.lt q hq).1
  rcases h1.2 with ⟨_,e2⟩ | ⟨g',cap',cur,rfl,_⟩
  ·omega
  ·exact h g' cap' w' hrow f
theorem ycE {w:World} {base base':Nat} {v:Value} {L:List Tsk} (h:TRow w base v L) (hb:base'≤base):TRow w base' v L:=by
 obtain ⟨h1,h2⟩:=h;refine ⟨h1,?_⟩
 rcases h2 with h2 | ⟨g,cap,cur,e,a,r⟩
 ·exact .inl h2
 ·exact .inr ⟨g,cap,cur,e,Nat.le_trans hb a,r⟩
end Go.Proofs.Ytgjpkpmikbpcnaa
namespace Go.Proofs.Ytgjpkpmikbpcnaa
open Go.RowKit
def mT (v:Vst):Option Tsk:=if v.1=1 then some (false,v.2) else if v.1=2 then some (true,v.2) else none
def bJ (V:List Vst):List Tsk:=V.filterMap mT
theorem kG {V:List Vst} {q:Nat} {v:Vst} {t:Tsk} (h:V[q]? = some v) (ht:mT v=some t):bJ (V.take (q+1))=bJ (V.take q) ++ [t]:=by
 obtain ⟨hk,e⟩:=List.getElem?_eq_some_iff.1 h;unfold bJ;rw [List.take_succ_eq_append_getElem hk,e,List.filterMap_append]
 simp [ht]
theorem kH {V:List Vst} {q:Nat} {v:Vst} (h:V[q]? = some v) (ht:mT v=none):bJ (V.take (q+1))=bJ (V.take q):=by
 obtain ⟨hk,e⟩:=List.getElem?_eq_some_iff.1 h;unfold bJ;rw [List.take_succ_eq_append_getElem hk,e,List.filterMap_append]
 simp [ht]
theorem n9 (V:List Vst):(bJ V).length≤V.length:=List.length_filterMap_le _ _
set_option maxRecDepth 100000 in
set_option maxHeartbeats 6400000 in
theorem qC {w:World} {x:aU} {p:Prb} {k m vc:Nat} {va:Option Addr} {V:List Vst} (h:PrbV w x p) (hV:VsV w (.slice va m vc) V) (hm:V.length=m) (hm2:m≤100):Calls Try.prog 123 #[.agg (cB p x k (.slice va m vc))] w fun e w'=>∃ v,e=.returned v∧TRow w' w.heap.size v (bJ V)∧Below w.heap.size w w':=by
 have HB0:Hid (∀ A,Below w.heap.size w (w.alloc A)):=fun A=>(Below.refl _ _).alloc (Nat.le_refl _) A;have HV:=hide hV;have HM:=hide hm;clear hV hm;obtain ⟨ta,tc,da,dc,va',vc',ja,jc,sa,sc,rfl⟩:=h.open;clear h;unfold cB;simp only;obtain ⟨W,hW⟩:∃ W,W=w.alloc (.cells #[.int .i64 p.dims,.int .i64 p.time.n,.slice ta p.time.cells.length tc,.int .i64 p.dist.n,.slice da p.dist.cells.length dc,.slice va' p.vs.length vc',.slice ja p.js.length jc,.slice sa p.ss.length sc,.int .i64 k,.slice va m vc] 121):=⟨_,rfl⟩;have HBW:Hid (Below w.heap.size w W):=by rw [hW];exact HB0.out _
 go_enter Try.func123,Try.ntmps123;go_wp2;rw [← hW];clear hW
 go_loopw [11,3] (fun vi vr wr=>∃ (q n:Nat) (ra:Option Addr) (rc:Nat),vi=.int .i64 q∧vr=.slice ra n rc∧q≤m∧Hid ((bJ (V.take q)).length=n)∧Hid (TRow wr W.heap.size (.slice ra n rc) (bJ (V.take q)))∧Hid (Below W.heap.size W wr)) (fun vi _ _=>m-(intOf vi).toNat)
 case atStart=>exact ⟨0,0,none,0,rfl,rfl,Nat.zero_le _,rfl,World.ownsRow_nil _ _ _ _,Below.refl _ _⟩
 case round =>
  obtain ⟨q,n,ra,rc,rfl,rfl,hq,HN,HR,HB⟩:=hrel
  by_cases hqm:q<m
  ·have i1:(q:Int)<(m:Int):=by omega
   have i2:(0:Int)≤(q:Int):=by omega
   have i3:¬ (m:Int)≤(q:Int):=by omega
   have hn100:n≤100:=by rw [← HN.out];have:=n9 (V.take q);have:=List.length_take_le q V;omega
   obtain ⟨⟨kd,it⟩,hu⟩:∃ u,V[q]? = some u:=⟨_,List.getElem?_eq_getElem (by rw [HM.out];exact hqm)⟩;obtain ⟨b,off,rfl,hb,c1,c2,_⟩:=bL HV.out hu;simp only at c1 c2;have d1:wr.cell? ⟨b,off+q*2,none⟩=some (.int .i64 kd):=((aA (below_on HBW.out HB.out)).1 _ _ hb).trans c1;have d2:wr.cell? ⟨b,off+q*2+1,none⟩=some (.int .i64 it):=((aA (below_on HBW.out HB.out)).1 _ _ hb).trans c2;have HU:=hide hu;clear c1 c2 hu hb;have HA:Hid (∀ o,Below W.heap.size W (wr.alloc o)):=fun o=>HB.out.alloc HB.out.size o;have HRA:Hid (∀ o,TRow (wr.alloc o) W.heap.size (.slice ra n rc) (bJ (V.take q))):=fun o=>HR.out.later (Nat.le_refl _) ((Below.refl _ _).alloc (Nat.le_refl _) o)
   by_cases hk1:kd=1
   ·subst hk1;have HS:Hid (bJ (V.take (q+1))=bJ (V.take q) ++ [(false,it)]):=kG HU.out rfl;go_wp2_with (first | (at_builtin;refine ybL (wr:=w1.alloc (.cells #[.bool false,.int .i64 it] 31)) (t:=(false,it)) (.tmp 28) (.tmp 30) rfl rfl rfl (by simp [go_sem]) HR1.out HN.out hn100 HS1.out ?_;intro g2 cap2 w2 k2 k3;have K2:=hide k2;have K3:=hide (B1.out.trans k3);clear k2 k3) | (go_at_call 19;refine (iW _ _ _).mono ?_;rintro e w1 ⟨rfl,k1⟩;simp only [dZ,ofM,if_true];have B1:=hide ((below_on (HA.out _) k1).alloc (below_on (HA.out _) k1).size (.cells #[.bool false,.int .i64 it] 31));have HR1:=hide (((HRA.out _).later (Nat.le_refl _) k1).later (Nat.le_refl _) ((Below.refl _ _).alloc (Nat.le_refl _) (.cells #[.bool false,.int .i64 it] 31)));have HS1:=hide B1.out.size;clear k1) | fail);go_roundw
    case rel=>exact ⟨q+1,n+1,some ⟨g2,0,none⟩,cap2,by go_num,rfl,by omega,by show _=_;rw [HS.out,List.length_append,HN.out];rfl,by rw [HS.out];exact K2.out,K3.out⟩
    case measure=>simp [intOf];omega
   ·have y1:(kd == 1)=false:=by simpa using hk1
    by_cases hk2:kd=2
    ·subst hk2;have HS:Hid (bJ (V.take (q+1))=bJ (V.take q) ++ [(true,it)]):=kG HU.out rfl;go_wp2_with (first | (at_builtin;refine ybL (wr:=w1.alloc (.cells #[.bool true,.int .i64 it] 31)) (t:=(true,it)) (.tmp 28) (.tmp 30) rfl rfl rfl (by simp [go_sem]) HR1.out HN.out hn100 HS1.out ?_;intro g2 cap2 w2 k2 k3;have K2:=hide k2;have K3:=hide (B1.out.trans k3);clear k2 k3) | (go_at_call 19;refine (iW _ _ _).mono ?_;rintro e w1 ⟨rfl,k1⟩;simp only [dZ,ofM,if_true,show ¬ (2:Int)=1 by decide,if_false];have B1:=hide ((below_on (HA.out _) k1).alloc (below_on (HA.out _) k1).size (.cells #[.bool true,.int .i64 it] 31));have HR1:=hide (((HRA.out _).later (Nat.le_refl _) k1).later (Nat.le_refl _) ((Below.refl _ _).alloc (Nat.le_refl _) (.cells #[.bool true,.int .i64 it] 31)));have HS1:=hide B1.out.size;clear k1) | fail);go_roundw
     case rel=>exact ⟨q+1,n+1,some ⟨g2,0,none⟩,cap2,by go_num,rfl,by omega,by show _=_;rw [HS.out,List.length_append,HN.out];rfl,by rw [HS.out];exact K2.out,K3.out⟩
     case measure=>simp [intOf];omega
    ·have y2:(kd == 2)=false:=by simpa using hk2
     have HS:Hid (bJ (V.take (q+1))=bJ (V.take q)):=kH HU.out (by unfold mT;rw [if_neg hk1,if_neg hk2]);go_wp2;go_roundw
     case rel=>exact ⟨q+1,n,ra,rc,by go_num,rfl,by omega,by rw [HS.out];exact HN.out,by rw [HS.out];exact HRA.out _,HA.out _⟩
     case measure=>simp [intOf];omega
  ·have i1:¬ (q:Int)<(m:Int):=by omega
   have HT:Hid (V.take q=V):=by show _=_;rw [List.take_of_length_le (by rw [HM.out];omega)]
   go_wp2;go_ret;refine ⟨_,rfl,?_,below_on HBW.out HB.out⟩;have h9:=HR.out;rw [HT.out] at h9;exact ycE h9 HBW.out.size
end Go.Proofs.Ytgjpkpmikbpcnaa
namespace Go.Proofs.Ytgjpkpmikbpcnaa
open Go.RowKit
def aM (p:Prb) (v:Veh) (was:Int) (u:Vst):Stp:=if u.1=4 then ⟨was,(v.brks.getD u.2.toNat bz).serv,(v.brks.getD u.2.toNat bz).wins⟩ else aS p u.1 u.2
def mC (v:Veh) (pl:Int):Stp:=⟨pl,0,[v.shift]⟩
def bR (p:Prb) (v:Veh) (V:List Vst):List Stp:=V.foldl (fun S u=>S ++ [aM p v (S.getD (S.length-1) sz).place u]) [mC v v.start]
def aB (p:Prb) (v:Veh) (V:List Vst):List Stp:=bR p v V ++ [mC v v.stop]
section
variable {p:Prb} {v:Veh}
theorem oY (V:List Vst) (u:Vst):bR p v (V ++ [u])=bR p v V ++ [aM p v ((bR p v V).getD ((bR p v V).length-1) sz).place u]:=by unfold bR;rw [List.foldl_append];rfl
theorem cZ (V:List Vst):(bR p v V).length=V.length+1:=by
 refine cH (Q:=fun V=>(bR p v V).length=V.length+1) rfl (fun V u h=>?_) V;rw [oY,List.length_append,h,List.length_append];rfl
theorem kK (V:List Vst) (u:Vst):bR p v (V ++ [u])=bR p v V ++ [aM p v ((bR p v V).getD V.length sz).place u]:=by
 rw [oY,cZ];rfl
theorem aO (V:List Vst):(aB p v V).length=V.length+2:=by unfold aB;rw [List.length_append,cZ];rfl
theorem vX (V:List Vst):∀ i,i≤V.length→bR p v (V.take i)=(bR p v V).take (i+1):=by
 refine cH (Q:=fun V=>∀ i,i≤V.length→bR p v (V.take i)=(bR p v V).take (i+1)) (fun i hi=>?_) (fun V u ih i hi=>?_) V
 ·simp at hi;subst hi;rfl
 ·rw [List.length_append] at hi
  by_cases h:i≤V.length
  ·rw [List.take_append_of_le_length h,ih i h,kK,List.take_append_of_le_length (by rw [cZ];omega)]
  ·have e:i=V.length+1:=by simp at hi;omega
   subst e;rw [List.take_of_length_le (by simp),List.take_of_length_le (by rw [cZ,List.length_append];simp)]
theorem mG {V:List Vst} {i:Nat} (h:i≤V.length):(aB p v V).getD i sz=(bR p v (V.take i)).getD i sz:=by
 rw [vX V i h];unfold aB;rw [List.getD_eq_getElem?_getD,List.getD_eq_getElem?_getD,List.getElem?_append_left (by rw [cZ];omega),List.getElem?_take_of_lt (by omega)]
theorem cK (V:List Vst):(aB p v V).getD 0 sz=mC v v.start:=by rw [mG (Nat.zero_le _)];rfl
theorem fQ (V:List Vst):(aB p v V).getD (V.length+1) sz=mC v v.stop:=by
 unfold aB;rw [List.getD_eq_getElem?_getD,List.getElem?_append_right (by rw [cZ];omega),cZ,Nat.sub_self];rfl
theorem gD {V:List Vst} {i:Nat} {u:Vst} (h:V[i]? = some u):(aB p v V).getD (i+1) sz=aM p v ((aB p v V).getD i sz).place u:=by
 obtain ⟨hi,e⟩:=List.getElem?_eq_some_iff.1 h;rw [mG (show i+1≤V.length by omega),mG (show i≤V.length by omega),List.take_succ_eq_append_getElem hi,e,kK,List.getD_eq_getElem?_getD,List.getElem?_append_right (by rw [cZ,List.length_take];omega),cZ,List.length_take,Nat.min_eq_left (by omega),Nat.sub_self]
 rfl
theorem yT {V:List Vst} {i:Nat} {u:Vst} (h:V[i]? = some u):bR p v (V.take (i+1))=bR p v (V.take i) ++ [aM p v ((bR p v (V.take i)).getD i sz).place u]:=by
 obtain ⟨hi,e⟩:=List.getElem?_eq_some_iff.1 h;rw [List.take_succ_eq_append_getElem hi,e,kK,List.length_take,Nat.min_eq_left (by omega)]
end
def aE (m:Mat) (S:List Stp) (i:Nat):Int:=if i=0 then 0 else aK m (S.getD (i-1) sz).place (S.getD i sz).place
theorem aJ (m:Mat) (S:List Stp) (i:Nat):aE m S (i+1)=aK m (S.getD i sz).place (S.getD (i+1) sz).place:=by unfold aE;rw [if_neg (by omega)];rfl
def lfM (m:Mat) (S:List Stp) (f:Int):Nat→Int
 | 0=>f
 | i+1=>(Hr.startM (lfM m S f i+aE m S i) (S.getD i sz).wins).1+(S.getD i sz).serv
def eQ (m:Mat) (S:List Stp) (f:Int) (i:Nat):Int:=lfM m S f i+aE m S i
def dR (m:Mat) (S:List Stp) (f:Int) (i:Nat):Int × Bool:=Hr.startM (eQ m S f i) (S.getD i sz).wins
theorem eP (m:Mat) (S:List Stp) (f:Int) (i:Nat):lfM m S f (i+1)=(dR m S f i).1+(S.getD i sz).serv:=rfl
def cR (m:Mat) (S:List Stp) (f:Int):Bool:=(List.range S.length).all fun i=>(dR m S f i).2
def bN (p:Prb) (S:List Stp):Bool:=(List.range S.length).all fun i=>decide (0≤aE p.time S i) && decide (0≤aE p.dist S i)
theorem gY {n:Nat} {f:Nat→Bool} (h:∀ i,i<n→f i=true):(List.range n).all f=true:=List.all_eq_true.2 fun i hi=>h i (List.mem_range.1 hi)
theorem cU {n i:Nat} {f:Nat→Bool} (hi:i<n) (h:f i=false):(List.range n).all f=false:=by
 cases e:(List.range n).all f with
 | false=>rfl
 | true=>have:=List.all_eq_true.1 e i (List.mem_range.2 hi);rw [h] at this;cases this
theorem nM {n i:Nat} {f:Nat→Bool} (h:(List.range n).all f=true) (hi:i<n):f i=true:=List.all_eq_true.1 h i (List.mem_range.2 hi)
def aH (f:Nat→Int):Nat→Int
 | 0=>0
 | n+1=>aH f n+f n
theorem mU {f:Nat→Int} {l u:Int}:∀ n:Nat,(∀ i,i<n→l≤f i∧f i≤u)→l*n≤aH f n∧aH f n≤u*n
 | 0,_=>by simp [aH]
 | n+1,h=>by
  have ih:=mU n fun i hi=>h i (by omega);have:=h n (by omega);have e1:l*((n+1:Nat):Int)=l*n+l:=by rw [Int.natCast_add,Int.mul_add];simp
  have e2:u*((n+1:Nat):Int)=u*n+u:=by rw [Int.natCast_add,Int.mul_add];simp
  unfold aH
  omega
structure gA where
 kind:Int
 item:Int
 place:Int
 arr:Int
 wait:Int
 serv:Int
 load:List Int
 time:Int
 dist:Int
structure dQ where
 veh:Int
 steps:List gA
 time:Int
 dist:Int
 wait:Int
 serv:Int
 cost:Int
def cE (V:List Vst):List Vst:=(5,0)::(V ++ [(6,0)])
theorem iO (V:List Vst):(cE V).length=V.length+2:=by simp [cE]
def dG (p:Prb) (dd:Nat) (V:List Vst):List (List Int):=bZ p dd V ++ [dV p (startM p dd V) V]
theorem eG (p:Prb) (dd:Nat) (V:List Vst):(bZ p dd V).length=V.length+1:=by unfold bZ;rw [List.length_cons,vC]
theorem qY (p:Prb) (dd:Nat) (V:List Vst):(dG p dd V).length=V.length+2:=by unfold dG;rw [List.length_append,eG];rfl
def bW (m:Mat) (S:List Stp) (f:Int) (i:Nat):Int:=(dR m S f i).1-eQ m S f i
def fR (S:List Stp) (i:Nat):Int:=(S.getD i sz).serv
def bG (p:Prb) (dd:Nat) (f:Int) (V:List Vst) (S:List Stp) (i:Nat):gA:=⟨((cE V).getD i (0,0)).1,((cE V).getD i (0,0)).2,(S.getD i sz).place,eQ p.time S f i,bW p.time S f i,(S.getD i sz).serv,(dG p dd V).getD i [],aH (aE p.time S) (i+1),aH (aE p.dist S) (i+1)⟩
def planS (p:Prb) (dd:Nat) (vi:Int) (v:Veh) (V:List Vst) (S:List Stp):dQ:=⟨vi,(List.range S.length).map (bG p dd v.shift.1 V S),aH (aE p.time S) S.length,aH (aE p.dist S) S.length,aH (bW p.time S v.shift.1) S.length,aH (fR S) S.length,v.fixed+aH (aE p.time S) S.length*v.perT+aH (aE p.dist S) S.length*v.perD⟩
def dK (p:Prb) (vi:Int) (v:Veh) (V:List Vst):dQ:=planS p p.dims.toNat vi v V (aB p v V)
def planZ:dQ:=⟨0,[],0,0,0,0,0⟩
def Gd (p:Prb) (P:List Vst):Prop:=∀ (i:Nat) (v:Vst),P[i]? = some v→v.1≠4→aI p v.1 v.2=true∧v ∉ P.take i∧(v.1=3→((2,v.2):Vst) ∈ P.take i)
def ybM (p:Prb) (V:List Vst):Prop:=Gd p V∧∀ j:Int,((2,j):Vst) ∈ V→((3,j):Vst) ∈ V
def gdF (p:Prb):List Vst→List Vst→Bool
 | _,[]=>true
 | P,v::V=>(decide (v.1=4) || (aI p v.1 v.2 && decide (v ∉ P) && (decide (v.1≠3) || decide (((2,v.2):Vst) ∈ P)))) && gdF p (P ++ [v]) V
def aQ (p:Prb) (V:List Vst):Bool:=gdF p [] V && V.all (fun v=>decide (v.1≠2) || decide (((3,v.2):Vst) ∈ V))
theorem ya2 (p:Prb):∀ (V P:List Vst),gdF p P V=true↔∀ (i:Nat) (v:Vst),V[i]? = some v→v.1≠4→aI p v.1 v.2=true∧v ∉ P ++ V.take i∧(v.1=3→((2,v.2):Vst) ∈ P ++ V.take i)
 | [],P=>by simp [gdF]
 | u::V,P=>by
  unfold gdF;rw [Bool.and_eq_true,ya2 p V (P ++ [u])]
  constructor
  ·rintro ⟨h1,h2⟩ i v hi h4
   cases i with
   | zero =>
    simp at hi;subst hi;simp only [Bool.or_eq_true,Bool.and_eq_true,decide_eq_true_eq] at h1
    rcases h1 with h1 | ⟨⟨h1,h3⟩,h5⟩
    ·exact absurd h1 h4
    ·refine ⟨h1,by simpa using h3,fun h6=>?_⟩
     rcases h5 with h5 | h5
     ·exact absurd h6 h5
     ·simpa using h5
   | succ i =>
    have:=h2 i v (by simpa using hi) h4;rw [List.append_assoc] at this;exact this
  ·intro h;refine ⟨?_,fun i v hi h4=>?_⟩
   ·simp only [Bool.or_eq_true,Bool.and_eq_true,decide_eq_true_eq]
    by_cases h4:u.1=4
    ·exact .inl h4
    ·have:=h 0 u (by simp) h4;simp at this;exact .inr ⟨⟨this.1,this.2.1⟩,by by_cases h6:u.1=3;exact .inr (this.2.2 h6);exact .inl h6⟩
   ·have:=h (i+1) v (by simpa using hi) h4;rw [List.append_assoc];exact this
theorem dE (p:Prb) (V:List Vst):aQ p V=true↔ybM p V:=by
 unfold aQ ybM Gd;rw [Bool.and_eq_true,ya2];simp only [List.nil_append];refine and_congr Iff.rfl ⟨fun h j hj=>?_,fun h=>List.all_eq_true.2 fun v hv=>?_⟩
 ·have:=List.all_eq_true.1 h _ hj
  simpa using this
 ·simp only [Bool.or_eq_true,decide_eq_true_eq]
  by_cases h2:v.1=2
  ·obtain ⟨k,i⟩:=v;simp only at h2;subst h2;exact .inr (h i hv)
  ·exact .inl h2
theorem Gd.nil (p:Prb):Gd p []:=fun i v h=>by simp at h
theorem Gd.snoc {p:Prb} {P:List Vst} {v:Vst}:Gd p (P ++ [v])↔Gd p P∧(v.1≠4→aI p v.1 v.2=true∧v ∉ P∧(v.1=3→((2,v.2):Vst) ∈ P)):=by
 constructor
 ·intro h;refine ⟨fun i u hu h4=>?_,fun h4=>?_⟩
  ·have hi:=(List.getElem?_eq_some_iff.1 hu).1;have:=h i u (by rw [List.getElem?_append_left hi];exact hu) h4;rw [List.take_append_of_le_length (by omega)] at this;exact this
  ·have:=h P.length v (by simp) h4;rw [List.take_append_of_le_length (Nat.le_refl _),List.take_length] at this;exact this
 ·rintro ⟨h,k⟩ i u hu h4
  by_cases hi:i<P.length
  ·rw [List.getElem?_append_left hi] at hu;rw [List.take_append_of_le_length (by omega)];exact h i u hu h4
  ·have:i=P.length:=by
    have:=(List.getElem?_eq_some_iff.1 hu).1;simp at this;omega
   subst this;simp at hu;subst hu;rw [List.take_append_of_le_length (Nat.le_refl _),List.take_length];exact k h4
theorem Gd.take {p:Prb} {V:List Vst} (h:Gd p V) (n:Nat):Gd p (V.take n):=fun i v hv h4=>by
 have hi:=(List.getElem?_eq_some_iff.1 hv).1;simp at hi;rw [List.getElem?_take_of_lt (by omega)] at hv;have:=h i v hv h4;rw [List.take_take,Nat.min_eq_left (by omega)];exact this
theorem eI {V:List Vst} {q:Nat} {u:Vst} (h:V[q]? = some u):V.take (q+1)=V.take q ++ [u]:=by
 obtain ⟨hk,e⟩:=List.getElem?_eq_some_iff.1 h;rw [List.take_succ_eq_append_getElem hk,e]
theorem nT {p:Prb} {V:List Vst} {q:Nat} {u:Vst} (h:V[q]? = some u) (h4:u.1≠4) (hn:¬ (aI p u.1 u.2=true∧u ∉ V.take q∧(u.1=3→((2,u.2):Vst) ∈ V.take q))):aQ p V=false:=by
 cases e:aQ p V with
 | false=>rfl
 | true =>
 exfalso
 have hw:=(dE p V).1 e;have:=hw.1.take (q+1);rw [eI h] at this;exact hn ((Gd.snoc.1 this).2 h4)
def eY (a b:Int):Bool:=decide (a.toNat ||| b.toNat=a.toNat)
def dH (p:Prb) (v:Veh) (V:List Vst):Bool:=(bJ V).all fun t=>eY v.skills (gJ p t)
def cG (v:Veh) (V:List Vst):Bool:=decide (((bJ V).length:Int)≤v.maxT)
def cA (p:Prb) (dd:Nat) (v:Veh) (V:List Vst):Bool:=(bZ p dd V).all fun xs=>Ld.underB xs v.cap
def dI (p:Prb) (v:Veh) (V:List Vst):Int :=
 bif !aQ p V then 161 else bif !cO V v.brks.length then 162 else bif !dH p v V then 163 else bif !cG v V then 164 else bif !cA p p.dims.toNat v V then 165 else bif !bN p (aB p v V) then 166 else bif !cR p.time (aB p v V) v.shift.1 then 167 else 0
def ofE (p:Prb) (vi:Int) (V:List Vst):Int:=bif upB vi ((p.vs.length:Int)-1) then dI p (p.vs.getD vi.toNat vz) V else 160
def ofP (p:Prb) (vi:Int) (V:List Vst):dQ:=bif decide (ofE p vi V=0) then dK p vi (p.vs.getD vi.toNat vz) V else planZ
end Go.Proofs.Ytgjpkpmikbpcnaa
