import Derived.Test.YtgjpkpmikbpcnaaORSetG
namespace Go.Proofs.Ytgjpkpmikbpcnaa
open Go.RowKit
def goT (p:Prb) (v:Veh):Int→Int→List Vst→Bool
 | was,left,[]=>(Hr.startM (left+aK p.time was v.stop) [v.shift]).2
 | was,left,u::L=>(Hr.startM (left+aK p.time was (aM p v was u).place) (aM p v was u).wins).2 && goT p v (aM p v was u).place ((Hr.startM (left+aK p.time was (aM p v was u).place) (aM p v was u).wins).1+(aM p v was u).serv) L
theorem xM (p:Prb) (v:Veh) (V:List Vst) (f:Int):∀ n i,V.length-i=n→i≤V.length→goT p v ((aB p v V).getD i sz).place (lfM p.time (aB p v V) f (i+1)) (V.drop i)=(List.range (n+1)).all fun j=>(dR p.time (aB p v V) f (i+1+j)).2
 | 0,i,hn,hi=>by
  have e:i=V.length:=by omega
  rw [List.drop_eq_nil_of_le (by omega)];show (Hr.startM _ _).2=_;have h1:(List.range 1).all (fun j=>(dR p.time (aB p v V) f (i+1+j)).2)=(dR p.time (aB p v V) f (i+1)).2:=by simp [List.range,List.range.loop]
  rw [h1];unfold dR eQ;rw [aJ,e,fQ]
  rfl
 | n+1,i,hn,hi=>by
  have hi2:i<V.length:=by omega
  obtain ⟨u,hu⟩:∃ u,V[i]? = some u:=⟨_,List.getElem?_eq_getElem hi2⟩
  have hd:V.drop i=u::V.drop (i+1):=by
   rw [List.drop_eq_getElem_cons hi2];rw [List.getElem?_eq_getElem hi2] at hu;injection hu with hu;rw [hu]
  rw [hd];have hs:=gD (p:=p) (v:=v) hu
  have hb:dR p.time (aB p v V) f (i+1)=Hr.startM (lfM p.time (aB p v V) f (i+1)+aK p.time ((aB p v V).getD i sz).place (aM p v ((aB p v V).getD i sz).place u).place) (aM p v ((aB p v V).getD i sz).place u).wins:=by
   unfold dR eQ;rw [aJ,hs]
  show ((Hr.startM _ _).2 && goT p v _ _ _)=_;rw [← hb];have hl:(dR p.time (aB p v V) f (i+1)).1+(aM p v ((aB p v V).getD i sz).place u).serv=lfM p.time (aB p v V) f (i+1+1):=by rw [eP p.time _ f (i+1),hs]
  rw [hl,← hs,xM p v V f n (i+1) (by omega) hi2];rw [show List.range (n+1+1)=0::(List.range (n+1)).map Nat.succ from List.range_succ_eq_map,List.all_cons,List.all_map]
  congr 1
  refine List.all_congr rfl fun j=>?_;show _=(dR p.time (aB p v V) f (i+1+Nat.succ j)).2;rw [show i+1+Nat.succ j=i+1+1+j by omega]
theorem ybV {p:Prb} {v:Veh} (hs:v.shift.1≤v.shift.2) (V:List Vst):cR p.time (aB p v V) v.shift.1=goT p v v.start v.shift.1 V:=by
 have h0:dR p.time (aB p v V) v.shift.1 0=(v.shift.1,true):=by
  unfold dR eQ;rw [cK];show Hr.startM (v.shift.1+0) [v.shift]=_;unfold Hr.startM;rw [Int.add_zero,if_pos hs,if_neg (by omega)]
 have h:=xM p v V v.shift.1 V.length 0 rfl (Nat.zero_le _);have h1:lfM p.time (aB p v V) v.shift.1 (0+1)=v.shift.1:=by rw [eP,h0,cK];show v.shift.1+0=_;omega
 rw [h1,cK,List.drop_zero] at h;have h2:(mC v v.start).place=v.start:=rfl;rw [h2] at h;rw [h];unfold cR;rw [aO,show V.length+2=(V.length+1)+1 by omega,List.range_succ_eq_map,List.all_cons,List.all_map,h0];simp only [Bool.true_and];refine List.all_congr rfl fun j=>?_;show (dR _ _ _ (Nat.succ j)).2=_;rw [show 0+1+j=Nat.succ j by omega]
def cJ:Nat→Nat→List Nat→List Vst→List Vst
 | _,_,[],L=>L
 | k,q,a::ps,L=>L.take (a-q) ++ ((4,(k:Int))::cJ (k+1) a ps (L.drop (a-q)))
def Vld (m:Nat):Nat→List Nat→Prop
 | _,[]=>True
 | q,a::ps=>q≤a∧a≤m∧Vld m a ps
theorem wO (V:List Vst):∀ (ps:List Nat) (k q:Nat),Vld V.length q ps→mY V k q (ps.map fun n:Nat=>(n:Int))=cJ k q ps (V.drop q)
 | [],k,q,_=>rfl
 | a::ps,k,q,⟨h1,h2,h3⟩=>by
  show (V.drop q).take (cI (a:Int) q V.length-q) ++ ((4,(k:Int))::mY V (k+1) (cI (a:Int) q V.length) (ps.map fun n:Nat=>(n:Int)))=(V.drop q).take (a-q) ++ ((4,(k:Int))::cJ (k+1) a ps ((V.drop q).drop (a-q)));rw [nE h1 h2,wO V ps (k+1) a h3,List.drop_drop,show q+(a-q)=a by omega]
theorem mX {V:List Vst} {ps:List Nat} (h:Vld V.length 0 ps):fB V (ps.map fun n:Nat=>(n:Int))=cJ 0 0 ps V:=by
 unfold fB;rw [wO V ps 0 0 h,List.drop_zero]
theorem gO (k q:Nat) (ps:List Nat) (L:List Vst):cJ k q (q::ps) L=(4,(k:Int))::cJ (k+1) q ps L:=by
 show L.take (q-q) ++ ((4,(k:Int))::cJ (k+1) q ps (L.drop (q-q)))=_;rw [Nat.sub_self]
 rfl
theorem ye6 {k q a:Nat} {ps:List Nat} {u:Vst} {L:List Vst} (h:q+1≤a):cJ k q (a::ps) (u::L)=u::cJ k (q+1) (a::ps) L:=by
 show (u::L).take (a-q) ++ ((4,(k:Int))::cJ (k+1) a ps ((u::L).drop (a-q)))=u::(L.take (a-(q+1)) ++ ((4,(k:Int))::cJ (k+1) a ps (L.drop (a-(q+1)))));obtain ⟨d,hd⟩:∃ d,a-q=d+1:=⟨a-q-1,by omega⟩;rw [hd,show a-(q+1)=d by omega]
 rfl
def wQ (p:Prb) (v:Veh) (b:Brk) (F:Int→Int→Nat→List Vst→Option (List Nat)):Int→Int→Nat→List Vst→Option (List Nat)
 | was,left,q,[]=>bif (Hr.startM left b.wins).2 then (F was ((Hr.startM left b.wins).1+b.serv) q []).map (q::·) else none
 | was,left,q,u::L =>
  match (bif (Hr.startM left b.wins).2 then F was ((Hr.startM left b.wins).1+b.serv) q (u::L) else none) with
  | some ps=>some (q::ps)
  | none=>bif (Hr.startM (left+aK p.time was (aM p v was u).place) (aM p v was u).wins).2 then wQ p v b F (aM p v was u).place ((Hr.startM (left+aK p.time was (aM p v was u).place) (aM p v was u).wins).1+(aM p v was u).serv) (q+1) L else none
def iN (p:Prb) (v:Veh):List Brk→Int→Int→Nat→List Vst→Option (List Nat)
 | []=>fun was left _ L=>bif goT p v was left L then some [] else none
 | b::B=>wQ p v b (iN p v B)
def uY:List Nat→List Nat→Prop
 | a::xs,b::ys=>a<b∨(a=b∧uY xs ys)
 | _,_=>False
def Dg (p:Prb) (x:Int):Prop:=aK p.time x x=0
structure mO (p:Prb) (v:Veh) (k:Nat) (B:List Brk) (was left:Int) (q:Nat) (L:List Vst) (r:Option (List Nat)):Prop where
 no:r=none→∀ ps,ps.length=B.length→Vld (q+L.length) q ps→goT p v was left (cJ k q ps L)=false
 yes:∀ ps,r=some ps→ps.length=B.length∧Vld (q+L.length) q ps∧goT p v was left (cJ k q ps L)=true∧∀ ps',ps'.length=B.length→Vld (q+L.length) q ps'→uY ps' ps→goT p v was left (cJ k q ps' L)=false
theorem gP {p:Prb} {v:Veh} {k:Nat} {b:Brk} {was left:Int} {L:List Vst} (hd:Dg p was) (hb:v.brks.getD k bz=b):goT p v was left ((4,(k:Int))::L)=((Hr.startM left b.wins).2 && goT p v was ((Hr.startM left b.wins).1+b.serv) L):=by
 have hs:aM p v was (4,(k:Int))=⟨was,b.serv,b.wins⟩:=by
  unfold aM;rw [if_pos rfl];show (⟨was,(v.brks.getD k bz).serv,(v.brks.getD k bz).wins⟩:Stp)=_;rw [hb]
 show ((Hr.startM (left+aK p.time was (aM p v was (4,(k:Int))).place) _).2 && goT p v _ _ L)=_;rw [hs];have hd:aK p.time was was=0:=hd;simp only [hd,Int.add_zero]
theorem yaR (p:Prb) (v:Veh) (hdw:∀ was (u:Vst),u.1≠4→Dg p (aM p v was u).place):∀ (B:List Brk) (k:Nat),(∀ j,j<B.length→v.brks.getD (k+j) bz=B.getD j bz)→∀ (L:List Vst) (was left:Int) (q:Nat),Dg p was→(∀ u ∈ L,u.1≠4)→mO p v k B was left q L (iN p v B was left q L)
 | [],k,_,L,was,left,q,_,_=>by
  show mO p v k [] was left q L (bif goT p v was left L then some [] else none)
  cases hg:goT p v was left L with
  | true =>
   refine ⟨fun e=>by simp at e,fun ps e=>?_⟩;simp at e;subst e;exact ⟨rfl,trivial,hg,fun ps' h' _ hx=>by cases ps' <;> simp [uY] at h' hx⟩
  | false =>
   refine ⟨fun _ ps h' _=>?_,fun ps e=>by simp at e⟩
   cases ps with
   | nil=>exact hg
   | cons=>simp at h'
 | b::B,k,hB,L,was,left,q,hdg,hL=>by
  have hb:v.brks.getD k bz=b:=hB 0 (by simp)
  have hB':∀ j,j<B.length→v.brks.getD (k+1+j) bz=B.getD j bz:=fun j hj=>by
   have:=hB (j+1) (by simp;omega);rw [show k+(j+1)=k+1+j by omega] at this;exact this
  -- the break here
  have here:∀ (was left:Int) (q:Nat) (L:List Vst),Dg p was→(∀ u ∈ L,u.1≠4)→mO p v (k+1) B was ((Hr.startM left b.wins).1+b.serv) q L (iN p v B was ((Hr.startM left b.wins).1+b.serv) q L):=fun was left q L h1 h2=>yaR p v hdw B (k+1) hB' L was _ q h1 h2
  induction L generalizing was left q with
  | nil =>
   have h1:=here was left q [] hdg hL;show mO p v k (b::B) was left q [] (bif (Hr.startM left b.wins).2 then (iN p v B was ((Hr.startM left b.wins).1+b.serv) q []).map (q::·) else none)
   have only:∀ ps,ps.length=(b::B).length→Vld (q+([]:List Vst).length) q ps→∃ ps',ps=q::ps'∧ps'.length=B.length∧Vld (q+([]:List Vst).length) q ps':=fun ps hl hv=>by
    cases ps with
    | nil=>simp at hl
    | cons a ps =>
     have ha:a=q:=by have:=hv.1;have h2:=hv.2.1;simp at h2;omega
     subst ha;exact ⟨ps,rfl,by simpa using hl,hv.2.2⟩
   cases hs:(Hr.startM left b.wins).2 with
   | false =>
    refine ⟨fun _ ps hl hv=>?_,fun ps e=>by simp at e⟩;obtain ⟨ps',rfl,_,_⟩:=only ps hl hv;rw [gO,gP hdg hb,hs]
    rfl
   | true =>
    rw [cond_true]
    cases hr:iN p v B was ((Hr.startM left b.wins).1+b.serv) q [] with
    | none =>
     rw [hr] at h1;refine ⟨fun _ ps hl hv=>?_,fun ps e=>by simp at e⟩;obtain ⟨ps',rfl,l',v'⟩:=only ps hl hv;rw [gO,gP hdg hb,h1.no rfl ps' l' v',Bool.and_false]
    | some ps0 =>
     rw [hr] at h1;obtain ⟨y1,y2,y3,y4⟩:=h1.yes ps0 rfl;refine ⟨fun e=>by simp at e,fun ps e=>?_⟩;simp at e;subst e;refine ⟨by simp [y1],⟨Nat.le_refl _,by simp,y2⟩,by rw [gO,gP hdg hb,hs,y3];rfl,fun ps' hl hv hx=>?_⟩;obtain ⟨ps2,rfl,l',v'⟩:=only ps' hl hv;rw [gO,gP hdg hb]
     rcases hx with hx | ⟨_,hx⟩
     ·exact absurd hx (Nat.lt_irrefl _)
     ·rw [y4 ps2 l' v' hx,Bool.and_false]
  | cons u L ih =>
   have h1:=here was left q (u::L) hdg hL;have hu:u.1≠4:=hL u (by simp);have hL2:∀ x ∈ L,x.1≠4:=fun x hx=>hL x (by simp [hx]);obtain ⟨s,hs⟩:∃ s,aM p v was u=s:=⟨_,rfl⟩;have hds:Dg p s.place:=by rw [← hs];exact hdw was u hu
   obtain ⟨st,ok,hst⟩:∃ st ok,Hr.startM (left+aK p.time was s.place) s.wins=(st,ok):=⟨_,_,rfl⟩;have h2:=ih s.place (st+s.serv) (q+1) hds hL2
   -- ps either begins here or goes on
   have two:∀ ps,ps.length=(b::B).length→Vld (q+(u::L).length) q ps→(∃ ps',ps=q::ps'∧ps'.length=B.length∧Vld (q+(u::L).length) q ps')∨(Vld (q+1+L.length) (q+1) ps∧(∃ a ps',ps=a::ps'∧q+1≤a)):=fun ps hl hv=>by
    cases ps with
    | nil=>simp at hl
    | cons a ps =>
     by_cases ha:a=q
     ·subst ha;exact .inl ⟨ps,rfl,by simpa using hl,hv.2.2⟩
     ·have h3:=hv.1;have h4:=hv.2;rw [show q+(u::L).length=q+1+L.length by simp;omega] at h4;exact .inr ⟨⟨by omega,h4⟩,a,ps,rfl,by omega⟩
   have back:∀ ps,Vld (q+1+L.length) (q+1) ps→Vld (q+(u::L).length) q ps:=fun ps hv=>by
    rw [show q+(u::L).length=q+1+L.length by simp;omega]
    cases ps with
    | nil=>trivial
    | cons a ps=>exact ⟨by have:=hv.1;omega,hv.2⟩
   have on:∀ a ps',q+1≤a→goT p v was left (cJ k q (a::ps') (u::L))=(ok && goT p v s.place (st+s.serv) (cJ k (q+1) (a::ps') L)):=fun a ps' ha=>by
    rw [ye6 ha];show ((Hr.startM (left+aK p.time was (aM p v was u).place) _).2 && goT p v _ _ _)=_;rw [hs,hst]
   show mO p v k (b::B) was left q (u::L) (match (bif (Hr.startM left b.wins).2 then iN p v B was ((Hr.startM left b.wins).1+b.serv) q (u::L) else none) with
    | some ps=>some (q::ps)
    | none=>bif (Hr.startM (left+aK p.time was (aM p v was u).place) (aM p v was u).wins).2 then wQ p v b (iN p v B) (aM p v was u).place ((Hr.startM (left+aK p.time was (aM p v was u).place) (aM p v was u).wins).1+(aM p v was u).serv) (q+1) L else none)
   rw [hs,hst]
   -- what begins here is not in time
   have rest:(∀ ps',ps'.length=B.length→Vld (q+(u::L).length) q ps'→goT p v was left (cJ k q (q::ps') (u::L))=false)→mO p v k (b::B) was left q (u::L) (bif ok then wQ p v b (iN p v B) s.place (st+s.serv) (q+1) L else none):=fun hno=>by
    have h2:mO p v k (b::B) s.place (st+s.serv) (q+1) L (wQ p v b (iN p v B) s.place (st+s.serv) (q+1) L):=h2
    cases ok with
    | false =>
     refine ⟨fun _ ps hl hv=>?_,fun ps e=>by simp at e⟩
     rcases two ps hl hv with ⟨ps',rfl,l',v'⟩ | ⟨v',a,ps',rfl,ha⟩
     ·exact hno ps' l' v'
     ·rw [on a ps' ha];rfl
    | true =>
     rw [cond_true];refine ⟨fun e ps hl hv=>?_,fun ps e=>?_⟩
     ·rcases two ps hl hv with ⟨ps',rfl,l',v'⟩ | ⟨v',a,ps',rfl,ha⟩
      ·exact hno ps' l' v'
      ·rw [on a ps' ha,h2.no e _ hl v'];rfl
     ·obtain ⟨y1,y2,y3,y4⟩:=h2.yes ps e
      cases ps with
      | nil=>simp at y1
      | cons a ps' =>
       have ha:q+1≤a:=y2.1;refine ⟨y1,back _ y2,by rw [on a ps' ha,y3];rfl,fun pt hl hv hx=>?_⟩
       rcases two pt hl hv with ⟨pt',rfl,l',v'⟩ | ⟨v',a',pt',rfl,ha'⟩
       ·exact hno pt' l' v'
       ·rw [on a' pt' ha',y4 _ hl v' hx];rfl
   cases hsb:(Hr.startM left b.wins).2 with
   | false =>
    refine rest fun ps' l' v'=>?_;rw [gO,gP hdg hb,hsb]
    rfl
   | true =>
    rw [cond_true]
    cases hr:iN p v B was ((Hr.startM left b.wins).1+b.serv) q (u::L) with
    | none =>
     rw [hr] at h1;refine rest fun ps' l' v'=>?_;rw [gO,gP hdg hb,h1.no rfl ps' l' v',Bool.and_false]
    | some ps0 =>
     rw [hr] at h1;obtain ⟨y1,y2,y3,y4⟩:=h1.yes ps0 rfl;refine ⟨fun e=>by simp at e,fun ps e=>?_⟩;simp at e;subst e;refine ⟨by simp [y1],⟨Nat.le_refl _,by simp,y2⟩,by rw [gO,gP hdg hb,hsb,y3];rfl,fun pt hl hv hx=>?_⟩
     rcases two pt hl hv with ⟨pt',rfl,l',v'⟩ | ⟨v',a',pt',rfl,ha'⟩
     ·rcases hx with hx | ⟨_,hx⟩
      ·exact absurd hx (Nat.lt_irrefl _)
      ·rw [gO,gP hdg hb,y4 pt' l' v' hx,Bool.and_false]
     ·rcases hx with hx | ⟨hx,_⟩ <;> omega
end Go.Proofs.Ytgjpkpmikbpcnaa
namespace Go.Proofs.Ytgjpkpmikbpcnaa
open Go.RowKit
def nob (V:List Vst):List Vst:=V.filter fun u=>decide (u.1≠4)
theorem lV {u:Vst} {V:List Vst} (h:u.1=4):nob (u::V)=nob V:=by unfold nob;rw [List.filter_cons_of_neg (by simpa using h)]
theorem lU {u:Vst} {V:List Vst} (h:u.1≠4):nob (u::V)=u::nob V:=by unfold nob;rw [List.filter_cons_of_pos (by simpa using h)]
theorem yeZ {V:List Vst} (h:∀ u ∈ V,u.1≠4):nob V=V:=List.filter_eq_self.2 fun u hu=>by simpa using h u hu
theorem yaU (A B:List Vst):nob (A ++ B)=nob A ++ nob B:=List.filter_append ..
theorem uV:∀ (ps:List Nat) (k q:Nat) (L:List Vst),(∀ u ∈ L,u.1≠4)→nob (cJ k q ps L)=L
 | [],_,_,L,h=>yeZ h
 | a::ps,k,q,L,h=>by
  show nob (L.take (a-q) ++ ((4,(k:Int))::cJ (k+1) a ps (L.drop (a-q))))=L;rw [yaU,lV rfl,uV ps (k+1) a _ fun u hu=>h u (List.mem_of_mem_drop hu),yeZ fun u hu=>h u (List.mem_of_mem_take hu),List.take_append_drop]
theorem nZ:∀ V:List Vst,bJ V=bJ (nob V)
 | []=>rfl
 | u::V=>by
  have ih:=nZ V;unfold bJ at ih ⊢
  by_cases h:u.1=4
  ·rw [lV h,← ih];have:mT u=none:=by unfold mT;rw [if_neg (by omega),if_neg (by omega)]
   rw [List.filterMap_cons_none this]
  ·rw [lU h]
   cases ht:mT u with
   | none=>rw [List.filterMap_cons_none ht,List.filterMap_cons_none ht,ih]
   | some t=>rw [List.filterMap_cons_some ht,List.filterMap_cons_some ht,ih]
theorem zV (p:Prb):∀ (V P P':List Vst),(∀ u:Vst,u.1≠4→(u ∈ P↔u ∈ P'))→gdF p P V=gdF p P' (nob V)
 | [],_,_,_=>rfl
 | u::V,P,P',h=>by
  by_cases h4:u.1=4
  ·rw [lV h4];show ((decide (u.1=4) || _) && gdF p (P ++ [u]) V)=_;rw [decide_eq_true h4,Bool.true_or,Bool.true_and];refine zV p V _ P' fun x hx=>?_;rw [List.mem_append,h x hx,List.mem_singleton];exact ⟨fun e=>e.elim id fun e=>by rw [e] at hx;exact absurd h4 hx,.inl⟩
  ·rw [lU h4];unfold gdF;rw [zV p V (P ++ [u]) (P' ++ [u]) fun x hx=>by rw [List.mem_append,List.mem_append,h x hx]];rw [decide_eq_decide.2 (not_congr (h u h4)),decide_eq_decide.2 (h (2,u.2) (show (2:Int)≠4 by decide))]
theorem uX {u:Vst} {V:List Vst} (h:u.1≠4):u ∈ nob V↔u ∈ V:=by unfold nob;rw [List.mem_filter];simp [h]
theorem ybN (p:Prb) (V:List Vst):aQ p V=aQ p (nob V):=by
 unfold aQ;rw [zV p V [] [] fun _ _=>Iff.rfl]
 congr 1
 rw [Bool.eq_iff_iff,List.all_eq_true,List.all_eq_true]
 constructor
 ·intro h u hu;have h1:=h u (List.mem_filter.1 hu).1;rw [decide_eq_decide.2 (uX (u:=(3,u.2)) (show (3:Int)≠4 by decide))];exact h1
 ·intro h u hu
  by_cases h2:u.1=2
  ·have h1:=h u ((uX (by omega)).2 hu);rw [decide_eq_decide.2 (uX (u:=(3,u.2)) (show (3:Int)≠4 by decide))] at h1;exact h1
  ·rw [decide_eq_true h2];rfl
theorem nY (p:Prb) (i:Int):aI p 4 i=false:=by
 cases h:aI p 4 i with
 | false=>rfl
 | true=>rcases aN h with ⟨e,_⟩ | ⟨e,_⟩ | ⟨e,_⟩ <;> simp at e
theorem yfS (p:Prb) {u:Vst} (h:u.1=4) (xs:List Int):kC p u xs=xs:=by
 unfold kC
 first | rw [if_neg (by rw [h];simp)] | (rw [h];simp) | simp [h,nY]
theorem yaE (p:Prb) {u:Vst} (h:u.1=4) (xs:List Int):bK p u.1 u.2 xs=xs:=jY (by rw [h];exact nY p _)
theorem yb2 (p:Prb) (dd:Nat) (V:List Vst):Go.Proofs.Ytgjpkpmikbpcnaa.startM p dd V=Go.Proofs.Ytgjpkpmikbpcnaa.startM p dd (nob V):=by
 unfold Go.Proofs.Ytgjpkpmikbpcnaa.startM
 generalize List.replicate dd (0:Int)=xs
 induction V generalizing xs with
 | nil=>rfl
 | cons u V ih =>
  by_cases h4:u.1=4
  ·rw [lV h4,List.foldl_cons,yfS p h4,ih]
  ·rw [lU h4,List.foldl_cons,List.foldl_cons,ih]
theorem zU (p:Prb) (f:List Int→Bool):∀ (V:List Vst) (xs:List Int),(xs::goM p xs V).all f=(xs::goM p xs (nob V)).all f
 | [],_=>rfl
 | u::V,xs=>by
  by_cases h4:u.1=4
  ·rw [lV h4,← zU p f V xs];show (xs::bK p u.1 u.2 xs::goM p (bK p u.1 u.2 xs) V).all f=_;rw [yaE p h4];simp only [List.all_cons]
   cases f xs <;> rfl
  ·rw [lU h4];show (xs::bK p u.1 u.2 xs::goM p (bK p u.1 u.2 xs) V).all f=(xs::bK p u.1 u.2 xs::goM p (bK p u.1 u.2 xs) (nob V)).all f;rw [List.all_cons,zU p f V,List.all_cons (l:=_::_)]
theorem ycK (p:Prb) (dd:Nat) (v:Veh) (V:List Vst):cA p dd v V=cA p dd v (nob V):=by
 unfold cA bZ;rw [zU,yb2]
def goL (p:Prb) (v:Veh):Int→List Vst→Bool
 | was,[]=>decide (0≤aK p.time was v.stop) && decide (0≤aK p.dist was v.stop)
 | was,u::L=>(decide (0≤aK p.time was (aM p v was u).place) && decide (0≤aK p.dist was (aM p v was u).place)) && goL p v (aM p v was u).place L
theorem xP (p:Prb) (v:Veh) (V:List Vst):∀ n i,V.length-i=n→i≤V.length→goL p v ((aB p v V).getD i sz).place (V.drop i)=(List.range (n+1)).all fun j=>decide (0≤aE p.time (aB p v V) (i+1+j)) && decide (0≤aE p.dist (aB p v V) (i+1+j))
 | 0,i,hn,hi=>by
  have e:i=V.length:=by omega
  rw [List.drop_eq_nil_of_le (by omega)];have h1:(List.range 1).all (fun j=>decide (0≤aE p.time (aB p v V) (i+1+j)) && decide (0≤aE p.dist (aB p v V) (i+1+j)))=(decide (0≤aE p.time (aB p v V) (i+1)) && decide (0≤aE p.dist (aB p v V) (i+1))):=by simp [List.range,List.range.loop]
  rw [h1,aJ,aJ,e,fQ]
  rfl
 | n+1,i,hn,hi=>by
  have hi2:i<V.length:=by omega
  obtain ⟨u,hu⟩:∃ u,V[i]? = some u:=⟨_,List.getElem?_eq_getElem hi2⟩
  have hd:V.drop i=u::V.drop (i+1):=by
   rw [List.drop_eq_getElem_cons hi2];rw [List.getElem?_eq_getElem hi2] at hu;injection hu with hu;rw [hu]
  rw [hd];have hs:=gD (p:=p) (v:=v) hu;show ((decide (0≤aK p.time _ (aM p v _ u).place) && decide (0≤aK p.dist _ (aM p v _ u).place)) && goL p v (aM p v _ u).place _)=_;rw [← hs,xP p v V n (i+1) (by omega) hi2];rw [show List.range (n+1+1)=0::(List.range (n+1)).map Nat.succ from List.range_succ_eq_map,List.all_cons,List.all_map];have e0:i+1+0=i+1:=rfl;rw [e0,aJ,aJ]
  congr 1
  refine List.all_congr rfl fun j=>?_;show _=(decide (0≤aE p.time (aB p v V) (i+1+Nat.succ j)) && decide (0≤aE p.dist (aB p v V) (i+1+Nat.succ j)));rw [show i+1+Nat.succ j=i+1+1+j by omega]
theorem ycH (p:Prb) (v:Veh) (V:List Vst):bN p (aB p v V)=goL p v v.start V:=by
 have h:=xP p v V V.length 0 rfl (Nat.zero_le _);rw [cK,List.drop_zero] at h;have h2:(mC v v.start).place=v.start:=rfl;rw [h2] at h;rw [h];unfold bN;rw [aO,show V.length+2=(V.length+1)+1 by omega,List.range_succ_eq_map,List.all_cons,List.all_map];have h0:(decide (0≤aE p.time (aB p v V) 0) && decide (0≤aE p.dist (aB p v V) 0))=true:=rfl;rw [h0,Bool.true_and];refine List.all_congr rfl fun j=>?_;show (decide (0≤aE p.time (aB p v V) (Nat.succ j)) && decide (0≤aE p.dist (aB p v V) (Nat.succ j)))=_;rw [show 0+1+j=Nat.succ j by omega]
def Dg2 (p:Prb) (x:Int):Prop:=aK p.time x x=0∧aK p.dist x x=0
theorem vE (p:Prb) (v:Veh) (hdw:∀ was (u:Vst),u.1≠4→Dg2 p (aM p v was u).place):∀ (V:List Vst) (was:Int),Dg2 p was→goL p v was V=goL p v was (nob V)
 | [],_,_=>rfl
 | u::V,was,hd=>by
  by_cases h4:u.1=4
  ·rw [lV h4,← vE p v hdw V was hd];have hs:(aM p v was u).place=was:=by unfold aM;rw [if_pos h4]
   show ((decide (0≤aK p.time was (aM p v was u).place) && decide (0≤aK p.dist was (aM p v was u).place)) && goL p v (aM p v was u).place V)=_;rw [hs,hd.1,hd.2]
   rfl
  ·rw [lU h4];show ((decide (0≤aK p.time was (aM p v was u).place) && decide (0≤aK p.dist was (aM p v was u).place)) && goL p v (aM p v was u).place V)=((decide (0≤aK p.time was (aM p v was u).place) && decide (0≤aK p.dist was (aM p v was u).place)) && goL p v (aM p v was u).place (nob V));rw [vE p v hdw V _ (hdw was u h4)]
theorem rK:∀ (A B:List Vst) (n:Nat),(∀ u ∈ A,u.1≠4)→gC n (A ++ B)=gC n B
 | [],_,_,_=>rfl
 | u::A,B,n,h=>by
  have h1:=jH (V:=(u::A) ++ B) (k:=0) (n:=n) (v:=u) rfl;rw [List.drop_zero,if_neg (h u (by simp))] at h1;rw [h1];exact rK A B n fun x hx=>h x (by simp [hx])
theorem yB:∀ (ps:List Nat) (k q:Nat) (L:List Vst),(∀ u ∈ L,u.1≠4)→gC k (cJ k q ps L)=some (k+ps.length)
 | [],k,q,L,h=>by
  have:=rK L [] k h;rw [List.append_nil] at this;show gC k L=_;rw [this]
  rfl
 | a::ps,k,q,L,h=>by
  show gC k (L.take (a-q) ++ ((4,(k:Int))::cJ (k+1) a ps (L.drop (a-q))))=_;rw [rK _ _ _ fun u hu=>h u (List.mem_of_mem_take hu)];have h1:=jH (V:=(4,(k:Int))::cJ (k+1) a ps (L.drop (a-q))) (k:=0) (n:=k) (v:=(4,(k:Int))) rfl;rw [List.drop_zero,if_pos rfl,if_pos rfl] at h1;rw [h1];show gC (k+1) (cJ (k+1) a ps (L.drop (a-q)))=_;rw [yB ps (k+1) a _ fun u hu=>h u (List.mem_of_mem_drop hu),List.length_cons]
  congr 1
  omega
def vI (p:Prb) (v:Veh) (V:List Vst):Int :=
 bif !aQ p V then 161 else bif !dH p v V then 163 else bif !cG v V then 164 else bif !cA p p.dims.toNat v V then 165 else bif !goL p v v.start V then 166 else 0
theorem errN_ne (p:Prb) (v:Veh) (V:List Vst):vI p v V≠167:=by
 unfold vI
 cases aQ p V <;> cases dH p v V <;> cases cG v V <;> cases cA p p.dims.toNat v V <;> cases goL p v v.start V <;> decide
theorem rG {p:Prb} {v:Veh} {V:List Vst} {ps:List Nat} (hs:v.shift.1≤v.shift.2) (hdw:∀ was (u:Vst),u.1≠4→Dg2 p (aM p v was u).place) (hd:Dg2 p v.start) (hV:∀ u ∈ V,u.1≠4) (hps:ps.length=v.brks.length):dI p v (cJ 0 0 ps V)=bif decide (vI p v V=0) then (bif goT p v v.start v.shift.1 (cJ 0 0 ps V) then 0 else 167) else vI p v V:=by
 have hn:=uV ps 0 0 V hV;have h1:aQ p (cJ 0 0 ps V)=aQ p V:=by rw [ybN,hn]
 have h2:cO (cJ 0 0 ps V) v.brks.length=true:=by unfold cO;rw [yB ps 0 0 V hV,hps];simp
 have h3:dH p v (cJ 0 0 ps V)=dH p v V:=by unfold dH;rw [nZ,hn]
 have h4:cG v (cJ 0 0 ps V)=cG v V:=by unfold cG;rw [nZ,hn]
 have h5:cA p p.dims.toNat v (cJ 0 0 ps V)=cA p p.dims.toNat v V:=by rw [ycK,hn]
 have h6:bN p (aB p v (cJ 0 0 ps V))=goL p v v.start V:=by rw [ycH,vE p v hdw _ _ hd,hn]
 unfold dI vI;rw [h1,h2,h3,h4,h5,h6,ybV hs]
 cases aQ p V <;> cases dH p v V <;> cases cG v V <;> cases cA p p.dims.toNat v V <;> cases goL p v v.start V <;> cases goT p v v.start v.shift.1 (cJ 0 0 ps V) <;> rfl
theorem uE {n:Int} {m:Mat} (h:gW n m=true) (hm:SqM m) {x:Int} (h1:0≤x) (h2:x≤n-1):aK m x x=0:=by
 obtain ⟨k1,k2,k3⟩:=hm;unfold gW at h;simp only [Bool.and_eq_true] at h;have hn:m.n=n:=of_decide_eq_true h.1.1;unfold aK;rw [if_pos (by rw [Bool.and_eq_true];exact ⟨mS h1 (by omega),mS h1 (by omega)⟩)];have e1:0≤x*m.n:=Int.mul_nonneg h1 (by omega)
 have e0:x*m.n+x<m.n*m.n:=by
  have:x*m.n≤(m.n-1)*m.n:=Int.mul_le_mul_of_nonneg_right (by omega) (by omega);rw [Int.sub_mul] at this
  omega
 have hi:(x*m.n+x).toNat<m.cells.length:=by omega
 have h3:=List.all_eq_true.1 h.2 _ (List.mem_range.2 hi);unfold yA at h3;simp only [Bool.and_eq_true,Bool.not_eq_true',Bool.and_eq_false_iff,decide_eq_false_iff_not] at h3
 rcases h3.2 with h4 | h4
 ·exfalso
  refine h4 ?_;have e2:(((x*m.n+x).toNat:Nat):Int)=x+x*n:=by rw [hn];rw [hn] at e1;omega
  rw [e2,Int.add_mul_ediv_right _ _ (by omega),Int.add_mul_emod_self_right,Int.ediv_eq_zero_of_lt h1 (by omega),Int.emod_eq_of_lt h1 (by omega)]
  omega
 ·simpa using h4
theorem yS {p:Prb} (h:aY p=true) (k i:Int):0≤(aS p k i).place∧(aS p k i).place≤p.time.n-1:=by
 cases ht:aI p k i with
 | false=>rw [lH ht];have:=(bF h).st.1;exact ⟨by decide,by show (0:Int)≤_;omega⟩
 | true =>
  rcases aN ht with ⟨_,j,_,hj,e⟩ | ⟨_,j,_,hj,e⟩ | ⟨_,j,_,hj,e⟩ <;> rw [e]
  ·have:=lY h hj;unfold mK at this;simp only [Bool.and_eq_true] at this;exact (lI this.1.1.1.1).2.2
  ·have:=fV h hj;unfold jE at this;simp only [Bool.and_eq_true] at this;exact (lI this.1.1.1.1).2.2
  ·have:=fV h hj;unfold jE at this;simp only [Bool.and_eq_true] at this;exact (lI this.1.1.1.2).2.2
theorem xI {p:Prb} (h:aY p=true):gW p.time.n p.time=true∧gW p.time.n p.dist=true:=⟨(jP h).2.1,(jP h).2.2.1⟩
theorem yfV {p:Prb} (h:aY p=true) {x:Int} (h1:0≤x) (h2:x≤p.time.n-1):Dg2 p x:=⟨uE (xI h).1 (bF h).st h1 h2,uE (xI h).2 (bF h).sd h1 h2⟩
theorem ybA {p:Prb} (h:aY p=true) (v:Veh) (was:Int) (u:Vst) (hu:u.1≠4):Dg2 p (aM p v was u).place:=by
 have hp:=yS h u.1 u.2;unfold aM;rw [if_neg hu];exact yfV h hp.1 hp.2
def eE (p:Prb) (v:Veh) (V:List Vst):Option (List Nat):=iN p v v.brks v.start v.shift.1 0 V
structure yI (p:Prb) (v:Veh) (V:List Vst) (r:Option (List Nat)):Prop where
 no:r=none→∀ ps,ps.length=v.brks.length→Vld V.length 0 ps→dI p v (cJ 0 0 ps V)=167
 yes:∀ ps,r=some ps→ps.length=v.brks.length∧Vld V.length 0 ps∧dI p v (cJ 0 0 ps V)=0∧∀ ps',ps'.length=v.brks.length→Vld V.length 0 ps'→uY ps' ps→dI p v (cJ 0 0 ps' V)=167
theorem ydU (m n:Nat):Vld m 0 (List.replicate n 0):=by
 induction n with
 | zero=>trivial
 | succ n ih=>exact ⟨Nat.le_refl _,Nat.zero_le _,ih⟩
theorem kV {p:Prb} {v:Veh} {V:List Vst} {ps0:List Nat} (hl:aY p=true) (hv:iS p.dims p.time.n v) (hV:∀ u ∈ V,u.1≠4) (h0:ps0.length=v.brks.length) (he:dI p v (cJ 0 0 ps0 V)=167):yI p v V (eE p v V):=by
 have hs:v.shift.1≤v.shift.2:=by have:=hv.shift;omega
 have hdw:=ybA hl v;have hd:Dg2 p v.start:=by have:=hv.start;exact yfV hl this.1 this.2
 have hn:vI p v V=0:=by
  rw [rG hs hdw hd hV h0] at he
  cases hz:decide (vI p v V=0) with
  | true=>exact of_decide_eq_true hz
  | false=>rw [hz] at he;exact absurd he (errN_ne p v V)
 have hE:∀ ps,ps.length=v.brks.length→dI p v (cJ 0 0 ps V)=bif goT p v v.start v.shift.1 (cJ 0 0 ps V) then 0 else 167:=fun ps h=>by
  rw [rG hs hdw hd hV h,decide_eq_true hn];rfl
 have hk:=yaR p v (fun was u hu=>(hdw was u hu).1) v.brks 0 (fun j _=>by rw [Nat.zero_add]) V v.start v.shift.1 0 hd.1 hV;refine ⟨fun e ps h1 h2=>?_,fun ps e=>?_⟩
 ·rw [hE ps h1,hk.no e ps h1 (by rw [Nat.zero_add];exact h2)];rfl
 ·obtain ⟨y1,y2,y3,y4⟩:=hk.yes ps e;rw [Nat.zero_add] at y2 y4;exact ⟨y1,y2,by rw [hE ps y1,y3];rfl,fun ps' h1 h2 h3=>by rw [hE ps' h1,y4 ps' h1 h2 h3];rfl⟩
end Go.Proofs.Ytgjpkpmikbpcnaa
