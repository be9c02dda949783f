import Derived.Test.YtgjpkpmikbpcnaaOPtsG
set_option maxRecDepth 100000
set_option maxHeartbeats 6400000
namespace Go.Proofs.Ytgjpkpmikbpcnaa
open Go.RowKit
theorem rH {V:List Vst} {q:Nat} {u v:Vst} (h:V[q]? = some u):(V.take (q+1)).count v=(V.take q).count v+(if u=v then 1 else 0):=by
 rw [eI h,List.count_append,List.count_singleton];simp only [beq_iff_eq]
theorem ydI {w:World} {a:Option Addr} {m c n:Nat} {V:List Vst} (h:VsV w (.slice a m c) V) (hm:V.length=m) (hm2:m≤1000) (hn:n≤m) (k i:Int):Calls Try.prog 128 #[.slice a m c,.int .i64 (n:Int),.agg #[.int .i64 k,.int .i64 i]] w fun e w'=>e=.returned (.int .i64 ((V.take n).count (k,i):Nat))∧Below w.heap.size w w':=by
 have HV:=hide h;have HM:=hide hm;clear h hm;obtain ⟨W,hW⟩:∃ W,W=w.alloc (.cells #[.int .i64 k,.int .i64 i] 34):=⟨_,rfl⟩;have HBW:Hid (Below w.heap.size w W):=by rw [hW];exact Mn.a
 have HC0:W.cell? ⟨w.heap.size,0,none⟩=some (.int .i64 k):=by rw [hW];exact cell_of_row _ _ _ _ _ _ (heap_alloc_new w _)
 have HC1:W.cell? ⟨w.heap.size,1,none⟩=some (.int .i64 i):=by rw [hW];exact cell_of_row _ _ _ _ _ _ (heap_alloc_new w _)
 have HLW:Hid (w.heap.size<W.heap.size):=by show _<_;rw [hW];simp
 go_enter Try.func128,Try.ntmps128;go_wp2_with fail;rw [← hW];clear hW
 go_loopw [8,7] (fun vi v7 wr=>∃ q s:Nat,vi=.int .i64 q∧v7=.int .i64 s∧q≤n∧s≤q∧Hid ((V.take q).count (k,i)=s)∧Hid (Below W.heap.size W wr)) (fun vi _ _=>n-(intOf vi).toNat)
 case atStart=>exact ⟨0,0,rfl,rfl,Nat.zero_le _,Nat.zero_le _,rfl,Below.refl _ _⟩
 case round =>
  obtain ⟨q,s,rfl,rfl,hq,hsq,HS,HB⟩:=hrel
  by_cases hqn:q<n
  ·have i1:(q:Int)<(n:Int):=by omega
   have i2:(0:Int)≤(q:Int):=by omega
   have i3:¬ (m:Int)≤(q:Int):=by omega
   have i4:(q:Int)<(m:Int):=by omega
   obtain ⟨⟨kd,it⟩,hu⟩:∃ u,V[q]? = some u:=⟨_,List.getElem?_eq_getElem (by rw [HM.out];omega)⟩;obtain ⟨b,off,rfl,hb,c1,c2,_⟩:=bL HV.out hu;simp only at c1 c2;have d1:wr.cell? ⟨b,off+q*2,none⟩=some (.int .i64 kd):=((aA (below_on HBW.out HB.out)).1 _ _ hb).trans c1;have d2:wr.cell? ⟨b,off+q*2+1,none⟩=some (.int .i64 it):=((aA (below_on HBW.out HB.out)).1 _ _ hb).trans c2;have e1:wr.cell? ⟨w.heap.size,0,none⟩=some (.int .i64 k):=((aA HB.out).1 _ _ HLW.out).trans HC0;have e2:wr.cell? ⟨w.heap.size,1,none⟩=some (.int .i64 i):=((aA HB.out).1 _ _ HLW.out).trans HC1;have HCT:=hide (rH (v:=(k,i)) hu);clear c1 c2 hu hb
   by_cases ek:kd=k
   ·subst ek
    by_cases ei:it=i
    ·subst ei;have HF:Hid ((V.take (q+1)).count (kd,it)=s+1):=by show _=_;rw [HCT.out,HS.out,if_pos rfl]
     go_wp2_with fail
     first | (go_quiet (fail)) | fail
     go_wp2_with fail;go_roundw
     case rel=>exact ⟨q+1,s+1,by go_num,by go_num,by omega,by omega,HF.out,below_drewN HB.out _⟩
     case measure=>simp [intOf];omega
    ·have HF:Hid ((V.take (q+1)).count (kd,i)=s):=by show _=_;rw [HCT.out,HS.out,if_neg (fun e=>ei (by injection e))];rfl
     have y2:(it == i)=false:=by simpa using ei
     go_wp2_with fail
     first | (go_quiet (fail)) | fail
     go_wp2_with fail;go_roundw
     case rel=>exact ⟨q+1,s,by go_num,rfl,by omega,by omega,HF.out,below_drewN HB.out _⟩
     case measure=>simp [intOf];omega
   ·have HF:Hid ((V.take (q+1)).count (k,i)=s):=by show _=_;rw [HCT.out,HS.out,if_neg (fun e=>ek (by injection e))];rfl
    have y1:(kd == k)=false:=by simpa using ek
    go_wp2_with fail
    first | (go_quiet (fail)) | fail
    go_wp2_with fail;go_roundw
    case rel=>exact ⟨q+1,s,by go_num,rfl,by omega,by omega,HF.out,below_drewN HB.out _⟩
    case measure=>simp [intOf];omega
  ·have i1:¬ (q:Int)<(n:Int):=by omega
   have hqe:q=n:=by omega
   subst hqe;go_wp2_with fail;go_ret;exact ⟨by simp [HS.out],below_on HBW.out HB.out⟩
end Go.Proofs.Ytgjpkpmikbpcnaa
namespace Go.Proofs.Ytgjpkpmikbpcnaa
open Go.RowKit
theorem ydH {V:List Vst} {v:Vst} (hm:v ∈ V) (hu:∀ (i:Nat),V[i]? = some v→v ∉ V.take i):V.count v=1:=by
 revert hm hu
 refine cH (Q:=fun V:List Vst=>v ∈ V→(∀ (i:Nat),V[i]? = some v→v ∉ V.take i)→V.count v=1) (fun h=>by simp at h) (fun V a ih hm hu=>?_) V;rw [List.count_append,List.count_singleton]
 by_cases e:a=v
 ·subst e;have:=hu V.length (by simp);rw [List.take_append_of_le_length (Nat.le_refl _),List.take_length] at this;rw [List.count_eq_zero_of_not_mem this]
  simp
 ·have hm':v ∈ V:=by
   rcases List.mem_append.1 hm with h | h
   ·exact h
   ·rw [List.mem_singleton] at h;exact absurd h.symm e
  have:=ih hm' fun i hi=>by
   have hl:=(List.getElem?_eq_some_iff.1 hi).1;have:=hu i (by rw [List.getElem?_append_left hl];exact hi);rw [List.take_append_of_le_length (by omega)] at this;exact this
  rw [this]
  simp [e]
def eN (p:Prb) (V:List Vst) (i:Nat):Bool:=decide ((V.getD i (0,0)).1=4) || (aI p (V.getD i (0,0)).1 (V.getD i (0,0)).2 && decide (V.count (V.getD i (0,0))=1) && (decide ((V.getD i (0,0)).1≠3) || decide ((V.take i).count (2,(V.getD i (0,0)).2)=1)) && (decide ((V.getD i (0,0)).1≠2) || decide (V.count (3,(V.getD i (0,0)).2)=1)))
theorem vF {V:List Vst} {i:Nat} {v:Vst} (h:V[i]? = some v):V.getD i (0,0)=v:=by rw [List.getD_eq_getElem?_getD,h];rfl
theorem gM (p:Prb) (V:List Vst):(List.range V.length).all (eN p V)=aQ p V:=by
 have key:(List.range V.length).all (eN p V)=true↔ybM p V:=by
  constructor
  ·intro h
   have ho:∀ (i:Nat) v,V[i]? = some v→v.1≠4→aI p v.1 v.2=true∧V.count v=1∧(v.1=3→(V.take i).count (2,v.2)=1)∧(v.1=2→V.count (3,v.2)=1):=fun i v hi h4=>by
    have:=nM h (List.getElem?_eq_some_iff.1 hi).1;unfold eN at this;rw [vF hi] at this;simp only [Bool.or_eq_true,Bool.and_eq_true,decide_eq_true_eq] at this
    rcases this with h9 | ⟨⟨⟨h1,h2⟩,h3⟩,h5⟩
    ·exact absurd h9 h4
    ·exact ⟨h1,h2,fun e=>h3.resolve_left (fun h8=>h8 e),fun e=>h5.resolve_left (fun h8=>h8 e)⟩
   refine ⟨fun i v hi h4=>?_,fun j hj=>?_⟩
   ·obtain ⟨h1,h2,h3,_⟩:=ho i v hi h4;refine ⟨h1,fun hmem=>?_,fun e=>?_⟩
    ·have hl:=(List.getElem?_eq_some_iff.1 hi).1;have hs:=rH (v:=v) hi;rw [if_pos rfl] at hs;have hp:0<(V.take i).count v:=List.count_pos_iff.2 hmem;have hle:(V.take (i+1)).count v≤V.count v:=List.Sublist.count_le v (List.take_sublist _ _)
     omega
    ·have:=h3 e;exact List.count_pos_iff.1 (by omega)
   ·obtain ⟨i,hi⟩:=List.getElem?_of_mem hj;have:=(ho i _ hi (by simp)).2.2.2 rfl;exact List.count_pos_iff.1 (by simp only at this;omega)
  ·rintro ⟨hg,hw⟩;have hone:∀ v ∈ V,v.1≠4→V.count v=1:=fun v hv h4=>ydH hv fun i hi=>(hg i v hi h4).2.1;refine gY fun i hi=>?_;have hx:V[i]? = some V[i]:=List.getElem?_eq_getElem hi;unfold eN;rw [vF hx];obtain ⟨v,hv⟩:∃ v,V[i]=v:=⟨_,rfl⟩;rw [hv] at hx ⊢;simp only [Bool.or_eq_true,Bool.and_eq_true,decide_eq_true_eq]
   by_cases h4:v.1=4
   ·exact .inl h4
   ·obtain ⟨h1,h2,h3⟩:=hg i v hx h4;refine .inr ⟨⟨⟨h1,hone v (List.mem_of_getElem? hx) h4⟩,?_⟩,?_⟩
    ·by_cases e:v.1=3
     ·have hm:=h3 e;have hc:0<(V.take i).count (2,v.2):=List.count_pos_iff.2 hm;have hle:(V.take i).count (2,v.2)≤V.count (2,v.2):=List.Sublist.count_le _ (List.take_sublist _ _);have:=hone (2,v.2) (List.mem_of_mem_take hm) (by simp);exact .inr (by omega)
     ·exact .inl e
    ·by_cases e:v.1=2
     ·have hm:((2,v.2):Vst) ∈ V:=by have:=List.mem_of_getElem? hx;obtain ⟨a,b⟩:=v;simp only at e;subst e;exact this
      exact .inr (hone (3,v.2) (hw v.2 hm) (by simp))
     ·exact .inl e
 cases e:aQ p V with
 | true=>exact key.2 ((dE p V).1 e)
 | false =>
  cases e2:(List.range V.length).all (eN p V) with
  | false=>rfl
  | true=>have:=(dE p V).2 (key.1 e2);rw [e] at this;cases this
end Go.Proofs.Ytgjpkpmikbpcnaa
namespace Go.Proofs.Ytgjpkpmikbpcnaa
open Go.RowKit
theorem ycD {w:World} {x:aU} {p:Prb} {m vc:Nat} {va:Option Addr} {V:List Vst} (h:PrbV w x p) (hV:VsV w (.slice va m vc) V) (hm:V.length=m) (hm2:m≤200):Calls Try.prog 109 #[.agg (aL p x),.slice va m vc] w fun e w'=>e=.returned (.bool (aQ p V))∧Below w.heap.size w w':=by
 have HP:=hide h;have HV:=hide hV;have HM:=hide hm;clear hV hm;obtain ⟨ta,tc,da,dc,va',vc',ja,jc,sa,sc,rfl⟩:=h.open;clear h;have HTE:Hid (aL p ⟨.slice ta p.time.cells.length tc,.slice da p.dist.cells.length dc,.slice va' p.vs.length vc',.slice ja p.js.length jc,.slice sa p.ss.length sc⟩=#[.int .i64 p.dims,.int .i64 p.time.n,.slice ta p.time.cells.length tc,.int .i64 p.dist.n,.slice da p.dist.cells.length dc,.slice va' p.vs.length vc',.slice ja p.js.length jc,.slice sa p.ss.length sc]):=rfl;rw [HTE.out];have H22:Hid (∀ W2 (k i:Int),PrbV W2 ⟨.slice ta p.time.cells.length tc,.slice da p.dist.cells.length dc,.slice va' p.vs.length vc',.slice ja p.js.length jc,.slice sa p.ss.length sc⟩ p→Calls Try.prog 22 #[.agg #[.int .i64 p.dims,.int .i64 p.time.n,.slice ta p.time.cells.length tc,.int .i64 p.dist.n,.slice da p.dist.cells.length dc,.slice va' p.vs.length vc',.slice ja p.js.length jc,.slice sa p.ss.length sc],.agg #[.int .i64 k,.int .i64 i]] W2 fun e w'=>∃ y,e=.returned (.tuple #[.agg #[.int .i64 (aS p k i).place,.int .i64 (aS p k i).serv,y],.bool (aI p k i)])∧WinsV w' y (aS p k i).wins∧Below W2.heap.size W2 w'):=fun W2 k i hp=>by have h9:=jM hp k i;exact h9
 have H128:Hid (∀ W2 (n:Nat) (k i:Int),Below w.heap.size w W2→n≤m→Calls Try.prog 128 #[.slice va m vc,.int .i64 (n:Int),.agg #[.int .i64 k,.int .i64 i]] W2 fun e w'=>e=.returned (.int .i64 ((V.take n).count (k,i):Nat))∧Below W2.heap.size W2 w'):=fun W2 n k i hf hn=>by have h9:=ydI (c:=vc) (PrV.on HV.out hf) HM.out (by omega) hn k i;exact h9
 have HCM:Hid (V.take m=V):=by show _=_;rw [List.take_of_length_le (by rw [HM.out];exact Nat.le_refl _)]
 obtain ⟨W,hW⟩:∃ W,W=w.alloc (.cells #[.int .i64 p.dims,.int .i64 p.time.n,.slice ta p.time.cells.length tc,.int .i64 p.dist.n,.slice da p.dist.cells.length dc,.slice va' p.vs.length vc',.slice ja p.js.length jc,.slice sa p.ss.length sc] 29):=⟨_,rfl⟩;have HBW:Hid (Below w.heap.size w W):=by rw [hW];exact Mn.a
 have HLW:Hid (w.heap.size<W.heap.size):=by show _<_;rw [hW];simp
 have HC:Hid (∀ j,W.cell? ⟨w.heap.size,j,none⟩=(#[.int .i64 p.dims,.int .i64 p.time.n,.slice ta p.time.cells.length tc,.int .i64 p.dist.n,.slice da p.dist.cells.length dc,.slice va' p.vs.length vc',.slice ja p.js.length jc,.slice sa p.ss.length sc]:Array Value)[j]?):=fun j=>by rw [hW];exact cell_of_row _ _ _ _ _ _ (heap_alloc_new w _)
 go_enter Try.func109,Try.ntmps109;go_wp2_with fail;rw [← hW];clear hW
 go_loopw [5] (fun vi wr=>∃ q:Nat,vi=.int .i64 q∧q≤m∧Hid (∀ i,i<q→eN p V i=true)∧Hid (Below W.heap.size W wr)) (fun vi _=>m-(intOf vi).toNat)
 case atStart=>exact ⟨0,rfl,Nat.zero_le _,(fun i hi=>by omega),Below.refl _ _⟩
 case round =>
  obtain ⟨q,rfl,hq,HI,HB⟩:=hrel;have EW:Hid (Below w.heap.size w wr):=below_on HBW.out HB.out
  by_cases hqm:q<m
  ·have i1:(q:Int)<(m:Int):=by omega
   have i2:(0:Int)≤(q:Int):=by omega
   have i3:¬ (m:Int)≤(q:Int):=by omega
   have HQL:Hid (q<V.length):=by show _<_;rw [HM.out];exact hqm
   obtain ⟨⟨kd,it⟩,hu⟩:∃ u,V[q]? = some u:=⟨_,List.getElem?_eq_getElem (by rw [HM.out];exact hqm)⟩;obtain ⟨b,off,rfl,hb,c1,c2,_⟩:=bL HV.out hu;simp only at c1 c2;have d1:wr.cell? ⟨b,off+q*2,none⟩=some (.int .i64 kd):=((aA EW.out).1 _ _ hb).trans c1;have d2:wr.cell? ⟨b,off+q*2+1,none⟩=some (.int .i64 it):=((aA EW.out).1 _ _ hb).trans c2;have HPB:Hid (eN p V q=(decide (kd=4) || (aI p kd it && decide (V.count (kd,it)=1) && (decide (kd≠3) || decide ((V.take q).count (2,it)=1)) && (decide (kd≠2) || decide (V.count (3,it)=1))))):=by show _=_;unfold eN;rw [vF hu]
   clear c1 c2 hu hb;have lw0:w.heap.size<wr.heap.size:=Nat.lt_of_lt_of_le HLW.out HB.out.size;have nw0:¬ w.heap.size=wr.heap.size:=by omega
   obtain ⟨r0,r1,r2,r3,r4,r5,r6,r7⟩:=Mn.c8 (fun j=>((aA HB.out).1 _ j HLW.out).trans (HC.out j))
   by_cases hk4:kd=4
   ·subst hk4;have HOK:Hid (eN p V q=true):=HPB.out.trans (by simp);go_wp2_with fail;go_roundw
    case rel=>exact ⟨q+1,by go_num,by omega,(fun i hi=>by rcases Nat.lt_succ_iff_lt_or_eq.1 hi with h9 | h9;exact HI.out i h9;rw [h9];exact HOK.out),HB.out.alloc HB.out.size _⟩
    case measure=>simp [intOf];omega
   ·have y4:(kd == 4)=false:=by simpa using hk4
    obtain ⟨cn,hcn⟩:∃ c,V.count (kd,it)=c:=⟨_,rfl⟩;have HCN:=hide hcn
    cases hth:aI p kd it with
    | false =>
     have HTH:=hide hth;have HOK:Hid (eN p V q=false):=HPB.out.trans (by rw [hth];simp [hk4]);clear hth hcn;have HF:=hide (cU (f:=eN p V) HQL.out HOK.out);go_wp2_with (first | (go_at_call 22;refine (H22.out _ _ _ (HP.out.on (below_on EW.out Mn.a))).mono ?_;rintro e w2 ⟨y,rfl,Q2,k2⟩;obtain ⟨ya,yc,rfl⟩:=Q2.shape;rw [HTH.out];have E2:=hide (below_on ((Below.refl wr.heap.size wr).alloc (Nat.le_refl _) _) k2);have l2:wr.heap.size<w2.heap.size:=(by have:=k2.size;simp at this;omega);have n2:¬ wr.heap.size=w2.heap.size:=(by omega);have va0:w2.cell? ⟨wr.heap.size,0,none⟩=some (.int .i64 kd):=((aA k2).1 _ 0 (by simp)).trans (by simp [go_sem]);have va1:w2.cell? ⟨wr.heap.size,1,none⟩=some (.int .i64 it):=((aA k2).1 _ 1 (by simp)).trans (by simp [go_sem]);clear k2 Q2) | fail);go_ret;exact ⟨by rw [← gM,HF.out];rfl,below_on EW.out ((E2.out.alloc E2.out.size _))⟩
    | true =>
     have HTH:=hide hth
     by_cases hc1:cn=1
     ·subst hc1;have hk123:kd=1∨kd=2∨kd=3:=by rcases aN hth with ⟨e,_⟩ | ⟨e,_⟩ | ⟨e,_⟩ <;> omega
      rcases hk123 with rfl | rfl | rfl
      ·have HOK:Hid (eN p V q=true):=HPB.out.trans (by rw [hth,hcn];simp);clear hth hcn;go_wp2_with (first | (go_at_call 128;refine (H128.out _ m _ _ (below_on EW.out (below_on E2.out Mn.a)) (Nat.le_refl _)).mono ?_;rintro e w3 ⟨rfl,k3⟩;rw [HCM.out,HCN.out];have F3:=hide (below_on ((Below.refl w2.heap.size w2).alloc (Nat.le_refl _) _) k3);have E3:=hide (below_on E2.out F3.out);have l3:wr.heap.size<w3.heap.size:=Nat.lt_of_lt_of_le l2 F3.out.size;have vc0:w3.cell? ⟨wr.heap.size,0,none⟩=some (.int .i64 1):=((aA F3.out).1 _ 0 l2).trans va0;have vc1:w3.cell? ⟨wr.heap.size,1,none⟩=some (.int .i64 it):=((aA F3.out).1 _ 1 l2).trans va1;clear k3) | (go_at_call 22;refine (H22.out _ _ _ (HP.out.on (below_on EW.out Mn.a))).mono ?_;rintro e w2 ⟨y,rfl,Q2,k2⟩;obtain ⟨ya,yc,rfl⟩:=Q2.shape;rw [HTH.out];have E2:=hide (below_on ((Below.refl wr.heap.size wr).alloc (Nat.le_refl _) _) k2);have l2:wr.heap.size<w2.heap.size:=(by have:=k2.size;simp at this;omega);have n2:¬ wr.heap.size=w2.heap.size:=(by omega);have va0:w2.cell? ⟨wr.heap.size,0,none⟩=some (.int .i64 1):=((aA k2).1 _ 0 (by simp)).trans (by simp [go_sem]);have va1:w2.cell? ⟨wr.heap.size,1,none⟩=some (.int .i64 it):=((aA k2).1 _ 1 (by simp)).trans (by simp [go_sem]);clear k2 Q2) | fail);go_roundw
       case rel=>exact ⟨q+1,by go_num,by omega,(fun i hi=>by rcases Nat.lt_succ_iff_lt_or_eq.1 hi with h9 | h9;exact HI.out i h9;rw [h9];exact HOK.out),below_on HB.out E3.out⟩
       case measure=>simp [intOf];omega
      ·obtain ⟨c3,hc3⟩:∃ c,V.count (3,it)=c:=⟨_,rfl⟩;have HC3:=hide hc3
       by_cases h31:c3=1
       ·subst h31;have HOK:Hid (eN p V q=true):=HPB.out.trans (by rw [hth,hcn,hc3];simp);clear hth hcn hc3;go_wp2_with (first | (go_at_call 128;refine (H128.out _ m _ _ (below_on EW.out E3.out) (Nat.le_refl _)).mono ?_;rintro e w4 ⟨rfl,k4⟩;rw [HCM.out,HC3.out];have E4:=hide (below_on E3.out k4);clear k4) | (go_at_call 128;refine (H128.out _ m _ _ (below_on EW.out (below_on E2.out Mn.a)) (Nat.le_refl _)).mono ?_;rintro e w3 ⟨rfl,k3⟩;rw [HCM.out,HCN.out];have F3:=hide (below_on ((Below.refl w2.heap.size w2).alloc (Nat.le_refl _) _) k3);have E3:=hide (below_on E2.out F3.out);have l3:wr.heap.size<w3.heap.size:=Nat.lt_of_lt_of_le l2 F3.out.size;have vc0:w3.cell? ⟨wr.heap.size,0,none⟩=some (.int .i64 2):=((aA F3.out).1 _ 0 l2).trans va0;have vc1:w3.cell? ⟨wr.heap.size,1,none⟩=some (.int .i64 it):=((aA F3.out).1 _ 1 l2).trans va1;clear k3) | (go_at_call 22;refine (H22.out _ _ _ (HP.out.on (below_on EW.out Mn.a))).mono ?_;rintro e w2 ⟨y,rfl,Q2,k2⟩;obtain ⟨ya,yc,rfl⟩:=Q2.shape;rw [HTH.out];have E2:=hide (below_on ((Below.refl wr.heap.size wr).alloc (Nat.le_refl _) _) k2);have l2:wr.heap.size<w2.heap.size:=(by have:=k2.size;simp at this;omega);have n2:¬ wr.heap.size=w2.heap.size:=(by omega);have va0:w2.cell? ⟨wr.heap.size,0,none⟩=some (.int .i64 2):=((aA k2).1 _ 0 (by simp)).trans (by simp [go_sem]);have va1:w2.cell? ⟨wr.heap.size,1,none⟩=some (.int .i64 it):=((aA k2).1 _ 1 (by simp)).trans (by simp [go_sem]);clear k2 Q2) | fail);go_roundw
        case rel=>exact ⟨q+1,by go_num,by omega,(fun i hi=>by rcases Nat.lt_succ_iff_lt_or_eq.1 hi with h9 | h9;exact HI.out i h9;rw [h9];exact HOK.out),below_on HB.out E4.out⟩
        case measure=>simp [intOf];omega
       ·have HOK:Hid (eN p V q=false):=HPB.out.trans (by rw [hth,hcn,hc3];simp [h31]);have y3:((c3:Int) == 1)=false:=by simp;omega
        have y3':((c3:Int) != 1)=true:=by simp;omega
        clear hth hcn hc3;have HF:=hide (cU (f:=eN p V) HQL.out HOK.out);go_wp2_with (first | (go_at_call 128;refine (H128.out _ m _ _ (below_on EW.out E3.out) (Nat.le_refl _)).mono ?_;rintro e w4 ⟨rfl,k4⟩;rw [HCM.out,HC3.out];have E4:=hide (below_on E3.out k4);clear k4) | (go_at_call 128;refine (H128.out _ m _ _ (below_on EW.out (below_on E2.out Mn.a)) (Nat.le_refl _)).mono ?_;rintro e w3 ⟨rfl,k3⟩;rw [HCM.out,HCN.out];have F3:=hide (below_on ((Below.refl w2.heap.size w2).alloc (Nat.le_refl _) _) k3);have E3:=hide (below_on E2.out F3.out);have l3:wr.heap.size<w3.heap.size:=Nat.lt_of_lt_of_le l2 F3.out.size;have vc0:w3.cell? ⟨wr.heap.size,0,none⟩=some (.int .i64 2):=((aA F3.out).1 _ 0 l2).trans va0;have vc1:w3.cell? ⟨wr.heap.size,1,none⟩=some (.int .i64 it):=((aA F3.out).1 _ 1 l2).trans va1;clear k3) | (go_at_call 22;refine (H22.out _ _ _ (HP.out.on (below_on EW.out Mn.a))).mono ?_;rintro e w2 ⟨y,rfl,Q2,k2⟩;obtain ⟨ya,yc,rfl⟩:=Q2.shape;rw [HTH.out];have E2:=hide (below_on ((Below.refl wr.heap.size wr).alloc (Nat.le_refl _) _) k2);have l2:wr.heap.size<w2.heap.size:=(by have:=k2.size;simp at this;omega);have n2:¬ wr.heap.size=w2.heap.size:=(by omega);have va0:w2.cell? ⟨wr.heap.size,0,none⟩=some (.int .i64 2):=((aA k2).1 _ 0 (by simp)).trans (by simp [go_sem]);have va1:w2.cell? ⟨wr.heap.size,1,none⟩=some (.int .i64 it):=((aA k2).1 _ 1 (by simp)).trans (by simp [go_sem]);clear k2 Q2) | fail);go_ret;exact ⟨by rw [← gM,HF.out];rfl,below_on EW.out (E4.out)⟩
      ·obtain ⟨c3,hc3⟩:∃ c,(V.take q).count (2,it)=c:=⟨_,rfl⟩;have HC3:=hide hc3
       by_cases h31:c3=1
       ·subst h31;have HOK:Hid (eN p V q=true):=HPB.out.trans (by rw [hth,hcn,hc3];simp);clear hth hcn hc3;go_wp2_with (first | (go_at_call 128;refine (H128.out _ q _ _ (below_on EW.out E3.out) (by omega)).mono ?_;rintro e w4 ⟨rfl,k4⟩;rw [HC3.out];have E4:=hide (below_on E3.out k4);have vd0:w4.cell? ⟨wr.heap.size,0,none⟩=some (.int .i64 3):=((aA k4).1 _ 0 l3).trans vc0;clear k4) | (go_at_call 128;refine (H128.out _ m _ _ (below_on EW.out (below_on E2.out Mn.a)) (Nat.le_refl _)).mono ?_;rintro e w3 ⟨rfl,k3⟩;rw [HCM.out,HCN.out];have F3:=hide (below_on ((Below.refl w2.heap.size w2).alloc (Nat.le_refl _) _) k3);have E3:=hide (below_on E2.out F3.out);have l3:wr.heap.size<w3.heap.size:=Nat.lt_of_lt_of_le l2 F3.out.size;have vc0:w3.cell? ⟨wr.heap.size,0,none⟩=some (.int .i64 3):=((aA F3.out).1 _ 0 l2).trans va0;have vc1:w3.cell? ⟨wr.heap.size,1,none⟩=some (.int .i64 it):=((aA F3.out).1 _ 1 l2).trans va1;clear k3) | (go_at_call 22;refine (H22.out _ _ _ (HP.out.on (below_on EW.out Mn.a))).mono ?_;rintro e w2 ⟨y,rfl,Q2,k2⟩;obtain ⟨ya,yc,rfl⟩:=Q2.shape;rw [HTH.out];have E2:=hide (below_on ((Below.refl wr.heap.size wr).alloc (Nat.le_refl _) _) k2);have l2:wr.heap.size<w2.heap.size:=(by have:=k2.size;simp at this;omega);have n2:¬ wr.heap.size=w2.heap.size:=(by omega);have va0:w2.cell? ⟨wr.heap.size,0,none⟩=some (.int .i64 3):=((aA k2).1 _ 0 (by simp)).trans (by simp [go_sem]);have va1:w2.cell? ⟨wr.heap.size,1,none⟩=some (.int .i64 it):=((aA k2).1 _ 1 (by simp)).trans (by simp [go_sem]);clear k2 Q2) | fail);go_roundw
        case rel=>exact ⟨q+1,by go_num,by omega,(fun i hi=>by rcases Nat.lt_succ_iff_lt_or_eq.1 hi with h9 | h9;exact HI.out i h9;rw [h9];exact HOK.out),below_on HB.out E4.out⟩
        case measure=>simp [intOf];omega
       ·have HOK:Hid (eN p V q=false):=HPB.out.trans (by rw [hth,hcn,hc3];simp [h31]);have y3:((c3:Int) == 1)=false:=by simp;omega
        have y3':((c3:Int) != 1)=true:=by simp;omega
        clear hth hcn hc3;have HF:=hide (cU (f:=eN p V) HQL.out HOK.out);go_wp2_with (first | (go_at_call 128;refine (H128.out _ q _ _ (below_on EW.out E3.out) (by omega)).mono ?_;rintro e w4 ⟨rfl,k4⟩;rw [HC3.out];have E4:=hide (below_on E3.out k4);have vd0:w4.cell? ⟨wr.heap.size,0,none⟩=some (.int .i64 3):=((aA k4).1 _ 0 l3).trans vc0;clear k4) | (go_at_call 128;refine (H128.out _ m _ _ (below_on EW.out (below_on E2.out Mn.a)) (Nat.le_refl _)).mono ?_;rintro e w3 ⟨rfl,k3⟩;rw [HCM.out,HCN.out];have F3:=hide (below_on ((Below.refl w2.heap.size w2).alloc (Nat.le_refl _) _) k3);have E3:=hide (below_on E2.out F3.out);have l3:wr.heap.size<w3.heap.size:=Nat.lt_of_lt_of_le l2 F3.out.size;have vc0:w3.cell? ⟨wr.heap.size,0,none⟩=some (.int .i64 3):=((aA F3.out).1 _ 0 l2).trans va0;have vc1:w3.cell? ⟨wr.heap.size,1,none⟩=some (.int .i64 it):=((aA F3.out).1 _ 1 l2).trans va1;clear k3) | (go_at_call 22;refine (H22.out _ _ _ (HP.out.on (below_on EW.out Mn.a))).mono ?_;rintro e w2 ⟨y,rfl,Q2,k2⟩;obtain ⟨ya,yc,rfl⟩:=Q2.shape;rw [HTH.out];have E2:=hide (below_on ((Below.refl wr.heap.size wr).alloc (Nat.le_refl _) _) k2);have l2:wr.heap.size<w2.heap.size:=(by have:=k2.size;simp at this;omega);have n2:¬ wr.heap.size=w2.heap.size:=(by omega);have va0:w2.cell? ⟨wr.heap.size,0,none⟩=some (.int .i64 3):=((aA k2).1 _ 0 (by simp)).trans (by simp [go_sem]);have va1:w2.cell? ⟨wr.heap.size,1,none⟩=some (.int .i64 it):=((aA k2).1 _ 1 (by simp)).trans (by simp [go_sem]);clear k2 Q2) | fail);go_ret;exact ⟨by rw [← gM,HF.out];rfl,below_on EW.out (E4.out)⟩
     ·have HOK:Hid (eN p V q=false):=HPB.out.trans (by rw [hth,hcn];simp [hk4,hc1]);have y3:((cn:Int) == 1)=false:=by simp;omega
      have y3':((cn:Int) != 1)=true:=by simp;omega
      clear hth hcn;have HF:=hide (cU (f:=eN p V) HQL.out HOK.out);go_wp2_with (first | (go_at_call 128;refine (H128.out _ m _ _ (below_on EW.out (below_on E2.out Mn.a)) (Nat.le_refl _)).mono ?_;rintro e w3 ⟨rfl,k3⟩;rw [HCM.out,HCN.out];have F3:=hide (below_on ((Below.refl w2.heap.size w2).alloc (Nat.le_refl _) _) k3);have E3:=hide (below_on E2.out F3.out);have l3:wr.heap.size<w3.heap.size:=Nat.lt_of_lt_of_le l2 F3.out.size;have vc0:w3.cell? ⟨wr.heap.size,0,none⟩=some (.int .i64 kd):=((aA F3.out).1 _ 0 l2).trans va0;have vc1:w3.cell? ⟨wr.heap.size,1,none⟩=some (.int .i64 it):=((aA F3.out).1 _ 1 l2).trans va1;clear k3) | (go_at_call 22;refine (H22.out _ _ _ (HP.out.on (below_on EW.out Mn.a))).mono ?_;rintro e w2 ⟨y,rfl,Q2,k2⟩;obtain ⟨ya,yc,rfl⟩:=Q2.shape;rw [HTH.out];have E2:=hide (below_on ((Below.refl wr.heap.size wr).alloc (Nat.le_refl _) _) k2);have l2:wr.heap.size<w2.heap.size:=(by have:=k2.size;simp at this;omega);have n2:¬ wr.heap.size=w2.heap.size:=(by omega);have va0:w2.cell? ⟨wr.heap.size,0,none⟩=some (.int .i64 kd):=((aA k2).1 _ 0 (by simp)).trans (by simp [go_sem]);have va1:w2.cell? ⟨wr.heap.size,1,none⟩=some (.int .i64 it):=((aA k2).1 _ 1 (by simp)).trans (by simp [go_sem]);clear k2 Q2) | fail);go_ret;exact ⟨by rw [← gM,HF.out];rfl,below_on EW.out (E3.out)⟩
  ·have i1:¬ (q:Int)<(m:Int):=by omega
   have HF:Hid ((List.range V.length).all (eN p V)=true):=gY fun i hi=>HI.out i (by rw [HM.out] at hi;omega);go_wp2_with fail;go_ret;exact ⟨by rw [← gM,HF.out];rfl,EW.out⟩
end Go.Proofs.Ytgjpkpmikbpcnaa
