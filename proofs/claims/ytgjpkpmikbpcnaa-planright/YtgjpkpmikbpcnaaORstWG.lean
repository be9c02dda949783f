import Derived.Test.YtgjpkpmikbpcnaaOTrAG
set_option maxRecDepth 100000
set_option maxHeartbeats 12800000
namespace Go.Proofs.Ytgjpkpmikbpcnaa
open Go.RowKit
theorem zF {w:World} {x:aU} {p:Prb} {k m vc:Nat} {va:Option Addr} {V:List Vst} (h:PrbV w x p) (hk:k<p.vs.length) (hV:VsV w (.slice va m vc) V) (hm:V.length=m):Calls Try.prog 99 #[.agg (cB p x k (.slice va m vc))] w fun e w'=>e=.returned (.bool (cO V (p.vs.getD k vz).brks.length))∧Below w.heap.size w w':=by
 have HB0:Hid (∀ A,Below w.heap.size w (w.alloc A)):=fun A=>(Below.refl _ _).alloc (Nat.le_refl _) A;have HP:=hide h;have HV:=hide hV;have HM:=hide hm;have hmb:m*16≤140737488351232:=by obtain ⟨_,_,e,hb,_⟩:=hV;rw [← hm];exact hb
 obtain ⟨nb,hnb⟩:∃ q,(p.vs.getD k vz).brks.length=q:=⟨_,rfl⟩;have HNB:=hide hnb;rw [hnb]
 have hnbb:nb*32≤140737488351232:=by
  obtain ⟨_,_,_,_,_,_,_,_,_,q2⟩:=nX h.v hk;rw [← hnb];exact SlV.bound q2
 clear hnb hV hm;obtain ⟨ta,tc,da,dc,va',vc',ja,jc,sa,sc,rfl⟩:=h.open;clear h;have HTE:Hid (cB p ⟨.slice ta p.time.cells.length tc,.slice da p.dist.cells.length dc,.slice va' p.vs.length vc',.slice ja p.js.length jc,.slice sa p.ss.length sc⟩ k (.slice va m vc)=#[.int .i64 p.dims,.int .i64 p.time.n,.slice ta p.time.cells.length tc,.int .i64 p.dist.n,.slice da p.dist.cells.length dc,.slice va' p.vs.length vc',.slice ja p.js.length jc,.slice sa p.ss.length sc,.int .i64 k,.slice va m vc]):=rfl;rw [HTE.out];obtain ⟨W,hW⟩:∃ W,W=w.alloc (.cells #[.int .i64 p.dims,.int .i64 p.time.n,.slice ta p.time.cells.length tc,.int .i64 p.dist.n,.slice da p.dist.cells.length dc,.slice va' p.vs.length vc',.slice ja p.js.length jc,.slice sa p.ss.length sc,.int .i64 k,.slice va m vc] 121):=⟨_,rfl⟩;have HBW:Hid (Below w.heap.size w W):=by rw [hW];exact HB0.out _
 have HLW:Hid (w.heap.size<W.heap.size):=by show _<_;rw [hW];simp
 have HC:Hid (∀ j,W.cell? ⟨w.heap.size,j,none⟩=(#[.int .i64 p.dims,.int .i64 p.time.n,.slice ta p.time.cells.length tc,.int .i64 p.dist.n,.slice da p.dist.cells.length dc,.slice va' p.vs.length vc',.slice ja p.js.length jc,.slice sa p.ss.length sc,.int .i64 k,.slice va m vc]:Array Value)[j]?):=fun j=>by rw [hW];exact cell_of_row _ _ _ _ _ _ (heap_alloc_new w _)
 go_enter Try.func99,Try.ntmps99;go_wp2;rw [← hW];clear hW
 go_loopw [9,3] (fun vi vn wr=>∃ q n:Nat,vi=.int .i64 q∧vn=.int .i64 n∧q≤m∧n≤q∧Hid (gC 0 V=gC n (V.drop q))∧Hid (Below W.heap.size W wr)) (fun vi _ _=>m-(intOf vi).toNat)
 case atStart=>exact ⟨0,0,rfl,rfl,Nat.zero_le _,Nat.le_refl _,by rw [List.drop_zero];rfl,Below.refl _ _⟩
 case round =>
  obtain ⟨q,n,rfl,rfl,hq,hn,HR,HB⟩:=hrel
  by_cases hqm:q<m
  ·have i1:(q:Int)<(m:Int):=by omega
   have i2:(0:Int)≤(q:Int):=by omega
   have i3:¬ (m:Int)≤(q:Int):=by omega
   obtain ⟨⟨kd,it⟩,hu⟩:∃ u,V[q]? = some u:=⟨_,List.getElem?_eq_getElem (by rw [HM.out];exact hqm)⟩;obtain ⟨b,off,rfl,hb,c1,c2,_⟩:=bL HV.out hu;simp only at c1 c2;have d1:wr.cell? ⟨b,off+q*2,none⟩=some (.int .i64 kd):=((aA (below_on HBW.out HB.out)).1 _ _ hb).trans c1;have d2:wr.cell? ⟨b,off+q*2+1,none⟩=some (.int .i64 it):=((aA (below_on HBW.out HB.out)).1 _ _ hb).trans c2;have HD:=hide (HR.out.trans (jH hu));simp only at HD;clear c1 c2 hu hb;have HA:Hid (∀ o,Below W.heap.size W (wr.alloc o)):=fun o=>HB.out.alloc HB.out.size o
   by_cases hk4:kd=4
   ·subst hk4;rw [if_pos rfl] at HD
    by_cases hin:it=(n:Int)
    ·subst hin;rw [if_pos rfl] at HD;have y1:((n:Int) != (n:Int))=false:=by simp
     go_wp2_with (first | (go_at_call 73;refine (cW _ _ _).mono ?_;rintro e w1 ⟨rfl,k1⟩;have B1:=hide (below_on (HA.out _) k1);have e1:w1.cell? ⟨wr.heap.size,1,none⟩=some (.int .i64 n):=((aA k1).1 _ 1 (by simp)).trans (by simp [go_sem]);clear k1) | fail);go_roundw
     case rel=>exact ⟨q+1,n+1,by go_num,by go_num,by omega,by omega,HD.out,B1.out⟩
     case measure=>simp [intOf];omega
    ·rw [if_neg hin] at HD;have y1:(it != (n:Int))=true:=by simpa using hin
     have HF:Hid (cO V nb=false):=by show _=_;unfold cO;rw [HD.out];simp
     go_wp2_with (first | (go_at_call 73;refine (cW _ _ _).mono ?_;rintro e w1 ⟨rfl,k1⟩;have B1:=hide (below_on (HA.out _) k1);have e1:w1.cell? ⟨wr.heap.size,1,none⟩=some (.int .i64 it):=((aA k1).1 _ 1 (by simp)).trans (by simp [go_sem]);clear k1) | fail);go_ret;exact ⟨by simp [HF.out],below_on HBW.out B1.out⟩
   ·rw [if_neg hk4] at HD;have y4:(kd == 4)=false:=by simpa using hk4
    go_wp2_with (first | (go_at_call 73;refine (cW _ _ _).mono ?_;rintro e w1 ⟨rfl,k1⟩;have B1:=hide (below_on (HA.out _) k1);clear k1) | fail);go_roundw
    case rel=>exact ⟨q+1,n,by go_num,rfl,by omega,by omega,HD.out,B1.out⟩
    case measure=>simp [intOf];omega
  ·have i1:¬ (q:Int)<(m:Int):=by omega
   have HF:Hid (cO V nb=decide (n=nb)):=by
    show _=_;unfold cO;rw [HR.out,List.drop_eq_nil_of_le (by rw [HM.out];omega)]
    simp [gC]
   have r:∀ j,wr.cell? ⟨w.heap.size,j,none⟩=_:=fun j=>((aA HB.out).1 _ j HLW.out).trans (HC.out j);have r0:=r 0;have r1:=r 1;have r2:=r 2;have r3:=r 3;have r4:=r 4;have r5:=r 5;have r6:=r 6;have r7:=r 7;have r8:=r 8;have r9:=r 9;simp at r0 r1 r2 r3 r4 r5 r6 r7 r8 r9;clear r
   have y5:((n:Int) == (nb:Int))=decide (n=nb):=by
    by_cases e:n=nb
    ·subst e;simp
    ·have:¬ (n:Int)=(nb:Int):=by omega
     simp [e,this]
   go_wp2_with (first | (go_at_call 74;rw [← HTE.out];refine (car_any (HP.out.on (below_on HBW.out HB.out)) hk).mono ?_;rintro e w1 ⟨xc,xb,rfl,q1,q2,k1⟩;obtain ⟨ba,c2,rfl⟩:=SlV.shape q2;rw [HNB.out];obtain ⟨V1,hV1⟩:∃ V1,p.vs.getD k vz=V1:=⟨_,rfl⟩;rw [hV1];clear hV1;have hfd:∀ X,(Instr.field 86 (.agg (eZ V1 xc (.slice ba nb c2))) 9).run Try.prog X=.ok (.slice ba nb c2) X:=(fun X=>by kernel_rfl);have B1:=hide (below_on HB.out k1);clear k1 q1 q2) | fail);go_ret;exact ⟨by simp [HF.out],below_on HBW.out B1.out⟩
end Go.Proofs.Ytgjpkpmikbpcnaa
namespace Go.Proofs.Ytgjpkpmikbpcnaa
open Go.RowKit
theorem yR {w:World} {base n c q:Nat} {a:Option Addr} {T:List Tsk} {t:Tsk} (h:TRow w base (.slice a n c) T) (ht:T[q]? = some t) (hn:T.length=n):∃ g,a=some ⟨g,0,none⟩∧g<w.heap.size∧w.cell? ⟨g,q*2,none⟩=some (.bool t.1)∧w.cell? ⟨g,q*2+1,none⟩=some (.int .i64 t.2):=by
 have hq:=(List.getElem?_eq_some_iff.1 ht).1
 rcases h.2 with ⟨_,e2⟩ | ⟨g,cap,cur,e1,_⟩
 ·omega
 ·injection e1 with e1 e2 e3;subst e1 e2 e3;have:=TRow.cells h q t ht;exact ⟨g,rfl,block_lt_of_cell this.1,this.1,this.2⟩
theorem ygL {w:World} {x:aU} {p:Prb} {k m vc:Nat} {va:Option Addr} {V:List Vst} (h:PrbV w x p) (hl:aY p=true) (hk:k<p.vs.length) (hV:VsV w (.slice va m vc) V) (hm:V.length=m) (hm3:m≤100):Calls Try.prog 100 #[.agg (cB p x k (.slice va m vc))] w fun e w'=>e=.returned (.bool (dH p (p.vs.getD k vz) V))∧Below w.heap.size w w':=by
 have HL:=hide hl;have HVW:=hide (ydV h hk);clear hl;obtain ⟨ca,cc,ba,bc,hcar⟩:=h.car hk;have HCAR:=hide hcar;clear hcar;have HB0:Hid (∀ A,Below w.heap.size w (w.alloc A)):=fun A=>(Below.refl _ _).alloc (Nat.le_refl _) A;have HP:=hide h;have HV:=hide hV;have HM:=hide hm;have hmb:m*16≤140737488351232:=by obtain ⟨_,_,e,hb,_⟩:=hV;rw [← hm];exact hb
 clear hV hm;obtain ⟨ta,tc,da,dc,va',vc',ja,jc,sa,sc,rfl⟩:=h.open;clear h;have HTE:Hid (cB p ⟨.slice ta p.time.cells.length tc,.slice da p.dist.cells.length dc,.slice va' p.vs.length vc',.slice ja p.js.length jc,.slice sa p.ss.length sc⟩ k (.slice va m vc)=#[.int .i64 p.dims,.int .i64 p.time.n,.slice ta p.time.cells.length tc,.int .i64 p.dist.n,.slice da p.dist.cells.length dc,.slice va' p.vs.length vc',.slice ja p.js.length jc,.slice sa p.ss.length sc,.int .i64 k,.slice va m vc]):=rfl;rw [HTE.out];obtain ⟨W,hW⟩:∃ W,W=w.alloc (.cells #[.int .i64 p.dims,.int .i64 p.time.n,.slice ta p.time.cells.length tc,.int .i64 p.dist.n,.slice da p.dist.cells.length dc,.slice va' p.vs.length vc',.slice ja p.js.length jc,.slice sa p.ss.length sc,.int .i64 k,.slice va m vc] 121):=⟨_,rfl⟩;have HBW:Hid (Below w.heap.size w W):=by rw [hW];exact HB0.out _
 have HLW:Hid (w.heap.size<W.heap.size):=by show _<_;rw [hW];simp
 have HC:Hid (∀ j,W.cell? ⟨w.heap.size,j,none⟩=(#[.int .i64 p.dims,.int .i64 p.time.n,.slice ta p.time.cells.length tc,.int .i64 p.dist.n,.slice da p.dist.cells.length dc,.slice va' p.vs.length vc',.slice ja p.js.length jc,.slice sa p.ss.length sc,.int .i64 k,.slice va m vc]:Array Value)[j]?):=fun j=>by rw [hW];exact cell_of_row _ _ _ _ _ _ (heap_alloc_new w _)
 have H123:Hid (∀ W2,Below w.heap.size w W2→Calls Try.prog 123 #[.agg #[.int .i64 p.dims,.int .i64 p.time.n,.slice ta p.time.cells.length tc,.int .i64 p.dist.n,.slice da p.dist.cells.length dc,.slice va' p.vs.length vc',.slice ja p.js.length jc,.slice sa p.ss.length sc,.int .i64 k,.slice va m vc]] W2 fun e w'=>∃ v,e=.returned v∧TRow w' W2.heap.size v (bJ V)∧Below W2.heap.size W2 w'):=fun W2 hf=>by have h9:=qC (k:=k) (va:=va) (m:=m) (vc:=vc) (HP.out.on hf) (PrV.on HV.out hf) HM.out hm3;exact h9
 have H74:Hid (∀ W2,Below w.heap.size w W2→Calls Try.prog 74 #[.agg #[.int .i64 p.dims,.int .i64 p.time.n,.slice ta p.time.cells.length tc,.int .i64 p.dist.n,.slice da p.dist.cells.length dc,.slice va' p.vs.length vc',.slice ja p.js.length jc,.slice sa p.ss.length sc,.int .i64 k,.slice va m vc]] W2 fun e w'=>e=.returned (.agg (eZ (p.vs.getD k vz) (.slice ca (p.vs.getD k vz).cap.length cc) (.slice ba (p.vs.getD k vz).brks.length bc)))∧Below W2.heap.size W2 w'):=fun W2 hf=>by have h9:=jW (va:=va) (m:=m) (vc:=vc) (HP.out.on hf) (HCAR.out.on hf);exact h9
 obtain ⟨v1,hv1⟩:∃ v1,p.vs.getD k vz=v1:=⟨_,rfl⟩;have HV1:=hide hv1;rw [hv1] at H74;clear hv1;rw [HV1.out] at HVW;rw [HV1.out];have H29:Hid (∀ W2 (s:Bool) (i:Int),Below w.heap.size w W2→Calls Try.prog 29 #[.agg #[.int .i64 p.dims,.int .i64 p.time.n,.slice ta p.time.cells.length tc,.int .i64 p.dist.n,.slice da p.dist.cells.length dc,.slice va' p.vs.length vc',.slice ja p.js.length jc,.slice sa p.ss.length sc],.agg #[.bool s,.int .i64 i]] W2 fun e w'=>e=.returned (.int .u64 (gJ p (s,i)))∧Below W2.heap.size W2 w'):=fun W2 s i hf=>by have h9:=uN (HP.out.on hf) s i;exact h9
 unfold dH;obtain ⟨T,hT⟩:∃ T,bJ V=T:=⟨_,rfl⟩;obtain ⟨n,hn⟩:∃ n,T.length=n:=⟨_,rfl⟩;have hnb:n≤100:=by have h1:=n9 V;have h2:=HM.out;rw [hT] at h1;omega
 have HN:=hide hn;rw [hT] at H123 ⊢;clear hT hn;have hfd3:∀ X,(Instr.field 86 (.agg (eZ v1 (.slice ca v1.cap.length cc) (.slice ba v1.brks.length bc))) 3).run Try.prog X=.ok (.int .u64 v1.skills) X:=fun X=>by kernel_rfl
 go_enter Try.func100,Try.ntmps100;go_wp2_with fail;rw [← hW];clear hW;obtain ⟨b0,b1,b2,b3,b4,b5,b6,b7,b8,b9⟩:=Mn.c10 (fun j=>((aA (Below.refl _ _)).1 _ j HLW.out).trans (HC.out j));go_wp2_with (first | (go_at_call 123;refine (H123.out _ HBW.out).mono ?_;rintro e w1 ⟨sv,rfl,Q1,k1⟩;obtain ⟨sA,sC,rfl⟩:=TRow.shape Q1;rw [HN.out] at Q1 ⊢;have HTR:=hide Q1;have E1:=hide k1;clear k1 Q1) | fail);clear b0 b1 b2 b3 b4 b5 b6 b7 b8 b9
 go_loopw [8] (fun vi wr=>∃ q:Nat,vi=.int .i64 q∧q≤n∧Hid (T.all (fun t=>eY v1.skills (gJ p t))=(T.drop q).all (fun t=>eY v1.skills (gJ p t)))∧Hid (Below w1.heap.size w1 wr)) (fun vi _=>n-(intOf vi).toNat)
 case atStart=>exact ⟨0,rfl,Nat.zero_le _,by rw [List.drop_zero];rfl,Below.refl _ _⟩
 case round =>
  obtain ⟨q,rfl,hq,HI,HB⟩:=hrel;have EB:Hid (Below W.heap.size W wr):=below_on E1.out HB.out;have EW:Hid (Below w.heap.size w wr):=below_on HBW.out EB.out
  by_cases hqm:q<n
  ·have i1:(q:Int)<(n:Int):=by omega
   have i2:(0:Int)≤(q:Int):=by omega
   have i3:¬ (n:Int)≤(q:Int):=by omega
   obtain ⟨⟨ts,ti⟩,hu⟩:∃ u,T[q]? = some u:=⟨_,List.getElem?_eq_getElem (by rw [HN.out];exact hqm)⟩;have hst:=jJ (fun t=>eY v1.skills (gJ p t)) (false,0) T q (by rw [HN.out];exact hqm);rw [show T.getD q (false,0)=(ts,ti) by rw [List.getD_eq_getElem?_getD,hu];rfl] at hst;have HI2:=hide (HI.out.trans hst);obtain ⟨g,rfl,hgl,c1,c2⟩:=yR HTR.out hu HN.out;have d1:wr.cell? ⟨g,q*2,none⟩=some (.bool ts):=((aA HB.out).1 _ _ hgl).trans c1;have d2:wr.cell? ⟨g,q*2+1,none⟩=some (.int .i64 ti):=((aA HB.out).1 _ _ hgl).trans c2;obtain ⟨sk,hsk⟩:∃ z,gJ p (ts,ti)=z:=⟨_,rfl⟩;obtain ⟨cv,hcv⟩:∃ z,eY v1.skills sk=z:=⟨_,rfl⟩;have HSK:=hide hsk;have HCV:=hide hcv;have HSW:Hid (Wd sk):=by rw [← hsk];exact yd7 HP.out _
   rw [hsk,hcv] at HI2;clear c1 c2 hu hst hsk hcv hgl;obtain ⟨r0,r1,r2,r3,r4,r5,r6,r7,r8,r9⟩:=Mn.c10 (fun j=>((aA EB.out).1 _ j HLW.out).trans (HC.out j));have lw0:w.heap.size<wr.heap.size:=Nat.lt_of_lt_of_le HLW.out EB.out.size;have nw0:¬ w.heap.size=wr.heap.size:=by omega
   go_wp2_with fail;obtain ⟨X,hX⟩:∃ X,X=wr.alloc (.cells #[.bool ts,.int .i64 ti] 31):=⟨_,rfl⟩;rw [← hX];have HX:Hid (Below wr.heap.size wr X):=by rw [hX];exact Mn.a
   have lXr:wr.heap.size<X.heap.size:=by rw [hX];simp
   have lX0:w.heap.size<X.heap.size:=by omega
   have xv0:X.cell? ⟨wr.heap.size,0,none⟩=some (.bool ts):=by rw [hX];exact cell_of_row _ _ _ _ _ _ (heap_alloc_new wr _)
   have xv1:X.cell? ⟨wr.heap.size,1,none⟩=some (.int .i64 ti):=by rw [hX];exact cell_of_row _ _ _ _ _ _ (heap_alloc_new wr _)
   have xa0:X.cell? ⟨w.heap.size,0,none⟩=some (.int .i64 p.dims):=((aA HX.out).1 _ 0 lw0).trans r0;have xa1:X.cell? ⟨w.heap.size,1,none⟩=some (.int .i64 p.time.n):=((aA HX.out).1 _ 1 lw0).trans r1;have xa2:X.cell? ⟨w.heap.size,2,none⟩=some (.slice ta p.time.cells.length tc):=((aA HX.out).1 _ 2 lw0).trans r2;have xa3:X.cell? ⟨w.heap.size,3,none⟩=some (.int .i64 p.dist.n):=((aA HX.out).1 _ 3 lw0).trans r3;have xa4:X.cell? ⟨w.heap.size,4,none⟩=some (.slice da p.dist.cells.length dc):=((aA HX.out).1 _ 4 lw0).trans r4;have xa5:X.cell? ⟨w.heap.size,5,none⟩=some (.slice va' p.vs.length vc'):=((aA HX.out).1 _ 5 lw0).trans r5;have xa6:X.cell? ⟨w.heap.size,6,none⟩=some (.slice ja p.js.length jc):=((aA HX.out).1 _ 6 lw0).trans r6;have xa7:X.cell? ⟨w.heap.size,7,none⟩=some (.slice sa p.ss.length sc):=((aA HX.out).1 _ 7 lw0).trans r7;have xa8:X.cell? ⟨w.heap.size,8,none⟩=some (.int .i64 k):=((aA HX.out).1 _ 8 lw0).trans r8;have xa9:X.cell? ⟨w.heap.size,9,none⟩=some (.slice va m vc):=((aA HX.out).1 _ 9 lw0).trans r9;clear hX d1 d2 r0 r1 r2 r3 r4 r5 r6 r7 r8 r9
   first | (go_region_held3 (fun w'=>w'.cell? ⟨w.heap.size,0,none⟩=some (.int .i64 p.dims)∧w'.cell? ⟨w.heap.size,1,none⟩=some (.int .i64 p.time.n)∧w'.cell? ⟨w.heap.size,2,none⟩=some (.slice ta p.time.cells.length tc)∧w'.cell? ⟨w.heap.size,3,none⟩=some (.int .i64 p.dist.n)∧w'.cell? ⟨w.heap.size,4,none⟩=some (.slice da p.dist.cells.length dc)∧w'.cell? ⟨w.heap.size,5,none⟩=some (.slice va' p.vs.length vc')∧w'.cell? ⟨w.heap.size,6,none⟩=some (.slice ja p.js.length jc)∧w'.cell? ⟨w.heap.size,7,none⟩=some (.slice sa p.ss.length sc)∧w'.cell? ⟨w.heap.size,8,none⟩=some (.int .i64 k)∧w'.cell? ⟨w.heap.size,9,none⟩=some (.slice va m vc)∧w'.cell? ⟨wr.heap.size,0,none⟩=some (.bool ts)∧w'.cell? ⟨wr.heap.size,1,none⟩=some (.int .i64 ti)) (go_keep) (first | (go_at_call 74;refine (H74.out _ (below_on EW.out (below_on HX.out (Below.refl _ _).drew))).mono ?_;rintro e w2 ⟨rfl,k2⟩;have E2:=hide (below_on ((Below.refl _ _).drew) k2);have sa0:w2.cell? ⟨w.heap.size,0,none⟩=some (.int .i64 p.dims):=((aA E2.out).1 _ 0 lX0).trans xa0;have sa1:w2.cell? ⟨w.heap.size,1,none⟩=some (.int .i64 p.time.n):=((aA E2.out).1 _ 1 lX0).trans xa1;have sa2:w2.cell? ⟨w.heap.size,2,none⟩=some (.slice ta p.time.cells.length tc):=((aA E2.out).1 _ 2 lX0).trans xa2;have sa3:w2.cell? ⟨w.heap.size,3,none⟩=some (.int .i64 p.dist.n):=((aA E2.out).1 _ 3 lX0).trans xa3;have sa4:w2.cell? ⟨w.heap.size,4,none⟩=some (.slice da p.dist.cells.length dc):=((aA E2.out).1 _ 4 lX0).trans xa4;have sa5:w2.cell? ⟨w.heap.size,5,none⟩=some (.slice va' p.vs.length vc'):=((aA E2.out).1 _ 5 lX0).trans xa5;have sa6:w2.cell? ⟨w.heap.size,6,none⟩=some (.slice ja p.js.length jc):=((aA E2.out).1 _ 6 lX0).trans xa6;have sa7:w2.cell? ⟨w.heap.size,7,none⟩=some (.slice sa p.ss.length sc):=((aA E2.out).1 _ 7 lX0).trans xa7;have sa8:w2.cell? ⟨w.heap.size,8,none⟩=some (.int .i64 k):=((aA E2.out).1 _ 8 lX0).trans xa8;have sa9:w2.cell? ⟨w.heap.size,9,none⟩=some (.slice va m vc):=((aA E2.out).1 _ 9 lX0).trans xa9;have sv0:w2.cell? ⟨wr.heap.size,0,none⟩=some (.bool ts):=((aA E2.out).1 _ 0 lXr).trans xv0;have sv1:w2.cell? ⟨wr.heap.size,1,none⟩=some (.int .i64 ti):=((aA E2.out).1 _ 1 lXr).trans xv1;clear k2) | (go_at_call 29;refine (H29.out _ _ _ (below_on EW.out (below_on HX.out E2.out))).mono ?_;rintro e w3 ⟨rfl,k3⟩;rw [HSK.out];have E3:=hide (below_on E2.out k3);have ta0:w3.cell? ⟨w.heap.size,0,none⟩=some (.int .i64 p.dims):=((aA E3.out).1 _ 0 lX0).trans xa0;have ta1:w3.cell? ⟨w.heap.size,1,none⟩=some (.int .i64 p.time.n):=((aA E3.out).1 _ 1 lX0).trans xa1;have ta2:w3.cell? ⟨w.heap.size,2,none⟩=some (.slice ta p.time.cells.length tc):=((aA E3.out).1 _ 2 lX0).trans xa2;have ta3:w3.cell? ⟨w.heap.size,3,none⟩=some (.int .i64 p.dist.n):=((aA E3.out).1 _ 3 lX0).trans xa3;have ta4:w3.cell? ⟨w.heap.size,4,none⟩=some (.slice da p.dist.cells.length dc):=((aA E3.out).1 _ 4 lX0).trans xa4;have ta5:w3.cell? ⟨w.heap.size,5,none⟩=some (.slice va' p.vs.length vc'):=((aA E3.out).1 _ 5 lX0).trans xa5;have ta6:w3.cell? ⟨w.heap.size,6,none⟩=some (.slice ja p.js.length jc):=((aA E3.out).1 _ 6 lX0).trans xa6;have ta7:w3.cell? ⟨w.heap.size,7,none⟩=some (.slice sa p.ss.length sc):=((aA E3.out).1 _ 7 lX0).trans xa7;have ta8:w3.cell? ⟨w.heap.size,8,none⟩=some (.int .i64 k):=((aA E3.out).1 _ 8 lX0).trans xa8;have ta9:w3.cell? ⟨w.heap.size,9,none⟩=some (.slice va m vc):=((aA E3.out).1 _ 9 lX0).trans xa9;have tv0:w3.cell? ⟨wr.heap.size,0,none⟩=some (.bool ts):=((aA E3.out).1 _ 0 lXr).trans xv0;have tv1:w3.cell? ⟨wr.heap.size,1,none⟩=some (.int .i64 ti):=((aA E3.out).1 _ 1 lXr).trans xv1;clear k3) | (go_at_call 124;refine (zZ HVW.out HSW.out _).mono ?_;rintro e w4 ⟨rfl,e4⟩;rw [e4,HCV.out];clear e4) | fail)) | fail
   rename_i hHeld;clear hHeld;have E5:Hid (Below wr.heap.size wr w3):=below_on HX.out E3.out;clear xv0 xv1 xa0 xa1 xa2 xa3 xa4 xa5 xa6 xa7 xa8 xa9
   cases cv with
   | false =>
    have HF:=hide (HI2.out.trans (Bool.false_and _));go_wp2_with fail;go_ret;exact ⟨by simp [HF.out],below_on EW.out E5.out⟩
   | true =>
    have HF:=hide (HI2.out.trans (Bool.true_and _));go_wp2_with fail;go_roundw
    case rel=>exact ⟨q+1,by go_num,by omega,HF.out,below_on HB.out E5.out⟩
    case measure=>simp [intOf];omega
  ·have i1:¬ (q:Int)<(n:Int):=by omega
   have HF:=hide (HI.out.trans (mA _ T q (by rw [HN.out];exact hqm)));go_wp2;go_ret;exact ⟨by simp [HF.out],EW.out⟩
end Go.Proofs.Ytgjpkpmikbpcnaa
