import Derived.Test.YtgjpkpmikbpcnaaOTrAG
set_option maxRecDepth 100000
set_option maxHeartbeats 6400000
namespace Go.Proofs.Ytgjpkpmikbpcnaa
open Go.RowKit
theorem xO {p:Prb} {dd:Nat} (h:aY p=true) (hd:p.dims=dd):∀ (V:List Vst) (xs:List Int) (M:Int),xs.length=dd→Smal M xs→∀ ys ∈ goM p xs V,ys.length=dd
 | [],_,_,_,_,_,hy=>by simp [goM] at hy
 | v::V,xs,M,hx,hs,ys,hy=>by
  have hb:=mN (k:=v.1) (i:=v.2) h hd hx hs;simp only [goM,List.mem_cons] at hy
  rcases hy with rfl | hy
  ·exact hb.1
  ·exact xO h hd V _ _ hb.1 hb.2 ys hy
theorem sY {p:Prb} (h:aY p=true) (V:List Vst):∀ xs ∈ bZ p p.dims.toNat V,xs.length=p.dims.toNat:=by
 have hd:p.dims=(p.dims.toNat:Int):=by have:=(bF h).dim;omega
 obtain ⟨h1,h2⟩:=g8 h hd V;intro xs hx;unfold bZ at hx
 rcases List.mem_cons.1 hx with rfl | hx
 ·exact h1
 ·exact xO h hd V _ _ h1 h2 xs hx
theorem iJ {w:World} {base n c q:Nat} {a:Option Addr} {LL:List (List Int)} {ys:List Value} {xs:List Int} (h:LdS w base (.slice a n c) LL ys) (hx:LL[q]? = some xs):∃ g y,a=some ⟨g,0,none⟩∧g<w.heap.size∧ys[q]? = some y∧w.cell? ⟨g,q,none⟩=some y∧IRow w base y xs:=by
 obtain ⟨y,g,cap,hy,e,_,hg⟩:=RowS.some h hx;injection e with e1 e2 e3;subst e1 e2 e3;have:=RowS.cells (z:=1) (enc:=encL) (fun _ _=>rfl) h hx hy 0 (by decide);rw [Nat.mul_one,Nat.add_zero] at this;exact ⟨g,y,rfl,hg,hy,this,(h.sat q xs y hx hy).1⟩
theorem ycL {w:World} {x:aU} {p:Prb} {k m vc:Nat} {va:Option Addr} {V:List Vst} (h:PrbV w x p) (hl:aY p=true) (hk:k<p.vs.length) (hV:VsV w (.slice va m vc) V) (hm:V.length=m) (hm2:m≤110):Calls Try.prog 102 #[.agg (cB p x k (.slice va m vc))] w fun e w'=>e=.returned (.bool (cA p p.dims.toNat (p.vs.getD k vz) V))∧Below w.heap.size w w':=by
 have HL:=hide hl;have hcap:=(fL (eC hl hk)).cap;have hdim:=(bF hl).dim;have HD:Hid (∀ xs ∈ bZ p p.dims.toNat V,xs.length=p.dims.toNat):=sY hl V;clear hl;obtain ⟨ca,cc,ba,bc,hcar⟩:=h.car hk;have HCAR:=hide hcar;clear hcar;have HB0:Hid (∀ A,Below w.heap.size w (w.alloc A)):=fun A=>(Below.refl _ _).alloc (Nat.le_refl _) A;have HP:=hide h;have HV:=hide hV;have HM:=hide hm;have hmb:m*16≤140737488351232:=by obtain ⟨_,_,e,hb,_⟩:=hV;rw [← hm];exact hb
 clear hV hm;obtain ⟨ta,tc,da,dc,va',vc',ja,jc,sa,sc,rfl⟩:=h.open;clear h;have HTE:Hid (cB p ⟨.slice ta p.time.cells.length tc,.slice da p.dist.cells.length dc,.slice va' p.vs.length vc',.slice ja p.js.length jc,.slice sa p.ss.length sc⟩ k (.slice va m vc)=#[.int .i64 p.dims,.int .i64 p.time.n,.slice ta p.time.cells.length tc,.int .i64 p.dist.n,.slice da p.dist.cells.length dc,.slice va' p.vs.length vc',.slice ja p.js.length jc,.slice sa p.ss.length sc,.int .i64 k,.slice va m vc]):=rfl;rw [HTE.out];obtain ⟨W,hW⟩:∃ W,W=w.alloc (.cells #[.int .i64 p.dims,.int .i64 p.time.n,.slice ta p.time.cells.length tc,.int .i64 p.dist.n,.slice da p.dist.cells.length dc,.slice va' p.vs.length vc',.slice ja p.js.length jc,.slice sa p.ss.length sc,.int .i64 k,.slice va m vc] 121):=⟨_,rfl⟩;have HBW:Hid (Below w.heap.size w W):=by rw [hW];exact HB0.out _
 have HLW:Hid (w.heap.size<W.heap.size):=by show _<_;rw [hW];simp
 have HC:Hid (∀ j,W.cell? ⟨w.heap.size,j,none⟩=(#[.int .i64 p.dims,.int .i64 p.time.n,.slice ta p.time.cells.length tc,.int .i64 p.dist.n,.slice da p.dist.cells.length dc,.slice va' p.vs.length vc',.slice ja p.js.length jc,.slice sa p.ss.length sc,.int .i64 k,.slice va m vc]:Array Value)[j]?):=fun j=>by rw [hW];exact cell_of_row _ _ _ _ _ _ (heap_alloc_new w _)
 have H42:Hid (∀ W2,Below w.heap.size w W2→Calls Try.prog 42 #[.agg #[.int .i64 p.dims,.int .i64 p.time.n,.slice ta p.time.cells.length tc,.int .i64 p.dist.n,.slice da p.dist.cells.length dc,.slice va' p.vs.length vc',.slice ja p.js.length jc,.slice sa p.ss.length sc],.slice va m vc] W2 fun e w'=>∃ v ys,e=.returned v∧LdS w' W2.heap.size v (bZ p p.dims.toNat V) ys∧Sep ys∧Below W2.heap.size W2 w'):=fun W2 hf=>by have h9:=sZ (va:=va) (m:=m) (vc:=vc) (HP.out.on hf) HL.out (PrV.on HV.out hf) HM.out hm2;exact h9
 have hcl:=HCAR.out.cap;have H74:Hid (∀ W2,Below w.heap.size w W2→Calls Try.prog 74 #[.agg #[.int .i64 p.dims,.int .i64 p.time.n,.slice ta p.time.cells.length tc,.int .i64 p.dist.n,.slice da p.dist.cells.length dc,.slice va' p.vs.length vc',.slice ja p.js.length jc,.slice sa p.ss.length sc,.int .i64 k,.slice va m vc]] W2 fun e w'=>e=.returned (.agg (eZ (p.vs.getD k vz) (.slice ca (p.vs.getD k vz).cap.length cc) (.slice ba (p.vs.getD k vz).brks.length bc)))∧Below W2.heap.size W2 w'):=fun W2 hf=>by have h9:=jW (va:=va) (m:=m) (vc:=vc) (HP.out.on hf) (HCAR.out.on hf);exact h9
 obtain ⟨v1,hv1⟩:∃ v1,p.vs.getD k vz=v1:=⟨_,rfl⟩;have HV1:=hide hv1;rw [hv1] at H74;clear hv1;rw [HV1.out] at hcl hcap ⊢;unfold cA;obtain ⟨LL,hLL⟩:∃ LL,bZ p p.dims.toNat V=LL:=⟨_,rfl⟩;obtain ⟨n,hn⟩:∃ n,LL.length=n:=⟨_,rfl⟩;have hnb:n≤111:=by rw [← hn,← hLL,eG,HM.out];omega
 have HN:=hide hn;rw [hLL] at H42 HD ⊢;clear hLL hn;have HCL:=hide hcl;obtain ⟨lc,hlc⟩:∃ q,v1.cap.length=q:=⟨_,rfl⟩;have hlb:lc≤3:=by have:=(iZ hcap).1;omega
 have HLC:=hide hlc;rw [hlc] at H74 HCL
 have H125:Hid (∀ W2 {xs:List Int} {ua:Option Addr} {un uc:Nat},Below w.heap.size w W2→IntsAt W2 ua xs→xs.length=un→un≤3→Calls Try.prog 125 #[.slice ua un uc,.slice ca lc cc] W2 fun e w'=>e=.returned (.bool (Ld.underB xs v1.cap))∧Below W2.heap.size W2 w'):=fun W2 _ _ _ uc9 hf ha hn h3=>by
  have hcc:IntsAt W2 ca v1.cap:=by
   obtain ⟨a',c',e',_,_,hA⟩:=HCL.out;injection e' with e1 _ _;subst e1;exact hA.later hf
  have h9:=Ld.under_any (ca:=uc9) (cb:=cc) ha hcc hn HLC.out (by omega) (by omega);exact h9
 have hfd2:∀ X,(Instr.field 86 (.agg (eZ v1 (.slice ca lc cc) (.slice ba v1.brks.length bc))) 2).run Try.prog X=.ok (.slice ca lc cc) X:=fun X=>by kernel_rfl
 clear hcl hcap hlc;go_enter Try.func102,Try.ntmps102;go_wp2_with fail;rw [← hW];clear hW;obtain ⟨b0,b1,b2,b3,b4,b5,b6,b7,b8,b9⟩:=Mn.c10 (fun j=>((aA (Below.refl _ _)).1 _ j HLW.out).trans (HC.out j));go_wp2_with (first | (go_at_call 42;refine (H42.out _ HBW.out).mono ?_;rintro e w1 ⟨lv,ys,rfl,Q1,_,k1⟩;obtain ⟨sA,sC,rfl⟩:=RowS.shape Q1;rw [HN.out] at Q1 ⊢;have HLR:=hide Q1;have E1:=hide k1;clear k1 Q1) | fail);clear b0 b1 b2 b3 b4 b5 b6 b7 b8 b9
 go_loopw [11] (fun vi wr=>∃ q:Nat,vi=.int .i64 q∧q≤n∧Hid (LL.all (fun xs=>Ld.underB xs v1.cap)=(LL.drop q).all (fun xs=>Ld.underB xs v1.cap))∧Hid (Below w1.heap.size w1 wr)) (fun vi _=>n-(intOf vi).toNat)
 case atStart=>exact ⟨0,rfl,Nat.zero_le _,by rw [List.drop_zero];rfl,Below.refl _ _⟩
 case round =>
  obtain ⟨q,rfl,hq,HI,HB⟩:=hrel;have EB:Hid (Below W.heap.size W wr):=below_on E1.out HB.out;have EW:Hid (Below w.heap.size w wr):=below_on HBW.out EB.out
  by_cases hqm:q<n
  ·have i1:(q:Int)<(n:Int):=by omega
   have i2:(0:Int)≤(q:Int):=by omega
   have i3:¬ (n:Int)≤(q:Int):=by omega
   obtain ⟨xs,hu⟩:∃ u,LL[q]? = some u:=⟨_,List.getElem?_eq_getElem (by rw [HN.out];exact hqm)⟩;have hst:=jJ (fun xs=>Ld.underB xs v1.cap) [] LL q (by rw [HN.out];exact hqm);rw [show LL.getD q []=xs by rw [List.getD_eq_getElem?_getD,hu];rfl] at hst;have HI2:=hide (HI.out.trans hst);obtain ⟨g,y,rfl,hgl,_,c1,hr⟩:=iJ HLR.out hu;obtain ⟨ya,yc,rfl⟩:=IRow.shape hr;obtain ⟨xn,hxn⟩:∃ z,xs.length=z:=⟨_,rfl⟩;have hx3:xn≤3:=by rw [← hxn,HD.out xs (List.mem_of_getElem? hu)];omega
   have HXN:=hide hxn;rw [hxn] at c1 hr;have HXA:=hide ((IRow.ints hr).later HB.out);have d1:wr.cell? ⟨g,q,none⟩=some (.slice ya xn yc):=((aA HB.out).1 _ _ hgl).trans c1;obtain ⟨cv,hcv⟩:∃ z,Ld.underB xs v1.cap=z:=⟨_,rfl⟩;have HCV:=hide hcv;rw [hcv] at HI2;clear c1 hu hst hcv hgl hr hxn;obtain ⟨r0,r1,r2,r3,r4,r5,r6,r7,r8,r9⟩:=Mn.c10 (fun j=>((aA EB.out).1 _ j HLW.out).trans (HC.out j))
   cases cv with
   | false =>
    have HF:=hide (HI2.out.trans (Bool.false_and _));go_wp2_with (first | (go_at_call 74;refine (H74.out _ EW.out).mono ?_;rintro e w2 ⟨rfl,k2⟩;have F2:=hide k2;have E2:=hide (below_on EW.out k2);clear k2) | (go_at_call 125;refine (H125.out _ E2.out (HXA.out.later F2.out) HXN.out hx3).mono ?_;rintro e w4 ⟨rfl,k4⟩;rw [HCV.out];have F4:=hide (below_on F2.out k4);have E4:=hide (below_on E2.out k4);clear k4) | fail);go_ret;exact ⟨by simp [HF.out],E4.out⟩
   | true =>
    have HF:=hide (HI2.out.trans (Bool.true_and _));go_wp2_with (first | (go_at_call 74;refine (H74.out _ EW.out).mono ?_;rintro e w2 ⟨rfl,k2⟩;have F2:=hide k2;have E2:=hide (below_on EW.out k2);clear k2) | (go_at_call 125;refine (H125.out _ E2.out (HXA.out.later F2.out) HXN.out hx3).mono ?_;rintro e w4 ⟨rfl,k4⟩;rw [HCV.out];have F4:=hide (below_on F2.out k4);have E4:=hide (below_on E2.out k4);clear k4) | fail);go_roundw
    case rel=>exact ⟨q+1,by go_num,by omega,HF.out,below_on HB.out F4.out⟩
    case measure=>simp [intOf];omega
  ·have i1:¬ (q:Int)<(n:Int):=by omega
   have HF:=hide (HI.out.trans (mA _ LL q (by rw [HN.out];exact hqm)));go_wp2;go_ret;exact ⟨by simp [HF.out],EW.out⟩
end Go.Proofs.Ytgjpkpmikbpcnaa
namespace Go.Proofs.Ytgjpkpmikbpcnaa
open Go.RowKit
theorem zN {w:World} {x:aU} {p:Prb} {k m vc:Nat} {va:Option Addr} {V:List Vst} (h:PrbV w x p) (hl:aY p=true) (hk:k<p.vs.length) (hV:VsV w (.slice va m vc) V) (hm:V.length=m) (hm2:m≤110) (hbr:∀ u ∈ V,u.1=4→∃ j:Nat,u.2=j∧j<(p.vs.getD k vz).brks.length):Calls Try.prog 103 #[.agg (cB p x k (.slice va m vc))] w fun e w'=>e=.returned (.bool (bN p (aB p (p.vs.getD k vz) V)))∧Below w.heap.size w w':=by
 have HL:=hide hl;have HW:=hide (bF hl);have HBR:=hide hbr;clear hl hbr;have HB0:Hid (∀ A,Below w.heap.size w (w.alloc A)):=fun A=>(Below.refl _ _).alloc (Nat.le_refl _) A;have HP:=hide h;have HV:=hide hV;have HM:=hide hm;have hmb:m*16≤140737488351232:=by obtain ⟨_,_,e,hb,_⟩:=hV;rw [← hm];exact hb
 clear hV hm;obtain ⟨ta,tc,da,dc,va',vc',ja,jc,sa,sc,rfl⟩:=h.open;clear h;have HTE:Hid (cB p ⟨.slice ta p.time.cells.length tc,.slice da p.dist.cells.length dc,.slice va' p.vs.length vc',.slice ja p.js.length jc,.slice sa p.ss.length sc⟩ k (.slice va m vc)=#[.int .i64 p.dims,.int .i64 p.time.n,.slice ta p.time.cells.length tc,.int .i64 p.dist.n,.slice da p.dist.cells.length dc,.slice va' p.vs.length vc',.slice ja p.js.length jc,.slice sa p.ss.length sc,.int .i64 k,.slice va m vc]):=rfl;rw [HTE.out];obtain ⟨W,hW⟩:∃ W,W=w.alloc (.cells #[.int .i64 p.dims,.int .i64 p.time.n,.slice ta p.time.cells.length tc,.int .i64 p.dist.n,.slice da p.dist.cells.length dc,.slice va' p.vs.length vc',.slice ja p.js.length jc,.slice sa p.ss.length sc,.int .i64 k,.slice va m vc] 121):=⟨_,rfl⟩;have HBW:Hid (Below w.heap.size w W):=by rw [hW];exact HB0.out _
 have HLW:Hid (w.heap.size<W.heap.size):=by show _<_;rw [hW];simp
 have HC:Hid (∀ j,W.cell? ⟨w.heap.size,j,none⟩=(#[.int .i64 p.dims,.int .i64 p.time.n,.slice ta p.time.cells.length tc,.int .i64 p.dist.n,.slice da p.dist.cells.length dc,.slice va' p.vs.length vc',.slice ja p.js.length jc,.slice sa p.ss.length sc,.int .i64 k,.slice va m vc]:Array Value)[j]?):=fun j=>by rw [hW];exact cell_of_row _ _ _ _ _ _ (heap_alloc_new w _)
 have H75:Hid (∀ W2,Below w.heap.size w W2→Calls Try.prog 75 #[.agg #[.int .i64 p.dims,.int .i64 p.time.n,.slice ta p.time.cells.length tc,.int .i64 p.dist.n,.slice da p.dist.cells.length dc,.slice va' p.vs.length vc',.slice ja p.js.length jc,.slice sa p.ss.length sc,.int .i64 k,.slice va m vc]] W2 fun e w'=>∃ v,e=.returned v∧eT w' v (aB p (p.vs.getD k vz) V)∧Below W2.heap.size W2 w'):=fun W2 hf=>by have h9:=lJ (va:=va) (m:=m) (vc:=vc) (HP.out.on hf) HL.out hk (PrV.on HV.out hf) HM.out hm2 HBR.out;exact h9
 obtain ⟨S,hS⟩:∃ S,(aB p (p.vs.getD k vz) V)=S:=⟨_,rfl⟩;obtain ⟨nS,hnS⟩:∃ n,m+2=n:=⟨_,rfl⟩;have HSN:Hid (S.length=nS):=by show _=_;rw [← hS,aO,HM.out];exact hnS
 have HNS:=hide hnS;have hnb:nS≤112:=by omega
 clear hnS;rw [hS] at H75 ⊢;clear hS;go_enter Try.func103,Try.ntmps103;go_wp2_with fail;rw [← hW];clear hW;obtain ⟨b0,b1,b2,b3,b4,b5,b6,b7,b8,b9⟩:=Mn.c10 (fun j=>((aA (Below.refl _ _)).1 _ j HLW.out).trans (HC.out j));go_wp2_with (first | (go_at_call 75;refine (H75.out _ HBW.out).mono ?_;rintro e w1 ⟨sv,rfl,Q1,k1⟩;obtain ⟨sA,sC,rfl⟩:=SlV.shape Q1;rw [HSN.out] at Q1 ⊢;have HST:=hide Q1;have E1:=hide k1;clear k1 Q1) | fail);clear b0 b1 b2 b3 b4 b5 b6 b7 b8 b9;have H107t:Hid (∀ W2 (i:Nat),Below w.heap.size w W2→eT W2 (.slice sA nS sC) S→i<S.length→Calls Try.prog 107 #[.agg #[.int .i64 p.time.n,.slice ta p.time.cells.length tc],.slice sA nS sC,.int .i64 (i:Int)] W2 fun e w'=>e=.returned (.int .i64 (aE p.time S i))∧Below W2.heap.size W2 w'):=fun W2 i hf hs hi=>by have h9:=g6 (HP.out.t.on hf) HW.out.st hs hi;exact h9
 have H107d:Hid (∀ W2 (i:Nat),Below w.heap.size w W2→eT W2 (.slice sA nS sC) S→i<S.length→Calls Try.prog 107 #[.agg #[.int .i64 p.dist.n,.slice da p.dist.cells.length dc],.slice sA nS sC,.int .i64 (i:Int)] W2 fun e w'=>e=.returned (.int .i64 (aE p.dist S i))∧Below W2.heap.size W2 w'):=fun W2 i hf hs hi=>by have h9:=g6 (HP.out.d.on hf) HW.out.sd hs hi;exact h9
 go_loopw [9] (fun vi wr=>∃ q:Nat,vi=.int .i64 q∧q≤nS∧Hid (∀ i,i<q→(decide (0≤aE p.time S i) && decide (0≤aE p.dist S i))=true)∧Hid (Below w1.heap.size w1 wr)) (fun vi _=>nS-(intOf vi).toNat)
 case atStart=>exact ⟨0,rfl,Nat.zero_le _,fun i hi=>by omega,Below.refl _ _⟩
 case round =>
  obtain ⟨q,rfl,hq,HI,HB⟩:=hrel;have EB:Hid (Below W.heap.size W wr):=below_on E1.out HB.out;have EW:Hid (Below w.heap.size w wr):=below_on HBW.out EB.out
  by_cases hqm:q<nS
  ·have i1:(q:Int)<(nS:Int):=by omega
   obtain ⟨tt,htt⟩:∃ z,aE p.time S q=z:=⟨_,rfl⟩;obtain ⟨td,htd⟩:∃ z,aE p.dist S q=z:=⟨_,rfl⟩;have HTT:=hide htt;have HTD:=hide htd;have HQS:Hid (q<S.length):=by show _<_;rw [HSN.out];exact hqm
   clear htt htd;obtain ⟨-,r1,r2,r3,r4,-,-,-,-,-⟩:=Mn.c10 (fun j=>((aA EB.out).1 _ j HLW.out).trans (HC.out j))
   by_cases h1:tt<0
   ·have HF:Hid (bN p S=false):=cU (by rw [HSN.out];exact hqm) (by rw [HTT.out];simp;omega);go_wp2_with (first | (go_at_call 107;refine (H107t.out _ q EW.out (SlV.on HST.out HB.out (by decide) fun _ _=>StpV.on HB.out) HQS.out).mono ?_;rintro e w2 ⟨rfl,k2⟩;rw [HTT.out];have E2:=hide (below_on EW.out k2);clear k2) | fail);go_ret;exact ⟨by simp [HF.out],E2.out⟩
   ·have h1':0≤tt:=by omega
    by_cases h2:td<0
    ·have HF:Hid (bN p S=false):=cU (by rw [HSN.out];exact hqm) (by rw [HTT.out,HTD.out];simp;omega);go_wp2_with (first | (go_at_call 107;refine (H107d.out _ q E2.out (SlV.on HST.out F2.out (by decide) fun _ _=>StpV.on F2.out) HQS.out).mono ?_;rintro e w3 ⟨rfl,k3⟩;rw [HTD.out];have E3:=hide (below_on E2.out k3);clear k3) | (go_at_call 107;refine (H107t.out _ q EW.out (SlV.on HST.out HB.out (by decide) fun _ _=>StpV.on HB.out) HQS.out).mono ?_;rintro e w2 ⟨rfl,k2⟩;rw [HTT.out];have F2:=hide (below_on HB.out k2);have E2:=hide (below_on EW.out k2);have G2:=hide (below_on EB.out k2);have s3:w2.cell? ⟨w.heap.size,3,none⟩=some (.int .i64 p.dist.n):=((aA G2.out).1 _ 3 HLW.out).trans (HC.out 3);have s4:w2.cell? ⟨w.heap.size,4,none⟩=some (.slice da p.dist.cells.length dc):=((aA G2.out).1 _ 4 HLW.out).trans (HC.out 4);clear k2) | fail);go_ret;exact ⟨by simp [HF.out],E3.out⟩
    ·have h2':0≤td:=by omega
     go_wp2_with (first | (go_at_call 107;refine (H107d.out _ q E2.out (SlV.on HST.out F2.out (by decide) fun _ _=>StpV.on F2.out) HQS.out).mono ?_;rintro e w3 ⟨rfl,k3⟩;rw [HTD.out];have F3:=hide (below_on F2.out k3);clear k3) | (go_at_call 107;refine (H107t.out _ q EW.out (SlV.on HST.out HB.out (by decide) fun _ _=>StpV.on HB.out) HQS.out).mono ?_;rintro e w2 ⟨rfl,k2⟩;rw [HTT.out];have F2:=hide (below_on HB.out k2);have E2:=hide (below_on EW.out k2);have G2:=hide (below_on EB.out k2);have s3:w2.cell? ⟨w.heap.size,3,none⟩=some (.int .i64 p.dist.n):=((aA G2.out).1 _ 3 HLW.out).trans (HC.out 3);have s4:w2.cell? ⟨w.heap.size,4,none⟩=some (.slice da p.dist.cells.length dc):=((aA G2.out).1 _ 4 HLW.out).trans (HC.out 4);clear k2) | fail);go_roundw
     case rel=>exact ⟨q+1,by go_num,by omega,(fun i hi=>by rcases Nat.lt_succ_iff_lt_or_eq.1 hi with h9 | h9;exact HI.out i h9;rw [h9,HTT.out,HTD.out];simp;omega),F3.out⟩
     case measure=>simp [intOf];omega
  ·have i1:¬ (q:Int)<(nS:Int):=by omega
   have HF:Hid (bN p S=true):=gY fun i hi=>HI.out i (by rw [HSN.out] at hi;omega);go_wp2;go_ret;exact ⟨by simp [HF.out],EW.out⟩
end Go.Proofs.Ytgjpkpmikbpcnaa
