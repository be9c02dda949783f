import Derived.Test.YtgjpkpmikbpcnaaOTrAG
set_option maxRecDepth 100000
set_option maxHeartbeats 12800000
namespace Go.Proofs.Ytgjpkpmikbpcnaa
open Go.RowKit
theorem yQ {w:World} {x:aU} {p:Prb} {k m vc:Nat} {va:Option Addr} {V:List Vst} (h:PrbV w x p) (hl:aY p=true) (hk:k<p.vs.length) (hV:VsV w (.slice va m vc) V) (hm:V.length=m) (hm2:m≤110) (hbr:∀ u ∈ V,u.1=4→∃ j:Nat,u.2=j∧j<(p.vs.getD k vz).brks.length):Calls Try.prog 104 #[.agg (cB p x k (.slice va m vc))] w fun e w'=>e=.returned (.bool (cR p.time (aB p (p.vs.getD k vz) V) (p.vs.getD k vz).shift.1))∧Below w.heap.size w w':=by
 have HL:=hide hl;have HW:=hide (bF hl);have hvo:=fL (eC hl hk);have hsh:0≤(p.vs.getD k vz).shift.1∧(p.vs.getD k vz).shift.1≤1000000:=by have:=hvo.shift;omega
 have HSO:=hide (fP hl hvo V);have HBR:=hide hbr;clear hl hbr hvo;obtain ⟨ca,cc,ba,bc,hcar⟩:=h.car hk;have HCAR:=hide hcar;clear hcar;have HB0:Hid (∀ A,Below w.heap.size w (w.alloc A)):=fun A=>(Below.refl _ _).alloc (Nat.le_refl _) A;have HP:=hide h;have HV:=hide hV;have HM:=hide hm;have hmb:m*16≤140737488351232:=by obtain ⟨_,_,e,hb,_⟩:=hV;rw [← hm];exact hb
 clear hV hm;obtain ⟨ta,tc,da,dc,va',vc',ja,jc,sa,sc,rfl⟩:=h.open;clear h;have HTE:Hid (cB p ⟨.slice ta p.time.cells.length tc,.slice da p.dist.cells.length dc,.slice va' p.vs.length vc',.slice ja p.js.length jc,.slice sa p.ss.length sc⟩ k (.slice va m vc)=#[.int .i64 p.dims,.int .i64 p.time.n,.slice ta p.time.cells.length tc,.int .i64 p.dist.n,.slice da p.dist.cells.length dc,.slice va' p.vs.length vc',.slice ja p.js.length jc,.slice sa p.ss.length sc,.int .i64 k,.slice va m vc]):=rfl;rw [HTE.out];obtain ⟨W,hW⟩:∃ W,W=w.alloc (.cells #[.int .i64 p.dims,.int .i64 p.time.n,.slice ta p.time.cells.length tc,.int .i64 p.dist.n,.slice da p.dist.cells.length dc,.slice va' p.vs.length vc',.slice ja p.js.length jc,.slice sa p.ss.length sc,.int .i64 k,.slice va m vc] 121):=⟨_,rfl⟩;have HBW:Hid (Below w.heap.size w W):=by rw [hW];exact HB0.out _
 have HLW:Hid (w.heap.size<W.heap.size):=by show _<_;rw [hW];simp
 have HC:Hid (∀ j,W.cell? ⟨w.heap.size,j,none⟩=(#[.int .i64 p.dims,.int .i64 p.time.n,.slice ta p.time.cells.length tc,.int .i64 p.dist.n,.slice da p.dist.cells.length dc,.slice va' p.vs.length vc',.slice ja p.js.length jc,.slice sa p.ss.length sc,.int .i64 k,.slice va m vc]:Array Value)[j]?):=fun j=>by rw [hW];exact cell_of_row _ _ _ _ _ _ (heap_alloc_new w _)
 have H75:Hid (∀ W2,Below w.heap.size w W2→Calls Try.prog 75 #[.agg #[.int .i64 p.dims,.int .i64 p.time.n,.slice ta p.time.cells.length tc,.int .i64 p.dist.n,.slice da p.dist.cells.length dc,.slice va' p.vs.length vc',.slice ja p.js.length jc,.slice sa p.ss.length sc,.int .i64 k,.slice va m vc]] W2 fun e w'=>∃ v,e=.returned v∧eT w' v (aB p (p.vs.getD k vz) V)∧Below W2.heap.size W2 w'):=fun W2 hf=>by have h9:=lJ (va:=va) (m:=m) (vc:=vc) (HP.out.on hf) HL.out hk (PrV.on HV.out hf) HM.out hm2 HBR.out;exact h9
 obtain ⟨S,hS⟩:∃ S,(aB p (p.vs.getD k vz) V)=S:=⟨_,rfl⟩;obtain ⟨nS,hnS⟩:∃ n,m+2=n:=⟨_,rfl⟩;have HSN:Hid (S.length=nS):=by show _=_;rw [← hS,aO,HM.out];exact hnS
 have HNS:=hide hnS;have hnb:nS≤112:=by omega
 clear hnS;rw [hS] at H75 HSO ⊢;clear hS;have H74:Hid (∀ W2,Below w.heap.size w W2→Calls Try.prog 74 #[.agg #[.int .i64 p.dims,.int .i64 p.time.n,.slice ta p.time.cells.length tc,.int .i64 p.dist.n,.slice da p.dist.cells.length dc,.slice va' p.vs.length vc',.slice ja p.js.length jc,.slice sa p.ss.length sc,.int .i64 k,.slice va m vc]] W2 fun e w'=>e=.returned (.agg (eZ (p.vs.getD k vz) (.slice ca (p.vs.getD k vz).cap.length cc) (.slice ba (p.vs.getD k vz).brks.length bc)))∧Below W2.heap.size W2 w'):=fun W2 hf=>by have h9:=jW (va:=va) (m:=m) (vc:=vc) (HP.out.on hf) (HCAR.out.on hf);exact h9
 obtain ⟨v1,hv1⟩:∃ v1,p.vs.getD k vz=v1:=⟨_,rfl⟩;have HV1:=hide hv1;rw [hv1] at H74;clear hv1;rw [HV1.out] at hsh ⊢;obtain ⟨fr,hfr⟩:∃ q,v1.shift.1=q:=⟨_,rfl⟩;rw [hfr] at hsh ⊢;have hfd4:∀ X,(Instr.field 86 (.agg (eZ v1 (.slice ca v1.cap.length cc) (.slice ba v1.brks.length bc))) 4).run Try.prog X=.ok (.agg #[.int .i64 v1.shift.1,.int .i64 v1.shift.2]) X:=fun X=>by kernel_rfl
 rw [hfr] at hfd4;clear hfr;have hf61:∀ X,(Instr.field 61 (.agg #[.int .i64 fr,.int .i64 v1.shift.2]) 0).run Try.prog X=.ok (.int .i64 fr) X:=fun X=>by kernel_rfl
 have HSH:=hide hsh;go_enter Try.func104,Try.ntmps104;go_wp2_with fail;rw [← hW];clear hW;obtain ⟨b0,b1,b2,b3,b4,b5,b6,b7,b8,b9⟩:=Mn.c10 (fun j=>((aA (Below.refl _ _)).1 _ j HLW.out).trans (HC.out j))
 first | (go_region_held3 (fun w'=>w'.cell? ⟨w.heap.size,0,none⟩=some (.int .i64 p.dims)∧w'.cell? ⟨w.heap.size,1,none⟩=some (.int .i64 p.time.n)∧w'.cell? ⟨w.heap.size,2,none⟩=some (.slice ta p.time.cells.length tc)∧w'.cell? ⟨w.heap.size,3,none⟩=some (.int .i64 p.dist.n)∧w'.cell? ⟨w.heap.size,4,none⟩=some (.slice da p.dist.cells.length dc)∧w'.cell? ⟨w.heap.size,5,none⟩=some (.slice va' p.vs.length vc')∧w'.cell? ⟨w.heap.size,6,none⟩=some (.slice ja p.js.length jc)∧w'.cell? ⟨w.heap.size,7,none⟩=some (.slice sa p.ss.length sc)∧w'.cell? ⟨w.heap.size,8,none⟩=some (.int .i64 k)∧w'.cell? ⟨w.heap.size,9,none⟩=some (.slice va m vc)) (go_keep) (first | (go_at_call 75;refine (H75.out _ (below_on HBW.out (Below.refl _ _).drew)).mono ?_;rintro e w1 ⟨sv,rfl,Q1,k1⟩;obtain ⟨sA,sC,rfl⟩:=SlV.shape Q1;rw [HSN.out] at Q1 ⊢;have HST1:=hide Q1;have E1:=hide (below_on ((Below.refl _ _).drew) k1);obtain ⟨c0,c1,c2,c3,c4,c5,c6,c7,c8,c9⟩:=Mn.c10 (fun j=>((aA E1.out).1 _ j HLW.out).trans (HC.out j));clear k1 Q1) | (go_at_call 74;refine (H74.out _ (below_on HBW.out E1.out)).mono ?_;rintro e w2 ⟨rfl,k2⟩;have HST:=hide (SlV.on HST1.out k2 (by decide) fun _ _=>StpV.on k2);have E2:=hide (below_on E1.out k2);obtain ⟨d0,d1,d2,d3,d4,d5,d6,d7,d8,d9⟩:=Mn.c10 (fun j=>((aA E2.out).1 _ j HLW.out).trans (HC.out j));clear k2) | fail)) | fail
 rename_i hHeld;clear hHeld b0 b1 b2 b3 b4 b5 b6 b7 b8 b9 c0 c1 c2 c3 c4 c5 c6 c7 c8 c9 HST1 E1 hfd4 hf61;go_wp2_with fail;clear d0 d1 d2 d3 d4 d5 d6 d7 d8 d9;have H107t:Hid (∀ W2 (i:Nat),Below w.heap.size w W2→eT W2 (.slice sA nS sC) S→i<S.length→Calls Try.prog 107 #[.agg #[.int .i64 p.time.n,.slice ta p.time.cells.length tc],.slice sA nS sC,.int .i64 (i:Int)] W2 fun e w'=>e=.returned (.int .i64 (aE p.time S i))∧Below W2.heap.size W2 w'):=fun W2 i hf hs hi=>by have h9:=g6 (HP.out.t.on hf) HW.out.st hs hi;exact h9
 go_loopw [18,4] (fun vi v4 wr=>∃ (q:Nat) (lf:Int),vi=.int .i64 q∧v4=.int .i64 lf∧q≤nS∧Hid (lfM p.time S fr q=lf)∧Hid (∀ i,i<q→(dR p.time S fr i).2=true)∧Hid (Below w2.heap.size w2 wr)) (fun vi _ _=>nS-(intOf vi).toNat)
 case atStart=>exact ⟨0,fr,rfl,rfl,Nat.zero_le _,rfl,(fun i hi=>by omega),Below.refl _ _⟩
 case round =>
  obtain ⟨q,lf,rfl,rfl,hq,HLF,HI,HB⟩:=hrel;have EB:Hid (Below W.heap.size W wr):=below_on E2.out HB.out;have EW:Hid (Below w.heap.size w wr):=below_on HBW.out EB.out
  by_cases hqm:q<nS
  ·have i1:(q:Int)<(nS:Int):=by omega
   have i2:(0:Int)≤(q:Int):=by omega
   have i3:¬ (nS:Int)≤(q:Int):=by omega
   have HQS:Hid (q<S.length):=by show _<_;rw [HSN.out];exact hqm
   have HSTr:=hide (SlV.on HST.out HB.out (by decide) fun _ _=>StpV.on HB.out);obtain ⟨tt,htt⟩:∃ z,aE p.time S q=z:=⟨_,rfl⟩;have hlb:=tF (m:=p.time) HSO.out HSH.out q;have htb:=dD HW.out.mt S q;have hso:=HSO.out q;obtain ⟨s,hs⟩:∃ s,S.getD q sz=s:=⟨_,rfl⟩;obtain ⟨b,off,cc',y,he,hb,hcs,hy⟩:=jD HSTr.out HQS.out;injection he with he1 he2 he3;subst he1 he3;clear he2;rw [hs] at hcs hy hso;obtain ⟨pl,hpl⟩:∃ z,s.place=z:=⟨_,rfl⟩;obtain ⟨sv,hsv⟩:∃ z,s.serv=z:=⟨_,rfl⟩;obtain ⟨ya,yc,rfl⟩:=hy.shape;obtain ⟨nw,hnw⟩:∃ z,s.wins.length=z:=⟨_,rfl⟩;have c0:wr.cell? ⟨b,off+q*3,none⟩=some (.int .i64 pl):=by rw [← hpl];exact hcs 0 (by decide)
   have c1:wr.cell? ⟨b,off+q*3+1,none⟩=some (.int .i64 sv):=by rw [← hsv];exact hcs 1 (by decide)
   have c2:wr.cell? ⟨b,off+q*3+2,none⟩=some (.slice ya nw yc):=by rw [← hnw];exact hcs 2 (by decide)
   obtain ⟨bs,bo,hbg⟩:∃ bs bo,Hr.startM (lf+tt) s.wins=(bs,bo):=⟨_,_,rfl⟩;have hstk:=iF hso.1 (lf+tt);rw [hbg] at hstk;simp only at hstk;rw [HLF.out] at hlb;rw [htt] at htb;have HBG:Hid (dR p.time S fr q=(bs,bo)):=by show _=_;unfold dR eQ;rw [HLF.out,htt,hs,hbg]
   have HLS:Hid (lfM p.time S fr (q+1)=bs+sv):=by show _=_;rw [eP,HBG.out,hs,hsv]
   have HY:Hid (WinsV wr (.slice ya nw yc) s.wins):=by rw [← hnw];exact hy
   have hwr:IntKind.i64.wrap (lf+tt)=lf+tt:=by rw [IntKind.wrap_i64];omega
   have hsb:=hso.2;rw [hsv] at hsb;have H108:Hid (∀ W2,Below wr.heap.size wr W2→Calls Try.prog 108 #[.agg #[.int .i64 pl,.int .i64 sv,.slice ya nw yc],.int .i64 (lf+tt)] W2 fun e w'=>e=.returned (.tuple #[.int .i64 bs,.int .i64 (bs+sv),.bool bo])∧Below W2.heap.size W2 w'):=fun W2 hf=>by have h9:=mV pl sv (lf+tt) (HY.out.on hf) (by rw [hbg];simp only;omega) (by rw [hbg];simp only;omega);rw [hbg] at h9;exact h9
   have HTT:=hide htt;clear hbg hy hcs hpl hsv hnw hs htt hso;have r1:wr.cell? ⟨w.heap.size,1,none⟩=some (.int .i64 p.time.n):=((aA EB.out).1 _ 1 HLW.out).trans (HC.out 1);have r2:wr.cell? ⟨w.heap.size,2,none⟩=some (.slice ta p.time.cells.length tc):=((aA EB.out).1 _ 2 HLW.out).trans (HC.out 2);have lw0:w.heap.size<wr.heap.size:=Nat.lt_of_lt_of_le HLW.out EB.out.size;have nw0:¬ w.heap.size=wr.heap.size:=by omega
   go_wp2_with fail;obtain ⟨X,hX⟩:∃ X,X=wr.alloc (.cells #[.int .i64 pl,.int .i64 sv,.slice ya nw yc] 45):=⟨_,rfl⟩;rw [← hX];have HX:Hid (Below wr.heap.size wr X):=by rw [hX];exact Mn.a
   have lX0:w.heap.size<X.heap.size:=Nat.lt_of_lt_of_le lw0 HX.out.size;have lXr:wr.heap.size<X.heap.size:=by rw [hX];simp
   have x0:X.cell? ⟨wr.heap.size,0,none⟩=some (.int .i64 pl):=by rw [hX];exact cell_of_row _ _ _ _ _ _ (heap_alloc_new wr _)
   have x1:X.cell? ⟨wr.heap.size,1,none⟩=some (.int .i64 sv):=by rw [hX];exact cell_of_row _ _ _ _ _ _ (heap_alloc_new wr _)
   have x2:X.cell? ⟨wr.heap.size,2,none⟩=some (.slice ya nw yc):=by rw [hX];exact cell_of_row _ _ _ _ _ _ (heap_alloc_new wr _)
   have y1:X.cell? ⟨w.heap.size,1,none⟩=some (.int .i64 p.time.n):=((aA HX.out).1 _ 1 lw0).trans r1;have y2:X.cell? ⟨w.heap.size,2,none⟩=some (.slice ta p.time.cells.length tc):=((aA HX.out).1 _ 2 lw0).trans r2;clear hX c0 c1 c2 r1 r2
   first | (go_region_held3 (fun w'=>w'.cell? ⟨w.heap.size,1,none⟩=some (.int .i64 p.time.n)∧w'.cell? ⟨w.heap.size,2,none⟩=some (.slice ta p.time.cells.length tc)∧w'.cell? ⟨wr.heap.size,0,none⟩=some (.int .i64 pl)∧w'.cell? ⟨wr.heap.size,1,none⟩=some (.int .i64 sv)∧w'.cell? ⟨wr.heap.size,2,none⟩=some (.slice ya nw yc)) (go_keep) (first | (go_at_call 107;refine (H107t.out _ q (below_on EW.out (below_on HX.out (Below.refl _ _).drew)) (SlV.on HSTr.out (below_on HX.out (Below.refl _ _).drew) (by decide) fun _ _=>StpV.on (below_on HX.out (Below.refl _ _).drew)) HQS.out).mono ?_;rintro e w3 ⟨rfl,k3⟩;rw [HTT.out];have E3:=hide (below_on ((Below.refl _ _).drew) k3);have ty1:w3.cell? ⟨w.heap.size,1,none⟩=some (.int .i64 p.time.n):=((aA E3.out).1 _ 1 lX0).trans y1;have ty2:w3.cell? ⟨w.heap.size,2,none⟩=some (.slice ta p.time.cells.length tc):=((aA E3.out).1 _ 2 lX0).trans y2;have tx0:w3.cell? ⟨wr.heap.size,0,none⟩=some (.int .i64 pl):=((aA E3.out).1 _ 0 lXr).trans x0;have tx1:w3.cell? ⟨wr.heap.size,1,none⟩=some (.int .i64 sv):=((aA E3.out).1 _ 1 lXr).trans x1;have tx2:w3.cell? ⟨wr.heap.size,2,none⟩=some (.slice ya nw yc):=((aA E3.out).1 _ 2 lXr).trans x2;clear k3) | (go_at_call 108;refine (H108.out _ (below_on HX.out E3.out)).mono ?_;rintro e w4 ⟨rfl,k4⟩;have E4:=hide (below_on E3.out k4);have uy1:w4.cell? ⟨w.heap.size,1,none⟩=some (.int .i64 p.time.n):=((aA E4.out).1 _ 1 lX0).trans y1;have uy2:w4.cell? ⟨w.heap.size,2,none⟩=some (.slice ta p.time.cells.length tc):=((aA E4.out).1 _ 2 lX0).trans y2;have ux0:w4.cell? ⟨wr.heap.size,0,none⟩=some (.int .i64 pl):=((aA E4.out).1 _ 0 lXr).trans x0;have ux1:w4.cell? ⟨wr.heap.size,1,none⟩=some (.int .i64 sv):=((aA E4.out).1 _ 1 lXr).trans x1;have ux2:w4.cell? ⟨wr.heap.size,2,none⟩=some (.slice ya nw yc):=((aA E4.out).1 _ 2 lXr).trans x2;clear k4) | fail)) | fail
   rename_i hHeld;clear hHeld;have E5:Hid (Below wr.heap.size wr w4):=below_on HX.out E4.out;clear x0 x1 x2 y1 y2 ty1 ty2 tx0 tx1 tx2 uy1 uy2 ux0 ux1 ux2
   cases bo with
   | false =>
    have HF:Hid (cR p.time S fr=false):=cU (by rw [HSN.out];exact hqm) (by rw [HBG.out]);go_wp2_with fail;go_ret;exact ⟨by simp [HF.out],below_on EW.out E5.out⟩
   | true =>
    go_wp2_with fail;go_roundw
    case rel=>exact ⟨q+1,bs+sv,by go_num,rfl,by omega,HLS.out,(fun i hi=>by rcases Nat.lt_succ_iff_lt_or_eq.1 hi with h9 | h9;exact HI.out i h9;rw [h9,HBG.out]),below_on HB.out E5.out⟩
    case measure=>simp [intOf];omega
  ·have i1:¬ (q:Int)<(nS:Int):=by omega
   have HF:Hid (cR p.time S fr=true):=gY fun i hi=>HI.out i (by rw [HSN.out] at hi;omega);go_wp2;go_ret;exact ⟨by simp [HF.out],EW.out⟩
end Go.Proofs.Ytgjpkpmikbpcnaa
namespace Go.Proofs.Ytgjpkpmikbpcnaa
open Go.RowKit
theorem rC:(Try.prog.info? 34).map (fun i=>(i.zero,i.size,i.bytes))=some (some (.agg #[.int .i64 0,.int .i64 0]),2,16):=by kernel_rfl
theorem under3:Try.prog.underlying 3=some (.int .i64):=by kernel_rfl
theorem yb5 (w:World) (ty:TypeId) (n:Nat) (h0:0<n) (hn:n≤1000):∃ cap w',(Builtin.append_ #[55,3] ty #[.slice none 0 0,.int .i64 (n:Int)]).run Try.prog w=.ok (.slice (some ⟨w.heap.size,0,none⟩) n cap) w'∧w'.ownsRow w.heap.size 34 2 (.slice (some ⟨w.heap.size,0,none⟩) 0 cap) 0 []∧Below w.heap.size w w':=by
 obtain ⟨i,hi,hz,hsz,hby⟩:=info_parts rC;have hne:n≠0:=by omega
 have h1:IntKind.i64.wrap (n:Int)=(n:Int):=by rw [IntKind.wrap_i64];omega
 have h2:¬ ((n:Int)<0):=by omega
 have h3:¬ (281474976710656<(n:Int)*i.bytes):=by rw [hby];omega
 have h63:¬ (9223372036854775807<(n:Int)):=by omega
 have h48:¬ (281474976710656<Builtin.nextslicecap n 0*i.bytes):=by rw [nextslicecap_zero h0,hby];omega
 have hns:¬ (n*2=0):=by omega
 refine ⟨grownCap w n 0 34,w.drew.alloc (.cells (Builtin.zeroCells (Value.agg #[.int .i64 0,.int .i64 0]).cells n ++ Builtin.zeroCells (Value.agg #[.int .i64 0,.int .i64 0]).cells (grownCap w n 0 34-n)) 34),?_,?_,?_⟩
 ·simp [Builtin.append_,run_underlying Try.underlying55,run_underlying under3,sizeOf,typeInfo,zeroValue,hi,hz,hsz,asInt,asIntOf,Builtin.lenOf,Builtin.firstCells,hne,h1,h2,h3,h63,h48,hns,Question.forced,newRow,grownCap]
 ·have hge:=grownCap_ge w n 0 34;have hcm:grownCap w n 0 34≤maxLen:=grownCap_le_maxLen w n 0 34 (by unfold maxLen;omega);refine ⟨rfl,.inr ⟨w.heap.size,_,_,rfl,Nat.le_refl _,heap_alloc_new w.drew _,Nat.zero_le _,hcm,?_,by simp⟩⟩;simp only [Array.size_append,size_zeroCells];show n*2+(grownCap w n 0 34-n)*2=_
  omega
 ·exact (Below.refl _ _).drew.alloc (Nat.le_refl _) _
theorem uG {w:World} {ops:Array Oper} {rest:List Oper} {o:Oper} {a:Act} {Q:Exit→Act→World→Prop} {n:Nat} (s x:Operand) (hgd:o.guard=none) (ho:o.op=.call { callee:=.builtin .append,args:=#[s,x],argTypes:=#[55,3] }) (hs:a.eval s=.slice none 0 0) (hx:a.eval x=.int .i64 (n:Int)) (h0:0<n) (hn:n≤1000)
  (h:∀ cap w',w'.ownsRow w.heap.size 34 2 (.slice (some ⟨w.heap.size,0,none⟩) 0 cap) 0 []→Below w.heap.size w w'→wpList Try.prog ops Q rest (a.put o.dst (.slice (some ⟨w.heap.size,0,none⟩) n cap)) w'):wpList Try.prog ops Q (o::rest) a w:=by
 refine wpList_plain hgd fun K hK=>?_;obtain ⟨cap,w',hr,h1,h2⟩:=yb5 w o.type n h0 hn;unfold Oper.wp execOp;simp only [ho,resolve,invoke,builtin,Sem.run_bind,Sem.run_pure,Result.andThen_ok,List.map_toArray,List.map_cons,List.map_nil,hs,hx,hr];exact hK _ _ (h cap w' h1 h2)
theorem yfF (w:World) (n:Nat) (h0:0<n) (hn:n≤1000):Calls Try.prog 134 #[.slice none 0 0,.int .i64 (n:Int)] w fun e w'=>∃ cap,e=.returned (.slice (some ⟨w.heap.size,0,none⟩) 0 cap)∧w'.ownsRow w.heap.size 34 2 (.slice (some ⟨w.heap.size,0,none⟩) 0 cap) 0 []∧Below w.heap.size w w':=by
 have i1:¬ (n:Int)<0:=by omega
 have i2:(0:Int)<(n:Int):=by omega
 have i3:¬ (n:Int)≤0:=by omega
 have hw:IntKind.i64.wrap (n:Int)=(n:Int):=by rw [IntKind.wrap_i64];omega
 go_enter Try.func134,Try.ntmps134;go_wp2_with (first | (at_builtin;refine uG (n:=n) (.tmp 20) (.tmp 21) rfl rfl rfl rfl h0 hn ?_;intro cap w1 r1 r2;have HO:=hide r1;have HB:=hide r2;clear r1 r2) | fail);go_ret;exact ⟨_,rfl,HO.out,HB.out⟩
end Go.Proofs.Ytgjpkpmikbpcnaa
namespace Go.Proofs.Ytgjpkpmikbpcnaa
open Go.RowKit
def encV (v:Vst):List Value:=[.int .i64 v.1,.int .i64 v.2]
def jF (L:List Vst):List Value:=(L.map encV).flatten
theorem xU (L:List Vst):∀ l ∈ L.map encV,l.length=2:=by
 intro l hl;obtain ⟨t,_,rfl⟩:=List.mem_map.1 hl
 rfl
theorem tP (L:List Vst):(jF L).length=L.length*2:=by unfold jF;rw [dW (xU L),List.length_map]
theorem oN (L:List Vst) (i c:Nat) (t:Vst) (h:L[i]? = some t) (hc:c<2):(jF L)[i*2+c]? = (encV t)[c]?:=dP (xU L) i c _ (by simp [h]) hc
theorem ycX (A B:List Vst):jF A ++ jF B=jF (A ++ B):=by simp [jF]
theorem ycW (L:List Vst):∀ u ∈ jF L,u.oneCell'=true:=by
 intro u hu;unfold jF at hu;obtain ⟨l,hl,hu⟩:=List.mem_flatten.1 hu;obtain ⟨t,_,rfl⟩:=List.mem_map.1 hl
 simp [encV] at hu
 rcases hu with rfl | rfl <;> rfl
def VRow (w:World) (base:Nat) (v:Value) (L:List Vst):Prop:=w.ownsRow base 34 2 v L.length (jF L)
theorem VRow.later {w w':World} {base B:Nat} {v:Value} {L:List Vst} (h:VRow w base v L) (hB:w.heap.size≤B) (f:Below B w w'):VRow w' base v L:=sV h hB f
theorem VRow.shape {w:World} {base:Nat} {v:Value} {L:List Vst} (h:VRow w base v L):∃ a c,v=.slice a L.length c∧(a=none→c=0):=by
 rcases h.2 with ⟨e1,e2⟩ | ⟨g,cap,cur,e1,_⟩
 ·exact ⟨none,0,by rw [e1,e2],fun _=>rfl⟩
 ·exact ⟨_,cap,e1,fun e=>by cases e⟩
theorem VRow.vs {w:World} {base:Nat} {v:Value} {L:List Vst} (h:VRow w base v L) (hb:L.length*16≤140737488351232):VsV w v L:=by
 obtain ⟨a,c,rfl,_⟩:=h.shape;refine ⟨a,c,rfl,hb,fun k hk=>?_⟩
 rcases h.2 with ⟨_,e2⟩ | ⟨g,cap,cur,e1,_⟩
 ·omega
 ·injection e1 with e1 _ e3;subst e1 e3;have hx:L[k]? = some L[k]:=List.getElem?_eq_getElem hk;have hd:L.getD k (0,0)=L[k]:=by rw [List.getD_eq_getElem?_getD,hx];rfl
  refine ⟨g,0,rfl,?_,?_⟩
  ·have:=World.ownsRow.cells (g:=g) h rfl (k*2) _ (by rw [show k*2=k*2+0 by omega,oN L k 0 _ hx (by decide)];rfl);rw [add0] at this;rw [Nat.zero_add,this];simp only [hd]
  ·have:=World.ownsRow.cells (g:=g) h rfl (k*2+1) _ (by rw [oN L k 1 _ hx (by decide)];rfl);rw [add0] at this;rw [Nat.zero_add,this];simp only [hd]
theorem vs_news {w:World} {b off m c:Nat} {V:List Vst} (h:VsV w (.slice (some ⟨b,off,none⟩) m c) V):∀ (j:Nat) u,(jF V)[j]? = some u→w.cell? ((⟨b,off,none⟩:Addr).add j)=some u:=by
 intro j u hj;have hl:j<V.length*2:=by have:=(List.getElem?_eq_some_iff.1 hj).1;rw [tP] at this;exact this
 obtain ⟨q,c,rfl,hc⟩:∃ q c,j=q*2+c∧c<2:=⟨j / 2,j % 2,by omega,by omega⟩;have hk:q<V.length:=by omega
 have hx:V[q]? = some V[q]:=List.getElem?_eq_getElem hk;obtain ⟨b',off',e,_,c1,c2,_⟩:=bL h hx;injection e with e;injection e with e1 e2 _;subst e1 e2;rw [pD];rw [oN V q c _ hx hc] at hj
 rcases (show c=0∨c=1 by omega) with rfl | rfl
 ·rw [Nat.add_zero,c1];exact hj
 ·rw [← Nat.add_assoc,c2];exact hj
theorem bS {w:World} {base k m vc sc:Nat} {va sa:Option Addr} {L V:List Vst} {ops:Array Oper} {rest:List Oper} {o:Oper} {a:Act} {Q:Exit→Act→World→Prop} (s x:Operand) (hgd:o.guard=none)
  (ho:o.op=.call { callee:=.builtin .append,args:=#[s,x],argTypes:=#[55,55] })
  (hs:a.eval s=.slice va k vc) (hx:a.eval x=.slice sa m sc) (hrow:VRow w base (.slice va k vc) L) (hk:L.length=k) (hV:VsV w (.slice sa m sc) V) (hm:V.length=m) (hz:sa=none→sc=0) (hkm:k+m≤1000) (hb:base≤w.heap.size)
  (h:∀ va' cap' w',VRow w' base (.slice va' (k+m) cap') (L ++ V)→Below base w w'→w.grownBy w' (Value.ownBlock (.slice va k vc))→wpList Try.prog ops Q rest (a.put o.dst (.slice va' (k+m) cap')) w'):wpList Try.prog ops Q (o::rest) a w:=by
 obtain ⟨i0,hi0,hy0,hy1,hy2⟩:=info_parts rC;have hown:w.ownsRow base 34 2 (.slice va k vc) k (jF L):=by have:=hrow;unfold VRow at this;rw [hk] at this;exact this
 cases sa with
 | none =>
  have hm0:m=0:=by
   rcases Nat.eq_zero_or_pos m with e | e
   ·exact e
   ·obtain ⟨b,off,e',_⟩:=bL hV (List.getElem?_eq_getElem (show 0<V.length by omega))
    cases e'
  have hV0:V=[]:=List.eq_nil_of_length_eq_zero (by omega);subst hm0 hV0;rw [hz rfl] at hx;refine wpList_append_own_none hgd s x 55 ho base 34 i0 2 Try.underlying55 hi0 _ k _ hs hown hx ?_;exact h va vc w (by rw [List.append_nil];exact hrow) (Below.refl _ _) ⟨rfl,rfl,rfl,Nat.le_refl _,fun _ _ _=>rfl⟩
 | some ad =>
  rcases Nat.eq_zero_or_pos m with e | e
  ·subst e;have hV0:V=[]:=List.eq_nil_of_length_eq_zero hm;subst hV0;refine wpList_append_own w hgd s x 55 ho base 34 i0 _ 2 16 Try.underlying55 hi0 hy0 hy1 hy2 rfl (by decide) _ k _ hs hown ad 0 sc [] hx rfl (fun j u hj=>by simp at hj) (fun u hu=>by simp at hu) (by unfold maxLen;omega) (by omega) hb ?_;intro v' w' h1 h2 _;have hrow2:VRow w' base v' (L ++ []):=by unfold VRow;rw [List.append_nil,hk];simpa using h1
   obtain ⟨a2,c2,e2,_⟩:=hrow2.shape;rw [List.append_nil,hk] at e2;subst e2;exact h a2 c2 w' hrow2 ((Below.refl _ _).grown h2 hb fun q hq=>(hown.lt q hq).1) h2
  ·obtain ⟨b,off,e',_⟩:=bL hV (List.getElem?_eq_getElem (show 0<V.length by omega));injection e' with e';subst e';refine wpList_append_own w hgd s x 55 ho base 34 i0 _ 2 16 Try.underlying55 hi0 hy0 hy1 hy2 rfl (by decide) _ k _ hs hown ⟨b,off,none⟩ m sc (jF V) hx (by rw [tP,hm]) (vs_news hV) (ycW V) (by unfold maxLen;omega) (by omega) hb ?_;intro v' w' h1 h2 _;rw [ycX] at h1;have hrow2:VRow w' base v' (L ++ V):=by unfold VRow;rw [List.length_append,hk,hm];exact h1
   obtain ⟨a2,c2,e2,_⟩:=hrow2.shape;rw [List.length_append,hk,hm] at e2;subst e2;exact h a2 c2 w' hrow2 ((Below.refl _ _).grown h2 hb fun q hq=>(hown.lt q hq).1) h2
end Go.Proofs.Ytgjpkpmikbpcnaa
namespace Go.Proofs.Ytgjpkpmikbpcnaa
open Go.RowKit
structure CatV (w:World) (ad:Addr) (vs:List (Option Addr × Nat × List Vst)):Prop where
 cell:∀ (k:Nat) a c V,vs[k]? = some (a,c,V)→w.cell? (ad.add k)=some (.slice a V.length c)∧VsV w (.slice a V.length c) V∧(a=none→c=0)
def iK (vs:List (Option Addr × Nat × List Vst)):List Vst:=(vs.map fun z=>z.2.2).flatten
theorem oU {vs:List (Option Addr × Nat × List Vst)} {q:Nat} {z:Option Addr × Nat × List Vst} (h:vs[q]? = some z):iK (vs.take (q+1))=iK (vs.take q) ++ z.2.2:=by
 obtain ⟨hk,e⟩:=List.getElem?_eq_some_iff.1 h;unfold iK;rw [List.take_succ_eq_append_getElem hk,e,List.map_append,List.flatten_append]
 simp
theorem ybJ {vs:List (Option Addr × Nat × List Vst)} (q:Nat):(iK (vs.take q)).length≤(iK vs).length:=by
 have:iK vs=iK (vs.take q) ++ iK (vs.drop q):=by
  unfold iK;rw [← List.flatten_append,← List.map_append,List.take_append_drop]
 rw [this,List.length_append]
 omega
theorem CatV.on {w w':World} {b:Nat} {vs:List (Option Addr × Nat × List Vst)} (h:CatV w ⟨b,0,none⟩ vs) (hb:b<w.heap.size) (f:Below w.heap.size w w'):CatV w' ⟨b,0,none⟩ vs:=⟨fun k a c V hk=>by
 obtain ⟨h1,h2,h3⟩:=h.cell k a c V hk;rw [add0] at h1 ⊢;exact ⟨((aA f).1 _ _ hb).trans h1,PrV.on h2 f,h3⟩⟩
theorem yaA {w:World} {b n c:Nat} {vs:List (Option Addr × Nat × List Vst)} (h:CatV w ⟨b,0,none⟩ vs) (hb:b<w.heap.size) (hn:vs.length=n) (h0:0<(iK vs).length) (h1:(iK vs).length≤1000) (hn2:n≤1000):Calls Try.prog 126 #[.slice (some ⟨b,0,none⟩) n c] w fun e w'=>∃ v,e=.returned v∧VRow w' w.heap.size v (iK vs)∧Below w.heap.size w w':=by
 have H:=hide h;have HN:=hide hn;clear h hn;obtain ⟨tot,htot⟩:∃ q,(iK vs).length=q:=⟨_,rfl⟩;rw [htot] at h0 h1;have HTOT:=hide htot;clear htot;go_enter Try.func126,Try.ntmps126;go_wp2_with fail
 go_loopw [11,3] (fun vi v3 wr=>∃ q s:Nat,vi=.int .i64 q∧v3=.int .i64 s∧q≤n∧s≤tot∧Hid ((iK (vs.take q)).length=s)∧Hid (Below w.heap.size w wr)) (fun vi _ _=>n-(intOf vi).toNat)
 case atStart=>exact ⟨0,0,rfl,rfl,Nat.zero_le _,Nat.zero_le _,rfl,Below.refl _ _⟩
 case round =>
  obtain ⟨q,s,rfl,rfl,hq,hst,HS,HB⟩:=hrel
  by_cases hqn:q<n
  ·have i1:(q:Int)<(n:Int):=by omega
   have i2:(0:Int)≤(q:Int):=by omega
   have i3:¬ (n:Int)≤(q:Int):=by omega
   obtain ⟨⟨a,c',V⟩,hu⟩:∃ u,vs[q]? = some u:=⟨_,List.getElem?_eq_getElem (by rw [HN.out];exact hqn)⟩;have c1:=((H.out.on hb HB.out).cell q a c' V hu).1;rw [add0] at c1;obtain ⟨l,hl⟩:∃ z,V.length=z:=⟨_,rfl⟩;rw [hl] at c1;have hs2:(iK (vs.take (q+1))).length=s+l:=by rw [oU hu,List.length_append,HS.out,hl]
   have hle:s+l≤tot:=by rw [← hs2,← HTOT.out];exact ybJ _
   have hw:IntKind.i64.wrap ((s:Int)+(l:Int))=((s+l:Nat):Int):=by rw [IntKind.wrap_i64];omega
   have i4:¬ ((s+l:Nat):Int)<0:=by omega
   have i5:¬ (s:Int)+(l:Int)<0:=by omega
   have HS2:=hide hs2;clear hu hl hs2;go_wp2_with fail;go_roundw
   case rel=>exact ⟨q+1,s+l,by go_num,by first | rfl | (simp;omega),by omega,hle,HS2.out,HB.out⟩
   case measure=>simp [intOf];omega
  ·have i1:¬ (q:Int)<(n:Int):=by omega
   have hse:s=tot:=by rw [← HS.out,List.take_of_length_le (by rw [HN.out];omega)];exact HTOT.out
   subst hse;clear HS;go_wp2_with (first | (go_at_call 134;refine (yfF _ s h0 h1).mono ?_;rintro e w1 ⟨cap,rfl,r1,k1⟩;have HV1:Hid (VRow w1 w.heap.size _ (iK (vs.take 0))):=bC r1 HB.out.size;have E1:=hide (below_on HB.out k1);clear r1 k1) | fail)
   go_loopw [27,6] (fun vi v6 wr=>∃ (q s:Nat) (va:Option Addr) (vc:Nat),vi=.int .i64 q∧v6=.slice va s vc∧q≤n∧Hid ((iK (vs.take q)).length=s)∧Hid (VRow wr w.heap.size (.slice va s vc) (iK (vs.take q)))∧Hid (Below w.heap.size w wr)) (fun vi _ _=>n-(intOf vi).toNat)
   case atStart=>exact ⟨0,0,_,_,rfl,rfl,Nat.zero_le _,rfl,HV1.out,E1.out⟩
   case round =>
    clear HV1 E1 HB;obtain ⟨q,s2,va,vc,rfl,rfl,hq,HS,HR,HB⟩:=hrel
    by_cases hqn:q<n
    ·have i1:(q:Int)<(n:Int):=by omega
     have i2:(0:Int)≤(q:Int):=by omega
     have i3:¬ (n:Int)≤(q:Int):=by omega
     obtain ⟨⟨a,c',V⟩,hu⟩:∃ u,vs[q]? = some u:=⟨_,List.getElem?_eq_getElem (by rw [HN.out];exact hqn)⟩;obtain ⟨c1,hv,hz⟩:=(H.out.on hb HB.out).cell q a c' V hu;rw [add0] at c1;obtain ⟨l,hl⟩:∃ z,V.length=z:=⟨_,rfl⟩;rw [hl] at c1 hv;have hs2:(iK (vs.take (q+1))).length=s2+l:=by rw [oU hu,List.length_append,HS.out,hl]
     have hle:s2+l≤1000:=by rw [← hs2];have h8:=ybJ (vs:=vs) (q+1);have h9:=HTOT.out;omega
     have HS2:=hide hs2;have HST:=hide (oU hu);have HVV:=hide hv;have HZ:=hide hz;have HLV:=hide hl;clear hl hs2 hv hz;go_wp2_with (first | (at_builtin;refine bS (.tmp 31) (.tmp 32) rfl rfl rfl rfl HR.out HS.out HVV.out HLV.out HZ.out hle HB.out.size ?_;intro va2 c2 w2 r1 r2 _;have HR2:=hide r1;have B2:Hid (Below w.heap.size w w2):=HB.out.trans r2;clear r1 r2) | fail);go_roundw
     case rel=>exact ⟨q+1,s2+l,va2,c2,by go_num,rfl,by omega,HS2.out,by rw [HST.out];exact HR2.out,B2.out⟩
     case measure=>simp [intOf];omega
    ·have i1:¬ (q:Int)<(n:Int):=by omega
     have HT:Hid (iK (vs.take q)=iK vs):=by show _=_;rw [List.take_of_length_le (by rw [HN.out];omega)]
     go_wp2;go_ret;exact ⟨_,rfl,by have h9:=HR.out;rw [HT.out] at h9;exact h9,HB.out⟩
end Go.Proofs.Ytgjpkpmikbpcnaa
