import Derived.BigRegion
import Derived.Deep.RegionHeld3
import Derived.Laws.BitsAllLaws
import Derived.Test.YtgjpkpmikbpcnaaOFst0G
set_option linter.unusedSimpArgs false
namespace Go.Proofs.Ytgjpkpmikbpcnaa
open Go.RowKit
theorem ydB {p:Prb} {v:Veh} {V:List Vst} (h:aQ p V=false):cQ p v V=161:=by unfold cQ;rw [h];rfl
theorem tY {p:Prb} {v:Veh} {V:List Vst} (h:aQ p V=true) (h2:cO V v.brks.length=false):cQ p v V=162:=by unfold cQ;rw [h,h2];rfl
theorem ydA {p:Prb} {v:Veh} {V:List Vst} (h:aQ p V=true) (h2:cO V v.brks.length=true) (h3:dH p v V=false):cQ p v V=163:=by unfold cQ;rw [h,h2,h3];rfl
theorem yc8 {p:Prb} {v:Veh} {V:List Vst} (h:aQ p V=true) (h2:cO V v.brks.length=true) (h3:dH p v V=true) (h4:cG v V=false):cQ p v V=164:=by unfold cQ;rw [h,h2,h3,h4];rfl
theorem yc7 {p:Prb} {v:Veh} {V:List Vst} (h:aQ p V=true) (h2:cO V v.brks.length=true) (h3:dH p v V=true) (h4:cG v V=true) (h5:cA p p.dims.toNat v V=false):cQ p v V=165:=by unfold cQ;rw [h,h2,h3,h4,h5];rfl
theorem dY {p:Prb} {v:Veh} {V:List Vst} (h:aQ p V=true) (h2:cO V v.brks.length=true) (h3:dH p v V=true) (h4:cG v V=true) (h5:cA p p.dims.toNat v V=true) (h6:bN p (aB p v V)=false):cQ p v V=166:=by unfold cQ;rw [h,h2,h3,h4,h5,h6];rfl
theorem first_0 {p:Prb} {v:Veh} {V:List Vst} (h:aQ p V=true) (h2:cO V v.brks.length=true) (h3:dH p v V=true) (h4:cG v V=true) (h5:cA p p.dims.toNat v V=true) (h6:bN p (aB p v V)=true):cQ p v V=0:=by unfold cQ;rw [h,h2,h3,h4,h5,h6];rfl
theorem iB {f:Nat→Bool} {i:Nat} (h:∀ j,j<i→f j=true) (hb:f i=true):∀ j,j<i+1→f j=true:=fun j hj=>by
 by_cases e:j<i
 ·exact h j e
 ·have:j=i:=by omega
  rw [this];exact hb
theorem yL {p:Prb} {dd c:Nat} {V:List Vst} {cp:List Int} (h:∀ j,j<c→Ld.underB (bY p dd V j) cp=true) (hb:Ld.underB (bY p dd V c) cp=true):∀ j,j<c+1→Ld.underB (bY p dd V j) cp=true:=fun j hj=>by
 by_cases e:j<c
 ·exact h j e
 ·have:j=c:=by omega
  rw [this];exact hb
theorem rest_no {V:List Vst} {n m:Nat} {q:Nat} {it:Int} (hr:gC 0 V=gC n (V.drop q)) (hu:V[q]? = some (4,it)) (hne:it≠(n:Int)):cO V m=false:=by
 unfold cO;rw [hr,jH hu,if_pos rfl,if_neg hne]
 simp
set_option maxRecDepth 100000 in
set_option maxHeartbeats 12800000 in
theorem zE {w:World} {x:aU} {p:Prb} {v:Veh} {m vc cc bc:Nat} {va ca ba:Option Addr} {V:List Vst} (h:PrbV w x p) (hl:aY p=true) (hv:iS p.dims p.time.n v) (hcap:IntsV w (.slice ca v.cap.length cc) v.cap) (hwd:Wd v.skills) (hV:VsV w (.slice va m vc) V) (hm:V.length=m) (hm2:m≤100):Calls Try.prog 70 #[.agg (aL p x),.agg #[.int .i64 v.start,.int .i64 v.stop,.slice ca v.cap.length cc,.int .u64 v.skills,.int .i64 v.shift.1,.int .i64 v.shift.2,.int .i64 v.fixed,.int .i64 v.perT,.int .i64 v.perD,.int .i64 v.maxT,.slice ba v.brks.length bc],.slice va m vc] w fun e w'=>e=.returned (.int .i64 (cQ p v V))∧Below w.heap.size w w':=by
 have HP:=hide h;have HL:=hide hl;have HVO:=hide hv;have HCAP:=hide hcap;have HWD:=hide hwd;have HV:=hide hV;have HM:=hide hm;have HSW:=hide (fun t=>yd7 h t);clear hl hv hcap hV hm;obtain ⟨ta,tc,da,dc,va',vc',ja,jc,sa,sc,rfl⟩:=h.open;clear h;have HTE:Hid (aL p ⟨.slice ta p.time.cells.length tc,.slice da p.dist.cells.length dc,.slice va' p.vs.length vc',.slice ja p.js.length jc,.slice sa p.ss.length sc⟩=#[.int .i64 p.dims,.int .i64 p.time.n,.slice ta p.time.cells.length tc,.int .i64 p.dist.n,.slice da p.dist.cells.length dc,.slice va' p.vs.length vc',.slice ja p.js.length jc,.slice sa p.ss.length sc]):=rfl;rw [HTE.out];have H109:Hid (∀ W2,Below w.heap.size w W2→Calls Try.prog 109 #[.agg #[.int .i64 p.dims,.int .i64 p.time.n,.slice ta p.time.cells.length tc,.int .i64 p.dist.n,.slice da p.dist.cells.length dc,.slice va' p.vs.length vc',.slice ja p.js.length jc,.slice sa p.ss.length sc],.slice va m vc] W2 fun e w'=>e=.returned (.bool (aQ p V))∧Below W2.heap.size W2 w'):=fun W2 hf=>by have h9:=ycD (HP.out.on hf) (PrV.on HV.out hf) HM.out (by omega);exact h9
 have H18:Hid (∀ W2 (s:Bool) (i:Int),Below w.heap.size w W2→Calls Try.prog 18 #[.agg #[.int .i64 p.dims,.int .i64 p.time.n,.slice ta p.time.cells.length tc,.int .i64 p.dist.n,.slice da p.dist.cells.length dc,.slice va' p.vs.length vc',.slice ja p.js.length jc,.slice sa p.ss.length sc],.agg #[.bool s,.int .i64 i]] W2 fun e w'=>e=.returned (.tuple #[.int .i64 (o5 p (s,i)),.int .u64 (gJ p (s,i))])∧Below W2.heap.size W2 w'):=fun W2 s i hf=>by have h9:=ydC (HP.out.on hf) s i;exact h9
 obtain ⟨W,hW⟩:∃ W,W=(w.alloc (.cells #[.int .i64 p.dims,.int .i64 p.time.n,.slice ta p.time.cells.length tc,.int .i64 p.dist.n,.slice da p.dist.cells.length dc,.slice va' p.vs.length vc',.slice ja p.js.length jc,.slice sa p.ss.length sc] 29)).alloc (.cells #[.int .i64 v.start,.int .i64 v.stop,.slice ca v.cap.length cc,.int .u64 v.skills,.int .i64 v.shift.1,.int .i64 v.shift.2,.int .i64 v.fixed,.int .i64 v.perT,.int .i64 v.perD,.int .i64 v.maxT,.slice ba v.brks.length bc] 86):=⟨_,rfl⟩;have HBW:Hid (Below w.heap.size w W):=by rw [hW];exact Mn.a.alloc (by simp) _
 have HWS:Hid (W.heap.size=w.heap.size+2):=by show _=_;rw [hW];simp
 have HC:Hid (∀ j,W.cell? ⟨w.heap.size,j,none⟩=(#[.int .i64 p.dims,.int .i64 p.time.n,.slice ta p.time.cells.length tc,.int .i64 p.dist.n,.slice da p.dist.cells.length dc,.slice va' p.vs.length vc',.slice ja p.js.length jc,.slice sa p.ss.length sc]:Array Value)[j]?):=fun j=>by
  have e9:W.heap[w.heap.size]? = some (.cells #[.int .i64 p.dims,.int .i64 p.time.n,.slice ta p.time.cells.length tc,.int .i64 p.dist.n,.slice da p.dist.cells.length dc,.slice va' p.vs.length vc',.slice ja p.js.length jc,.slice sa p.ss.length sc] 29):=by rw [hW,heap_alloc_old _ _ (by simp),heap_alloc_new]
  exact cell_of_row _ _ _ _ _ _ e9
 have HCV:Hid (∀ j,W.cell? ⟨w.heap.size+1,j,none⟩=(#[.int .i64 v.start,.int .i64 v.stop,.slice ca v.cap.length cc,.int .u64 v.skills,.int .i64 v.shift.1,.int .i64 v.shift.2,.int .i64 v.fixed,.int .i64 v.perT,.int .i64 v.perD,.int .i64 v.maxT,.slice ba v.brks.length bc]:Array Value)[j]?):=fun j=>by
  have e9:=heap_alloc_new (w.alloc (.cells #[.int .i64 p.dims,.int .i64 p.time.n,.slice ta p.time.cells.length tc,.int .i64 p.dist.n,.slice da p.dist.cells.length dc,.slice va' p.vs.length vc',.slice ja p.js.length jc,.slice sa p.ss.length sc] 29)) (.cells #[.int .i64 v.start,.int .i64 v.stop,.slice ca v.cap.length cc,.int .u64 v.skills,.int .i64 v.shift.1,.int .i64 v.shift.2,.int .i64 v.fixed,.int .i64 v.perT,.int .i64 v.perD,.int .i64 v.maxT,.slice ba v.brks.length bc] 86);rw [← hW] at e9;simp only [World.size_alloc] at e9;exact cell_of_row _ _ _ _ _ _ e9
 obtain ⟨bw,hbw⟩:∃ b,aQ p V=b:=⟨_,rfl⟩;have HWH:=hide hbw;clear hbw
 cases bw with
 | false =>
  have HF:=hide (ydB (v:=v) HWH.out);go_enter Try.func70,Try.ntmps70;go_wp2_with (first | (go_at_call 109;rw [← hW];refine (H109.out _ HBW.out).mono ?_;rintro e w1 ⟨rfl,k1⟩;rw [HWH.out];have E1:=hide k1;clear k1) | fail);go_ret;exact ⟨by rw [HF.out];rfl,below_on HBW.out E1.out⟩
 | true =>
  go_enter Try.func70,Try.ntmps70;go_wp2_with (first | (go_at_call 109;rw [← hW];refine (H109.out _ HBW.out).mono ?_;rintro e w1 ⟨rfl,k1⟩;rw [HWH.out];have E1:=hide k1;clear k1) | fail);clear hW;have HB1:=hide (below_on HBW.out E1.out)
  go_loopw [10,7,8,9] (fun vi vn vt vs wr=>∃ q n tk sk:Nat,vi=.int .i64 q∧vn=.int .i64 n∧vt=.int .i64 tk∧vs=.int .u64 sk∧q≤m∧n≤q∧tk≤q∧Hid (gC 0 V=gC n (V.drop q))∧Hid ((bJ (V.take q)).length=tk∧pF p (bJ (V.take q))=sk)∧Hid (Below W.heap.size W wr)) (fun vi _ _ _ _=>m-(intOf vi).toNat)
  case atStart=>exact ⟨0,0,0,0,rfl,rfl,rfl,rfl,Nat.zero_le _,Nat.le_refl _,Nat.le_refl _,by rw [List.drop_zero];rfl,⟨rfl,rfl⟩,E1.out⟩
  case round =>
   obtain ⟨q,n,tk,sk,rfl,rfl,rfl,rfl,hq,hn,htk,HBK,HTS,HB⟩:=hrel;have HBr:=hide (below_on HBW.out HB.out)
   by_cases hqm:q<m
   ·have i1:(q:Int)<(m:Int):=by omega
    have i2:(0:Int)≤(q:Int):=by omega
    have i3:¬ (m:Int)≤(q:Int):=by omega
    obtain ⟨⟨kd,it⟩,hu⟩:∃ u,V[q]? = some u:=⟨_,List.getElem?_eq_getElem (by rw [HM.out];exact hqm)⟩;obtain ⟨b,off,rfl,hb,c1,c2,_⟩:=bL HV.out hu;simp only at c1 c2;have d1:wr.cell? ⟨b,off+q*2,none⟩=some (.int .i64 kd):=((aA HBr.out).1 _ _ hb).trans c1;have d2:wr.cell? ⟨b,off+q*2+1,none⟩=some (.int .i64 it):=((aA HBr.out).1 _ _ hb).trans c2;have HU:=hide hu;have HD:=hide (HBK.out.trans (jH hu));simp only at HD;clear c1 c2 hu hb
    by_cases hk4:kd=4
    ·subst hk4;rw [if_pos rfl] at HD;have HT0:Hid (bJ (V.take (q+1))=bJ (V.take q)):=kH HU.out rfl
     by_cases hin:it=(n:Int)
     ·subst hin;rw [if_pos rfl] at HD;have y1:((n:Int) != (n:Int))=false:=by simp
      go_wp2_with fail;go_roundw
      case rel=>exact ⟨q+1,n+1,tk,sk,by go_num,by go_num,rfl,rfl,by omega,by omega,by omega,HD.out,by rw [HT0.out];exact HTS.out,HB.out⟩
      case measure=>simp [intOf];omega
     ·have y1:(it != (n:Int))=true:=by simpa using hin
      have HF:=hide (tY (v:=v) HWH.out (rest_no HBK.out HU.out hin));go_wp2_with fail;go_ret;exact ⟨by rw [HF.out];rfl,HBr.out⟩
    ·rw [if_neg hk4] at HD;have y4:(kd == 4)=false:=by simpa using hk4
     by_cases hk12:kd=1∨kd=2
     ·obtain ⟨s,hs,ht⟩:∃ s:Bool,ofM kd it=((s,it),true)∧mT (kd,it)=some (s,it):=by
       rcases hk12 with rfl | rfl
       ·exact ⟨false,rfl,rfl⟩
       ·exact ⟨true,rfl,rfl⟩
      have HO:=hide hs;have HT1:=hide (kG HU.out ht);obtain ⟨z,hz⟩:∃ z:Nat,gJ p (s,it)=z:=⟨(gJ p (s,it)).toNat,by have:=(HSW.out (s,it)).1;omega⟩;have hzl:z<18446744073709551616:=by have:=(HSW.out (s,it)).2;omega
      have hsl:sk<18446744073709551616:=by rw [← HTS.out.2];exact yaP HSW.out _
      have hor:=u64_or_nat sk z hsl hzl;have HZZ:=hide hz;have HS2:Hid (pF p (bJ (V.take (q+1)))=sk ||| z):=by show _=_;rw [HT1.out,oF,HTS.out.2,hz];simp
      have HL2:Hid ((bJ (V.take (q+1))).length=tk+1):=by show _=_;rw [HT1.out,List.length_append,HTS.out.1];rfl
      clear hs ht hz;obtain ⟨r0,r1,r2,r3,r4,r5,r6,r7⟩:=Mn.c8 (fun j=>((aA HB.out).1 _ j (by rw [HWS.out];omega)).trans (HC.out j));have nw0:w.heap.size<wr.heap.size:=by have:=HB.out.size;have:=HWS.out;omega
      rcases hk12 with rfl | rfl
      ·go_wp2_with (first | (go_at_call 18;refine (H18.out _ _ _ (below_on HBW.out (below_on E2.out Mn.a))).mono ?_;rintro e w3 ⟨rfl,k3⟩;rw [HZZ.out];have E3:=hide (below_on (below_on E2.out Mn.a) k3);clear k3) | (go_at_call 20;refine (gG _ _ _).mono ?_;rintro e w2 ⟨rfl,k2⟩;rw [HO.out];simp only [dZ];have E2:=hide (below_on HB.out k2);have l2:w.heap.size<w2.heap.size:=(by have:=k2.size;omega);have n2:¬ w.heap.size=w2.heap.size:=(by omega);obtain ⟨s0,s1,s2,s3,s4,s5,s6,s7⟩:=Mn.c8 (fun j=>((aA E2.out).1 _ j (by rw [HWS.out];omega)).trans (HC.out j));clear k2 r0 r1 r2 r3 r4 r5 r6 r7) | fail);go_roundw
       case rel=>exact ⟨q+1,n,tk+1,sk ||| z,by go_num,rfl,by go_num,rfl,by omega,by omega,by omega,HD.out,⟨HL2.out,HS2.out⟩,E3.out⟩
       case measure=>simp [intOf];omega
      ·go_wp2_with (first | (go_at_call 18;refine (H18.out _ _ _ (below_on HBW.out (below_on E2.out Mn.a))).mono ?_;rintro e w3 ⟨rfl,k3⟩;rw [HZZ.out];have E3:=hide (below_on (below_on E2.out Mn.a) k3);clear k3) | (go_at_call 20;refine (gG _ _ _).mono ?_;rintro e w2 ⟨rfl,k2⟩;rw [HO.out];simp only [dZ];have E2:=hide (below_on HB.out k2);have l2:w.heap.size<w2.heap.size:=(by have:=k2.size;omega);have n2:¬ w.heap.size=w2.heap.size:=(by omega);obtain ⟨s0,s1,s2,s3,s4,s5,s6,s7⟩:=Mn.c8 (fun j=>((aA E2.out).1 _ j (by rw [HWS.out];omega)).trans (HC.out j));clear k2 r0 r1 r2 r3 r4 r5 r6 r7) | fail);go_roundw
       case rel=>exact ⟨q+1,n,tk+1,sk ||| z,by go_num,rfl,by go_num,rfl,by omega,by omega,by omega,HD.out,⟨HL2.out,HS2.out⟩,E3.out⟩
       case measure=>simp [intOf];omega
     ·have y5:(kd == 1)=false:=by simp;exact fun e=>hk12 (.inl e)
      have y6:(kd == 2)=false:=by simp;exact fun e=>hk12 (.inr e)
      have HT0:Hid (bJ (V.take (q+1))=bJ (V.take q)):=kH HU.out (by unfold mT;simp only;rw [if_neg (fun e=>hk12 (.inl e)),if_neg (fun e=>hk12 (.inr e))]);go_wp2_with fail;go_roundw
      case rel=>exact ⟨q+1,n,tk,sk,by go_num,rfl,rfl,rfl,by omega,by omega,by omega,HD.out,by rw [HT0.out];exact HTS.out,HB.out⟩
      case measure=>simp [intOf];omega
   ·have i1:¬ (q:Int)<(m:Int):=by omega
    have hqe:q=m:=by omega
    have HVT:Hid (V.take q=V):=by show _=_;rw [hqe,← HM.out];exact List.take_length
    rw [HVT.out] at HTS;have HBN:Hid (gC 0 V=some n):=by show _=_;rw [HBK.out,List.drop_eq_nil_of_le (by rw [HM.out];omega)];rfl
    have HRE:=hide (yeL V n HBN.out v.brks.length);obtain ⟨sv,hsv⟩:∃ sv:Nat,v.skills=sv:=⟨v.skills.toNat,by have:=HWD.out.1;omega⟩;have hsvl:sv<18446744073709551616:=by have:=HWD.out.2;omega
    have hsl:sk<18446744073709551616:=by rw [← HTS.out.2];exact yaP HSW.out _
    have hand:=u64_andNot_nat sk sv hsl hsvl;have hcz:=pB sv sk hsvl hsl;have HAB:Hid (dH p v V=decide (sv ||| sk=sv)):=by show _=_;unfold dH;rw [able_or,HTS.out.2,hsv];simp
    have HSMv:Hid (cG v V=decide ((tk:Int)≤v.maxT)):=by show _=_;unfold cG;rw [HTS.out.1]
    generalize sk &&& (18446744073709551615-sv)=an at hand hcz
    have HSV:=hide hsv;obtain ⟨-,-,-,t3,-,-,-,-,-,t9,t10⟩:=Mn.c11 (fun j=>((aA HB.out).1 _ j (by rw [HWS.out];omega)).trans (HCV.out j));rw [hsv] at t3;obtain ⟨nb,hnb⟩:∃ nb,v.brks.length=nb:=⟨_,rfl⟩;rw [hnb] at t10 HRE;have HNB:=hide hnb;clear hnb hqe HVT hsv hwd
    by_cases hnn:n=nb
    ·subst hnn;have y1:((n:Int) != (n:Int))=false:=by simp
     have HR1:Hid (cO V v.brks.length=true):=by show _=_;rw [HNB.out,HRE.out];simp
     by_cases hab:an=0
     ·subst hab;have HA1:Hid (dH p v V=true):=by show _=_;rw [HAB.out,decide_eq_true (hcz.1 rfl)]
      have y2:(((0:Nat):Int) != 0)=false:=by simp
      by_cases hmx:(tk:Int)≤v.maxT
      ·have y3:¬ (tk:Int)>v.maxT:=by omega
       have y4:¬ v.maxT<(tk:Int):=by omega
       have HS1:Hid (cG v V=true):=by show _=_;rw [HSMv.out,decide_eq_true hmx]
       clear hcz HAB HSMv HRE;obtain ⟨dd,hdd⟩:∃ dd:Nat,p.dims=dd:=⟨p.dims.toNat,by have:=(bF HL.out).dim;omega⟩;have HDD:=hide hdd;have HDT:Hid (p.dims.toNat=dd):=by show _=_;rw [hdd];simp
       clear hdd
       have H43:Hid (∀ W2,Below w.heap.size w W2→Calls Try.prog 43 #[.agg #[.int .i64 p.dims,.int .i64 p.time.n,.slice ta p.time.cells.length tc,.int .i64 p.dist.n,.slice da p.dist.cells.length dc,.slice va' p.vs.length vc',.slice ja p.js.length jc,.slice sa p.ss.length sc],.slice va m vc] W2 fun e w'=>∃ aa ac ys,e=.returned (.slice aa (m+1) ac)∧LdS w' W2.heap.size (.slice aa (m+1) ac) ((List.range (m+1)).map (bY p dd V)) ys∧Below W2.heap.size W2 w'):=fun W2 hf=>by
        have h9:=qM (HP.out.on hf) HL.out (PrV.on HV.out hf) HM.out (by omega);rw [HDT.out] at h9;refine h9.mono ?_;rintro e w' ⟨v,ys,rfl,hr,k9⟩;obtain ⟨a,c,rfl⟩:=RowS.shape hr;have hln:((List.range (m+1)).map (bY p dd V)).length=m+1:=by simp
        rw [hln] at hr ⊢;exact ⟨a,c,ys,rfl,hr,k9⟩
       obtain ⟨r0,r1,r2,r3,r4,r5,r6,r7⟩:=Mn.c8 (fun j=>((aA HB.out).1 _ j (by rw [HWS.out];omega)).trans (HC.out j));go_wp2_with (first | (go_at_call 43;refine (H43.out _ HBr.out).mono ?_;rintro e w4 ⟨a4,c4,ys4,rfl,R4,k4⟩;have HR4:=hide R4;have E4:=hide (below_on HB.out k4);clear k4 R4) | fail);clear r0 r1 r2 r3 r4 r5 r6 r7 t3 t9 t10 hand;have HLA:=hide (ycM HL.out HDD.out v V);obtain ⟨M,hM⟩:∃ M,m+1=M:=⟨_,rfl⟩;have HMM:=hide hM;have hMb:M≤101:=by omega
       rw [hM] at HR4 ⊢;clear hM;have HB4:=hide (below_on HBW.out E4.out)
       go_loopw [16] (fun vn wq=>∃ c:Nat,vn=.int .i64 c∧c≤M∧Hid (∀ j,j<c→Ld.underB (bY p dd V j) v.cap=true)∧Hid (Below w4.heap.size w4 wq)) (fun vn _=>M-(intOf vn).toNat)
       case atStart=>exact ⟨0,rfl,Nat.zero_le _,fun j hj=>by omega,Below.refl _ _⟩
       case round =>
        obtain ⟨c,rfl,hc,HUN,HB5⟩:=hrel;have E5:=hide (below_on E4.out HB5.out)
        by_cases hcM:c<M
        ·have j1:(c:Int)<(M:Int):=by omega
         have j2:(0:Int)≤(c:Int):=by omega
         have j3:¬ (M:Int)≤(c:Int):=by omega
         have hx2:((List.range M).map (bY p dd V))[c]? = some (bY p dd V c):=by simp [hcM]
         obtain ⟨gb,v1,wc,rfl,hgb,cb,hib⟩:=ld_get HR4.out hx2;have HIB:=hide hib;obtain ⟨dl,hdl⟩:∃ dl,(bY p dd V c).length=dl:=⟨_,rfl⟩;have hdl3:dl≤3:=by rw [← hdl];unfold bY;have:=(bF HL.out).dim;have:=HDD.out;simp;omega
         have HDL:=hide hdl;rw [hdl] at cb;have db:wr.cell? ⟨gb,c,none⟩=some (.slice v1 dl wc):=((aA HB5.out).1 _ _ hgb).trans cb;have u2:wr.cell? ⟨w.heap.size+1,2,none⟩=some (.slice ca v.cap.length cc):=((aA E5.out).1 _ 2 (by rw [HWS.out];omega)).trans (HCV.out 2);obtain ⟨bu,hbu⟩:∃ b,Ld.underB (bY p dd V c) v.cap=b:=⟨_,rfl⟩;have HBU:=hide hbu;obtain ⟨lc,hlc⟩:∃ lc,v.cap.length=lc:=⟨_,rfl⟩;have HLC:=hide hlc;have hlc3:=IntsV.bound HCAP.out;rw [hlc] at hlc3;have HCA:Hid (∀ W2,Below w.heap.size w W2→IntsAt W2 ca v.cap):=fun W2 hf=>by obtain ⟨a',c',e',_,_,hA⟩:=HCAP.out;injection e' with e1 _ _;subst e1;exact hA.later hf
         rw [hlc] at u2
         have H47:Hid (∀ W2,Below w4.heap.size w4 W2→Calls Try.prog 47 #[.slice v1 dl wc,.slice ca lc cc] W2 fun e w'=>e=.returned (.bool bu)∧Below W2.heap.size W2 w'):=fun W2 hf=>by
          have h9:=Ld.runder_any (ca:=wc) (cb:=cc) (IntsAt.later HIB.out hf) (HCA.out _ (below_on HB4.out hf)) HDL.out HLC.out (by omega) (by omega);rw [HBU.out] at h9;exact h9
         clear hx2 cb hib hdl hbu hlc;have lgb:gb<wr.heap.size:=Nat.lt_of_lt_of_le hgb HB5.out.size;have lw1:w.heap.size+1<wr.heap.size:=by have:=E5.out.size;have:=HWS.out;omega
         cases bu with
         | false =>
          have HF:=hide (yc7 HWH.out HR1.out HA1.out HS1.out (by rw [HDT.out,HLA.out];exact cU (i:=c) (by rw [HM.out,HMM.out];exact hcM) HBU.out));go_wp2_with fail
          first | (go_region_held3 (fun w'=>w'.cell? ⟨gb,c,none⟩=some (.slice v1 dl wc)∧w'.cell? ⟨w.heap.size+1,2,none⟩=some (.slice ca lc cc)) (go_keep) (first | (go_at_call 47;refine (H47.out _ (below_on HB5.out ((Below.refl _ _).drew))).mono ?_;rintro e w7 ⟨rfl,k7⟩;have E7:=hide (below_on (below_on HB5.out ((Below.refl _ _).drew)) k7);have eb:w7.cell? ⟨gb,c,none⟩=some (.slice v1 dl wc):=((aA (below_on ((Below.refl _ _).drew) k7)).1 _ _ lgb).trans db;have ec:w7.cell? ⟨w.heap.size+1,2,none⟩=some (.slice ca lc cc):=((aA (below_on ((Below.refl _ _).drew) k7)).1 _ _ lw1).trans u2;clear k7) | fail)) | fail
          rename_i hHeld;clear hHeld;go_wp2_with fail;go_ret;exact ⟨by rw [HF.out];rfl,below_on HB4.out E7.out⟩
         | true =>
          go_wp2_with fail
          first | (go_region_held3 (fun w'=>w'.cell? ⟨gb,c,none⟩=some (.slice v1 dl wc)∧w'.cell? ⟨w.heap.size+1,2,none⟩=some (.slice ca lc cc)) (go_keep) (first | (go_at_call 47;refine (H47.out _ (below_on HB5.out ((Below.refl _ _).drew))).mono ?_;rintro e w7 ⟨rfl,k7⟩;have E7:=hide (below_on (below_on HB5.out ((Below.refl _ _).drew)) k7);have eb:w7.cell? ⟨gb,c,none⟩=some (.slice v1 dl wc):=((aA (below_on ((Below.refl _ _).drew) k7)).1 _ _ lgb).trans db;have ec:w7.cell? ⟨w.heap.size+1,2,none⟩=some (.slice ca lc cc):=((aA (below_on ((Below.refl _ _).drew) k7)).1 _ _ lw1).trans u2;clear k7) | fail)) | fail
          rename_i hHeld;clear hHeld;go_wp2_with fail;go_roundw
          case rel=>exact ⟨c+1,by go_num,by omega,yL HUN.out HBU.out,E7.out⟩
          case measure=>simp [intOf];omega
        ·have j1:¬ (c:Int)<(M:Int):=by omega
         have HL1:Hid (cA p p.dims.toNat v V=true):=by show _=_;rw [HDT.out,HLA.out];exact gY fun j hj=>HUN.out j (by rw [HM.out] at hj;have:=HMM.out;omega)
         have E5b:=hide E5.out;have u0:wr.cell? ⟨w.heap.size+1,0,none⟩=some (.int .i64 v.start):=((aA E5.out).1 _ 0 (by rw [HWS.out];omega)).trans (HCV.out 0);have H22:Hid (∀ W2 (k i:Int),Below w.heap.size w W2→Calls Try.prog 22 #[.agg #[.int .i64 p.dims,.int .i64 p.time.n,.slice ta p.time.cells.length tc,.int .i64 p.dist.n,.slice da p.dist.cells.length dc,.slice va' p.vs.length vc',.slice ja p.js.length jc,.slice sa p.ss.length sc],.agg #[.int .i64 k,.int .i64 i]] W2 fun e w'=>∃ y,e=.returned (.tuple #[.agg #[.int .i64 (aS p k i).place,.int .i64 (aS p k i).serv,y],.bool (aI p k i)])∧WinsV w' y (aS p k i).wins∧Below W2.heap.size W2 w'):=fun W2 k i hf=>by have h9:=jM (HP.out.on hf) k i;exact h9
         have H48t:Hid (∀ W2 (f t:Int),Below w.heap.size w W2→Calls Try.prog 48 #[.agg #[.int .i64 p.time.n,.slice ta p.time.cells.length tc],.int .i64 f,.int .i64 t] W2 fun e w'=>e=.returned (.int .i64 (aK p.time f t))∧Below W2.heap.size W2 w'):=fun W2 f t hf=>by have h9:=iA (HP.out.on hf).t (bF HL.out).st f t;exact h9
         have H48d:Hid (∀ W2 (f t:Int),Below w.heap.size w W2→Calls Try.prog 48 #[.agg #[.int .i64 p.dist.n,.slice da p.dist.cells.length dc],.int .i64 f,.int .i64 t] W2 fun e w'=>e=.returned (.int .i64 (aK p.dist f t))∧Below W2.heap.size W2 w'):=fun W2 f t hf=>by have h9:=iA (HP.out.on hf).d (bF HL.out).sd f t;exact h9
         go_wp2_with fail
         go_loopw [18,17] (fun vi vt wq=>∃ i:Nat,vi=.int .i64 i∧vt=.int .i64 ((aB p v V).getD i sz).place∧i≤m+1∧Hid (∀ j,j<i→(decide (0≤aE p.time (aB p v V) (j+1)) && decide (0≤aE p.dist (aB p v V) (j+1)))=true)∧Hid (Below W.heap.size W wq)) (fun vi _ _=>m+1-(intOf vi).toNat)
         case atStart=>exact ⟨0,rfl,by rw [cK];rfl,Nat.zero_le _,fun j hj=>by omega,E5b.out⟩
         case round =>
          obtain ⟨i,rfl,rfl,hi,HLK,HB6⟩:=hrel;obtain ⟨pa,hpa⟩:∃ pa,((aB p v V).getD i sz).place=pa:=⟨_,rfl⟩;have HPA:=hide hpa;rw [hpa];clear hpa
          by_cases him:i≤m
          ·have k1:(i:Int)≤(m:Int):=by omega
           have u1:wr.cell? ⟨w.heap.size+1,1,none⟩=some (.int .i64 v.stop):=((aA HB6.out).1 _ 1 (by rw [HWS.out];omega)).trans (HCV.out 1)
           by_cases him2:i<m
           ·have k2:(i:Int)<(m:Int):=by omega
            have k3:(0:Int)≤(i:Int):=by omega
            have k4:¬ (m:Int)≤(i:Int):=by omega
            obtain ⟨⟨kd,it⟩,hu⟩:∃ u,V[i]? = some u:=⟨_,List.getElem?_eq_getElem (by rw [HM.out];exact him2)⟩;obtain ⟨b,off,rfl,hb,c1,c2,_⟩:=bL HV.out hu;simp only at c1 c2;have HLOW:Hid (∀ wx,Below W.heap.size W wx→(∀ j,wx.cell? ⟨w.heap.size,j,none⟩=(#[.int .i64 p.dims,.int .i64 p.time.n,.slice ta p.time.cells.length tc,.int .i64 p.dist.n,.slice da p.dist.cells.length dc,.slice va' p.vs.length vc',.slice ja p.js.length jc,.slice sa p.ss.length sc]:Array Value)[j]?)∧wx.cell? ⟨b,off+i*2,none⟩=some (.int .i64 kd)∧wx.cell? ⟨b,off+i*2+1,none⟩=some (.int .i64 it)):=fun wx hx=>⟨fun j=>((aA hx).1 _ j (by rw [HWS.out];omega)).trans (HC.out j),((aA (below_on HBW.out hx)).1 _ _ hb).trans c1,((aA (below_on HBW.out hx)).1 _ _ hb).trans c2⟩;have HNP:=hide (zK (v:=v) HWH.out hu);rw [HPA.out] at HNP;clear c1 c2 hu hb;obtain ⟨tv,htv⟩:∃ b,aI p kd it=b:=⟨_,rfl⟩;rw [htv] at HNP;have HTV:=hide htv;clear htv;have nq0:¬ w.heap.size=wr.heap.size:=by have:=HB6.out.size;have:=HWS.out;omega
            have nq1:¬ b=wr.heap.size:=by have:=block_lt_of_cell (HLOW.out _ HB6.out).2.1;intro e;rw [e] at this;exact absurd this (Nat.lt_irrefl _)
            obtain ⟨qp0,qp1,qp2,qp3,qp4,qp5,qp6,qp7⟩:=Mn.c8 ((HLOW.out _ HB6.out).1);have qv0:wr.cell? ⟨b,off+i*2,none⟩=some (.int .i64 kd):=(HLOW.out _ HB6.out).2.1;have qv1:wr.cell? ⟨b,off+i*2+1,none⟩=some (.int .i64 it):=(HLOW.out _ HB6.out).2.2;go_wp2_with fail
            cases tv with
            | true =>
             obtain ⟨pb,hpb⟩:∃ pb,(aS p kd it).place=pb:=⟨_,rfl⟩;have HPBe:=hide hpb;have HPB:Hid (((aB p v V).getD (i+1) sz).place=pb):=by show _=_;rw [HNP.out,if_pos rfl,hpb]
             clear hpb HNP;refine wp_region_held_drew (S:=(fun w'=>w'.cell? ⟨w.heap.size,0,none⟩=some (.int .i64 p.dims)∧w'.cell? ⟨w.heap.size,1,none⟩=some (.int .i64 p.time.n)∧w'.cell? ⟨w.heap.size,2,none⟩=some (.slice ta p.time.cells.length tc)∧w'.cell? ⟨w.heap.size,3,none⟩=some (.int .i64 p.dist.n)∧w'.cell? ⟨w.heap.size,4,none⟩=some (.slice da p.dist.cells.length dc)∧w'.cell? ⟨w.heap.size,5,none⟩=some (.slice va' p.vs.length vc')∧w'.cell? ⟨w.heap.size,6,none⟩=some (.slice ja p.js.length jc)∧w'.cell? ⟨w.heap.size,7,none⟩=some (.slice sa p.ss.length sc)∧w'.cell? ⟨b,off+i*2,none⟩=some (.int .i64 kd)∧w'.cell? ⟨b,off+i*2+1,none⟩=some (.int .i64 it))) (by kernel_rfl) ?_ (fun hHeld0=>?_)
             · (try dsimp only);go_keep
             refine Mn.t 0 ?_;(try simp only [Act.put,Mn.q]);refine Mn.t 1 ?_;(try simp only [Act.put,Mn.q]);refine Mn.t 2 ?_;(try simp only [Act.put,Mn.q]);refine Mn.t 3 ?_;(try simp only [Act.put,Mn.q]);refine Mn.t 4 ?_;(try simp only [Act.put,Mn.q]);refine wpAnyH_ready (rs:=[5,9]) (by kernel_rfl) (by simp) ?_;refine AllReadyH.cons rfl (fun K hK=>?_) ?_
             ·(refine aG (by rfl) 22 _ _ (by rfl) gH [.agg #[.int .i64 p.dims,.int .i64 p.time.n,.slice ta p.time.cells.length tc,.int .i64 p.dist.n,.slice da p.dist.cells.length dc,.slice va' p.vs.length vc',.slice ja p.js.length jc,.slice sa p.ss.length sc],.agg #[.int .i64 kd,.int .i64 it]] (by rfl) ?_;refine (H22.out _ _ _ (below_on (below_on HBW.out HB6.out) ((Below.refl _ _).drew))).mono ?_;rintro e w2 ⟨y,rfl,Q2,k2⟩;refine ⟨_,rfl,?_⟩;obtain ⟨ya,yc,rfl⟩:=Q2.shape;rw [HTV.out];have K2:=hide (below_on ((Below.refl _ _).drew) k2);have E2:=hide (below_on HB6.out K2.out);obtain ⟨sp0,sp1,sp2,sp3,sp4,sp5,sp6,sp7⟩:=Mn.c8 ((HLOW.out _ E2.out).1);have sv0:w2.cell? ⟨b,off+i*2,none⟩=some (.int .i64 kd):=(HLOW.out _ E2.out).2.1;have sv1:w2.cell? ⟨b,off+i*2+1,none⟩=some (.int .i64 it):=(HLOW.out _ E2.out).2.2;have nr0:¬ w.heap.size=w2.heap.size:=(by have:=E2.out.size;have:=HWS.out;omega);have nr1:¬ b=w2.heap.size:=(by have:=block_lt_of_cell (HLOW.out _ E2.out).2.1;intro e9;rw [e9] at this;exact absurd this (Nat.lt_irrefl _));clear k2 Q2)
              refine hK.out _ _ ?_ (fun hHeld1=>?_)
              · (try dsimp only);go_keep
              clear hK K;(try simp only [Act.put,Mn.q]);clear hHeld0;refine Mn.t 6 ?_;(try simp only [Act.put,Mn.q]);refine Mn.t 7 ?_;(try simp only [Act.put,Mn.q]);refine Mn.t 8 ?_;(try simp only [Act.put,Mn.q]);refine wpAnyH_ready (rs:=[9]) (by kernel_rfl) (by simp) ?_;refine AllReadyH.cons rfl (fun K hK=>?_) ?_
              ·go_simp
               refine hK.out _ _ ?_ (fun hHeld2=>?_)
               · (try dsimp only);go_keep
               clear hK K;(try simp only [Act.put,Mn.q]);clear hHeld1;refine wpAnyH_ready (rs:=[10]) (by kernel_rfl) (by simp) ?_;refine AllReadyH.cons rfl (fun K hK=>?_) ?_
               ·go_simp
                refine hK.out _ _ ?_ (fun hHeld3=>?_)
                · (try dsimp only);(first | (go_keep;done) | (refine ⟨?_,?_,?_,?_,?_,?_,?_,?_,?_,?_⟩ <;> (refine bB (w:=w2) ?_ (by assumption);(repeat rw [heap_setCell_other _ _ _ _ (by simp;omega)]))))
                clear hK K;(try simp only [Act.put,Mn.q]);clear hHeld2;refine Mn.t 11 ?_;(try simp only [Act.put,Mn.q]);refine wpAnyH_done (by kernel_rfl) ?_ _;clear hHeld3
                generalize hw3:w2.alloc (.cells #[.int .i64 (aS p kd it).place,.int .i64 (aS p kd it).serv,.slice ya (aS p kd it).wins.length yc] 45)=w3
                have K3:Hid (Below wr.heap.size wr w3):=by show Below _ _ _;rw [← hw3];exact below_on K2.out Mn.a
                have bx:w3.cell? ⟨w2.heap.size,0,none⟩=some (.int .i64 (aS p kd it).place):=by rw [← hw3,cell_of_row _ _ _ _ _ _ (heap_alloc_new w2 _)];rfl
                skip
                clear hw3 K2 E2 nr0 nr1 sp0 sp1 sp2 sp3 sp4 sp5 sp6 sp7 sv0 sv1 qp0 qp1 qp2 qp3 qp4 qp5 qp6 qp7 qv0 qv1 nq0 nq1;have E3:=hide (below_on HB6.out K3.out);obtain ⟨s0,s1,s2,s3,s4,s5,s6,s7⟩:=Mn.c8 (fun j=>((aA E3.out).1 _ j (by rw [HWS.out];omega)).trans (HC.out j));rw [HPBe.out] at bx;obtain ⟨x1,hx1⟩:∃ x1,aK p.time pa pb=x1:=⟨_,rfl⟩;obtain ⟨x2,hx2⟩:∃ x2,aK p.dist pa pb=x2:=⟨_,rfl⟩;have HX1:=hide hx1;have HX2':=hide hx2;have HT1:Hid (aE p.time (aB p v V) (i+1)=x1):=by show _=_;rw [aJ,HPA.out,HPB.out,hx1]
                have HT2:Hid (aE p.dist (aB p v V) (i+1)=x2):=by show _=_;rw [aJ,HPA.out,HPB.out,hx2]
                clear hx1 hx2
                by_cases hn1:x1<0
                · have HF:=hide (dY HWH.out HR1.out HA1.out HS1.out HL1.out (by rw [dB];exact cU (i:=i) (by rw [HM.out];omega) (by rw [HT1.out,decide_eq_false (by omega)];rfl)));go_wp2_with (first | (go_at_call 48;refine (H48t.out _ _ _ (below_on HBW.out E3.out)).mono ?_;rintro e za ⟨rfl,ka⟩;rw [HX1.out];have Ea:=hide (below_on E3.out ka);obtain ⟨z0,z1,z2,z3,z4,z5,z6,z7⟩:=Mn.c8 (fun j=>((aA Ea.out).1 _ j (by rw [HWS.out];omega)).trans (HC.out j));clear ka) | fail);go_ret;exact ⟨by rw [HF.out];rfl,below_on HBW.out Ea.out⟩
                · by_cases hn2:x2<0
                  ·have HF:=hide (dY HWH.out HR1.out HA1.out HS1.out HL1.out (by rw [dB];exact cU (i:=i) (by rw [HM.out];omega) (by rw [HT2.out,decide_eq_false (p:=0≤x2) (by omega),Bool.and_false])));go_wp2_with (first | (go_at_call 48;refine (H48d.out _ _ _ (below_on HBW.out Ea.out)).mono ?_;rintro e zb ⟨rfl,kb⟩;rw [HX2'.out];have Eb:=hide (below_on Ea.out kb);clear kb) | (go_at_call 48;refine (H48t.out _ _ _ (below_on HBW.out E3.out)).mono ?_;rintro e za ⟨rfl,ka⟩;rw [HX1.out];have Ea:=hide (below_on E3.out ka);obtain ⟨z0,z1,z2,z3,z4,z5,z6,z7⟩:=Mn.c8 (fun j=>((aA Ea.out).1 _ j (by rw [HWS.out];omega)).trans (HC.out j));clear ka) | fail);go_ret;exact ⟨by rw [HF.out];rfl,below_on HBW.out Eb.out⟩
                  ·go_wp2_with (first | (go_at_call 48;refine (H48d.out _ _ _ (below_on HBW.out Ea.out)).mono ?_;rintro e zb ⟨rfl,kb⟩;rw [HX2'.out];have Eb:=hide (below_on Ea.out kb);clear kb) | (go_at_call 48;refine (H48t.out _ _ _ (below_on HBW.out E3.out)).mono ?_;rintro e za ⟨rfl,ka⟩;rw [HX1.out];have Ea:=hide (below_on E3.out ka);obtain ⟨z0,z1,z2,z3,z4,z5,z6,z7⟩:=Mn.c8 (fun j=>((aA Ea.out).1 _ j (by rw [HWS.out];omega)).trans (HC.out j));clear ka) | fail);go_roundw
                   case rel=>exact ⟨i+1,by go_num,by rw [HPB.out],by omega,iB HLK.out (by rw [HT1.out,HT2.out,decide_eq_true (p:=0≤x1) (by omega),decide_eq_true (p:=0≤x2) (by omega)];rfl),Eb.out⟩
                   case measure=>simp [intOf];omega
               exact AllReadyH.nil
              exact AllReadyH.nil
             refine AllReadyH.cons rfl (fun K hK=>?_) ?_
             ·go_simp
              refine hK.out _ _ ?_ (fun hHeld4=>?_)
              · (try dsimp only);go_keep
              clear hK K;(try simp only [Act.put,Mn.q]);clear hHeld0;refine wpAnyH_ready (rs:=[5]) (by kernel_rfl) (by simp) ?_;refine AllReadyH.cons rfl (fun K hK=>?_) ?_
              ·(refine aG (by rfl) 22 _ _ (by rfl) gH [.agg #[.int .i64 p.dims,.int .i64 p.time.n,.slice ta p.time.cells.length tc,.int .i64 p.dist.n,.slice da p.dist.cells.length dc,.slice va' p.vs.length vc',.slice ja p.js.length jc,.slice sa p.ss.length sc],.agg #[.int .i64 kd,.int .i64 it]] (by rfl) ?_;refine (H22.out _ _ _ (below_on (below_on HBW.out HB6.out) (below_on ((Below.refl _ _).drew) Mn.a))).mono ?_;rintro e w2 ⟨y,rfl,Q2,k2⟩;refine ⟨_,rfl,?_⟩;obtain ⟨ya,yc,rfl⟩:=Q2.shape;rw [HTV.out];have K2:=hide (below_on (below_on ((Below.refl _ _).drew) Mn.a) k2);have E2:=hide (below_on HB6.out K2.out);obtain ⟨sp0,sp1,sp2,sp3,sp4,sp5,sp6,sp7⟩:=Mn.c8 ((HLOW.out _ E2.out).1);have sv0:w2.cell? ⟨b,off+i*2,none⟩=some (.int .i64 kd):=(HLOW.out _ E2.out).2.1;have sv1:w2.cell? ⟨b,off+i*2+1,none⟩=some (.int .i64 it):=(HLOW.out _ E2.out).2.2;have nr0:¬ w.heap.size=w2.heap.size:=(by have:=E2.out.size;have:=HWS.out;omega);have nr1:¬ b=w2.heap.size:=(by have:=block_lt_of_cell (HLOW.out _ E2.out).2.1;intro e9;rw [e9] at this;exact absurd this (Nat.lt_irrefl _));have HX2:Hid (w2.heap[wr.heap.size]? = some (.cells #[.int .i64 0,.int .i64 0,.slice none 0 0] 45)):=(k2.block _ (by simp)).trans (heap_alloc_new wr.drew _);obtain ⟨gc0,gc1,gc2,gf0,gf1,gf2⟩:=Mn.x3 (HX2.out);clear k2 Q2)
               refine hK.out _ _ ?_ (fun hHeld5=>?_)
               · (try dsimp only);go_keep
               clear hK K;(try simp only [Act.put,Mn.q]);clear hHeld4;refine Mn.t 6 ?_;(try simp only [Act.put,Mn.q]);refine Mn.t 7 ?_;(try simp only [Act.put,Mn.q]);refine Mn.t 8 ?_;(try simp only [Act.put,Mn.q]);refine wpAnyH_ready (rs:=[10]) (by kernel_rfl) (by simp) ?_;refine AllReadyH.cons rfl (fun K hK=>?_) ?_
               ·go_simp
                refine hK.out _ _ ?_ (fun hHeld6=>?_)
                · (try dsimp only);(first | (go_keep;done) | (refine ⟨?_,?_,?_,?_,?_,?_,?_,?_,?_,?_⟩ <;> (refine bB (w:=w2) ?_ (by assumption);(repeat rw [heap_setCell_other _ _ _ _ (by simp;omega)]))))
                clear hK K;(try simp only [Act.put,Mn.q]);clear hHeld5;refine Mn.t 11 ?_;(try simp only [Act.put,Mn.q]);refine wpAnyH_done (by kernel_rfl) ?_ _;clear hHeld6
                generalize hw3:((w2.setCell ⟨wr.heap.size,0,none⟩ (.int .i64 (aS p kd it).place)).setCell ⟨wr.heap.size,1,none⟩ (.int .i64 (aS p kd it).serv)).setCell ⟨wr.heap.size,2,none⟩ (.slice ya (aS p kd it).wins.length yc)=w3
                have K3:Hid (Below wr.heap.size wr w3):=by show Below _ _ _;rw [← hw3];exact ((K2.out.setCell (Nat.le_refl _) _).setCell (Nat.le_refl _) _).setCell (Nat.le_refl _) _
                have bx:w3.cell? ⟨wr.heap.size,0,none⟩=some (.int .i64 (aS p kd it).place):=by rw [← hw3];have h0:=heap_setCell_same w2 wr.heap.size 0 _ _ (.int .i64 (aS p kd it).place) HX2.out;have h1:=heap_setCell_same _ wr.heap.size 1 _ _ (.int .i64 (aS p kd it).serv) h0;have h2:=heap_setCell_same _ wr.heap.size 2 _ _ (.slice ya (aS p kd it).wins.length yc) h1;rw [cell_of_row _ _ _ _ _ _ h2];rfl
                clear gc0 gf0 gc1 gf1 gc2 gf2 HX2;clear hw3 K2 E2 nr0 nr1 sp0 sp1 sp2 sp3 sp4 sp5 sp6 sp7 sv0 sv1 qp0 qp1 qp2 qp3 qp4 qp5 qp6 qp7 qv0 qv1 nq0 nq1;have E3:=hide (below_on HB6.out K3.out);obtain ⟨s0,s1,s2,s3,s4,s5,s6,s7⟩:=Mn.c8 (fun j=>((aA E3.out).1 _ j (by rw [HWS.out];omega)).trans (HC.out j));rw [HPBe.out] at bx;obtain ⟨x1,hx1⟩:∃ x1,aK p.time pa pb=x1:=⟨_,rfl⟩;obtain ⟨x2,hx2⟩:∃ x2,aK p.dist pa pb=x2:=⟨_,rfl⟩;have HX1:=hide hx1;have HX2':=hide hx2;have HT1:Hid (aE p.time (aB p v V) (i+1)=x1):=by show _=_;rw [aJ,HPA.out,HPB.out,hx1]
                have HT2:Hid (aE p.dist (aB p v V) (i+1)=x2):=by show _=_;rw [aJ,HPA.out,HPB.out,hx2]
                clear hx1 hx2
                by_cases hn1:x1<0
                · have HF:=hide (dY HWH.out HR1.out HA1.out HS1.out HL1.out (by rw [dB];exact cU (i:=i) (by rw [HM.out];omega) (by rw [HT1.out,decide_eq_false (by omega)];rfl)));go_wp2_with (first | (go_at_call 48;refine (H48t.out _ _ _ (below_on HBW.out E3.out)).mono ?_;rintro e za ⟨rfl,ka⟩;rw [HX1.out];have Ea:=hide (below_on E3.out ka);obtain ⟨z0,z1,z2,z3,z4,z5,z6,z7⟩:=Mn.c8 (fun j=>((aA Ea.out).1 _ j (by rw [HWS.out];omega)).trans (HC.out j));clear ka) | fail);go_ret;exact ⟨by rw [HF.out];rfl,below_on HBW.out Ea.out⟩
                · by_cases hn2:x2<0
                  ·have HF:=hide (dY HWH.out HR1.out HA1.out HS1.out HL1.out (by rw [dB];exact cU (i:=i) (by rw [HM.out];omega) (by rw [HT2.out,decide_eq_false (p:=0≤x2) (by omega),Bool.and_false])));go_wp2_with (first | (go_at_call 48;refine (H48d.out _ _ _ (below_on HBW.out Ea.out)).mono ?_;rintro e zb ⟨rfl,kb⟩;rw [HX2'.out];have Eb:=hide (below_on Ea.out kb);clear kb) | (go_at_call 48;refine (H48t.out _ _ _ (below_on HBW.out E3.out)).mono ?_;rintro e za ⟨rfl,ka⟩;rw [HX1.out];have Ea:=hide (below_on E3.out ka);obtain ⟨z0,z1,z2,z3,z4,z5,z6,z7⟩:=Mn.c8 (fun j=>((aA Ea.out).1 _ j (by rw [HWS.out];omega)).trans (HC.out j));clear ka) | fail);go_ret;exact ⟨by rw [HF.out];rfl,below_on HBW.out Eb.out⟩
                  ·go_wp2_with (first | (go_at_call 48;refine (H48d.out _ _ _ (below_on HBW.out Ea.out)).mono ?_;rintro e zb ⟨rfl,kb⟩;rw [HX2'.out];have Eb:=hide (below_on Ea.out kb);clear kb) | (go_at_call 48;refine (H48t.out _ _ _ (below_on HBW.out E3.out)).mono ?_;rintro e za ⟨rfl,ka⟩;rw [HX1.out];have Ea:=hide (below_on E3.out ka);obtain ⟨z0,z1,z2,z3,z4,z5,z6,z7⟩:=Mn.c8 (fun j=>((aA Ea.out).1 _ j (by rw [HWS.out];omega)).trans (HC.out j));clear ka) | fail);go_roundw
                   case rel=>exact ⟨i+1,by go_num,by rw [HPB.out],by omega,iB HLK.out (by rw [HT1.out,HT2.out,decide_eq_true (p:=0≤x1) (by omega),decide_eq_true (p:=0≤x2) (by omega)];rfl),Eb.out⟩
                   case measure=>simp [intOf];omega
               exact AllReadyH.nil
              exact AllReadyH.nil
             exact AllReadyH.nil
            | false =>
             obtain ⟨pb,hpb⟩:∃ pb,pa=pb:=⟨_,rfl⟩;have HPB:Hid (((aB p v V).getD (i+1) sz).place=pb):=by show _=_;rw [HNP.out,if_neg (by decide),hpb]
             subst hpb;obtain ⟨pb,hpb⟩:∃ pb,pb=pa:=⟨_,rfl⟩;have HPB:Hid (((aB p v V).getD (i+1) sz).place=pa):=HPB.out;clear hpb HNP;refine wp_region_held_drew (S:=(fun w'=>w'.cell? ⟨w.heap.size,0,none⟩=some (.int .i64 p.dims)∧w'.cell? ⟨w.heap.size,1,none⟩=some (.int .i64 p.time.n)∧w'.cell? ⟨w.heap.size,2,none⟩=some (.slice ta p.time.cells.length tc)∧w'.cell? ⟨w.heap.size,3,none⟩=some (.int .i64 p.dist.n)∧w'.cell? ⟨w.heap.size,4,none⟩=some (.slice da p.dist.cells.length dc)∧w'.cell? ⟨w.heap.size,5,none⟩=some (.slice va' p.vs.length vc')∧w'.cell? ⟨w.heap.size,6,none⟩=some (.slice ja p.js.length jc)∧w'.cell? ⟨w.heap.size,7,none⟩=some (.slice sa p.ss.length sc)∧w'.cell? ⟨b,off+i*2,none⟩=some (.int .i64 kd)∧w'.cell? ⟨b,off+i*2+1,none⟩=some (.int .i64 it))) (by kernel_rfl) ?_ (fun hHeld0=>?_)
             · (try dsimp only);go_keep
             refine Mn.t 0 ?_;(try simp only [Act.put,Mn.q]);refine Mn.t 1 ?_;(try simp only [Act.put,Mn.q]);refine Mn.t 2 ?_;(try simp only [Act.put,Mn.q]);refine Mn.t 3 ?_;(try simp only [Act.put,Mn.q]);refine Mn.t 4 ?_;(try simp only [Act.put,Mn.q]);refine wpAnyH_ready (rs:=[5,9]) (by kernel_rfl) (by simp) ?_;refine AllReadyH.cons rfl (fun K hK=>?_) ?_
             ·(refine aG (by rfl) 22 _ _ (by rfl) gH [.agg #[.int .i64 p.dims,.int .i64 p.time.n,.slice ta p.time.cells.length tc,.int .i64 p.dist.n,.slice da p.dist.cells.length dc,.slice va' p.vs.length vc',.slice ja p.js.length jc,.slice sa p.ss.length sc],.agg #[.int .i64 kd,.int .i64 it]] (by rfl) ?_;refine (H22.out _ _ _ (below_on (below_on HBW.out HB6.out) ((Below.refl _ _).drew))).mono ?_;rintro e w2 ⟨y,rfl,Q2,k2⟩;refine ⟨_,rfl,?_⟩;obtain ⟨ya,yc,rfl⟩:=Q2.shape;rw [HTV.out];have K2:=hide (below_on ((Below.refl _ _).drew) k2);have E2:=hide (below_on HB6.out K2.out);obtain ⟨sp0,sp1,sp2,sp3,sp4,sp5,sp6,sp7⟩:=Mn.c8 ((HLOW.out _ E2.out).1);have sv0:w2.cell? ⟨b,off+i*2,none⟩=some (.int .i64 kd):=(HLOW.out _ E2.out).2.1;have sv1:w2.cell? ⟨b,off+i*2+1,none⟩=some (.int .i64 it):=(HLOW.out _ E2.out).2.2;have nr0:¬ w.heap.size=w2.heap.size:=(by have:=E2.out.size;have:=HWS.out;omega);have nr1:¬ b=w2.heap.size:=(by have:=block_lt_of_cell (HLOW.out _ E2.out).2.1;intro e9;rw [e9] at this;exact absurd this (Nat.lt_irrefl _));clear k2 Q2)
              refine hK.out _ _ ?_ (fun hHeld1=>?_)
              · (try dsimp only);go_keep
              clear hK K;(try simp only [Act.put,Mn.q]);clear hHeld0;refine Mn.t 6 ?_;(try simp only [Act.put,Mn.q]);refine Mn.t 7 ?_;(try simp only [Act.put,Mn.q]);refine Mn.t 8 ?_;(try simp only [Act.put,Mn.q]);refine wpAnyH_ready (rs:=[9]) (by kernel_rfl) (by simp) ?_;refine AllReadyH.cons rfl (fun K hK=>?_) ?_
              ·go_simp
               refine hK.out _ _ ?_ (fun hHeld2=>?_)
               · (try dsimp only);go_keep
               clear hK K;(try simp only [Act.put,Mn.q]);clear hHeld1;refine wpAnyH_ready (rs:=[10]) (by kernel_rfl) (by simp) ?_;refine AllReadyH.cons rfl (fun K hK=>?_) ?_
               ·go_simp
                refine hK.out _ _ ?_ (fun hHeld3=>?_)
                · (try dsimp only);(first | (go_keep;done) | (refine ⟨?_,?_,?_,?_,?_,?_,?_,?_,?_,?_⟩ <;> (refine bB (w:=w2) ?_ (by assumption);(repeat rw [heap_setCell_other _ _ _ _ (by simp;omega)]))))
                clear hK K;(try simp only [Act.put,Mn.q]);clear hHeld2;refine Mn.t 11 ?_;(try simp only [Act.put,Mn.q]);refine wpAnyH_done (by kernel_rfl) ?_ _;clear hHeld3
                generalize hw3:w2.alloc (.cells #[.int .i64 (aS p kd it).place,.int .i64 (aS p kd it).serv,.slice ya (aS p kd it).wins.length yc] 45)=w3
                have K3:Hid (Below wr.heap.size wr w3):=by show Below _ _ _;rw [← hw3];exact below_on K2.out Mn.a
                have bx:w3.cell? ⟨w2.heap.size,0,none⟩=some (.int .i64 (aS p kd it).place):=by rw [← hw3,cell_of_row _ _ _ _ _ _ (heap_alloc_new w2 _)];rfl
                skip
                clear hw3 K2 E2 nr0 nr1 sp0 sp1 sp2 sp3 sp4 sp5 sp6 sp7 sv0 sv1 qp0 qp1 qp2 qp3 qp4 qp5 qp6 qp7 qv0 qv1 nq0 nq1;have E3:=hide (below_on HB6.out K3.out);obtain ⟨s0,s1,s2,s3,s4,s5,s6,s7⟩:=Mn.c8 (fun j=>((aA E3.out).1 _ j (by rw [HWS.out];omega)).trans (HC.out j));obtain ⟨x1,hx1⟩:∃ x1,aK p.time pa pa=x1:=⟨_,rfl⟩;obtain ⟨x2,hx2⟩:∃ x2,aK p.dist pa pa=x2:=⟨_,rfl⟩;have HX1:=hide hx1;have HX2':=hide hx2;have HT1:Hid (aE p.time (aB p v V) (i+1)=x1):=by show _=_;rw [aJ,HPA.out,HPB.out,hx1]
                have HT2:Hid (aE p.dist (aB p v V) (i+1)=x2):=by show _=_;rw [aJ,HPA.out,HPB.out,hx2]
                clear hx1 hx2
                by_cases hn1:x1<0
                · have HF:=hide (dY HWH.out HR1.out HA1.out HS1.out HL1.out (by rw [dB];exact cU (i:=i) (by rw [HM.out];omega) (by rw [HT1.out,decide_eq_false (by omega)];rfl)));go_wp2_with (first | (go_at_call 48;refine (H48t.out _ _ _ (below_on HBW.out E3.out)).mono ?_;rintro e za ⟨rfl,ka⟩;rw [HX1.out];have Ea:=hide (below_on E3.out ka);obtain ⟨z0,z1,z2,z3,z4,z5,z6,z7⟩:=Mn.c8 (fun j=>((aA Ea.out).1 _ j (by rw [HWS.out];omega)).trans (HC.out j));clear ka) | fail);go_ret;exact ⟨by rw [HF.out];rfl,below_on HBW.out Ea.out⟩
                · by_cases hn2:x2<0
                  ·have HF:=hide (dY HWH.out HR1.out HA1.out HS1.out HL1.out (by rw [dB];exact cU (i:=i) (by rw [HM.out];omega) (by rw [HT2.out,decide_eq_false (p:=0≤x2) (by omega),Bool.and_false])));go_wp2_with (first | (go_at_call 48;refine (H48d.out _ _ _ (below_on HBW.out Ea.out)).mono ?_;rintro e zb ⟨rfl,kb⟩;rw [HX2'.out];have Eb:=hide (below_on Ea.out kb);clear kb) | (go_at_call 48;refine (H48t.out _ _ _ (below_on HBW.out E3.out)).mono ?_;rintro e za ⟨rfl,ka⟩;rw [HX1.out];have Ea:=hide (below_on E3.out ka);obtain ⟨z0,z1,z2,z3,z4,z5,z6,z7⟩:=Mn.c8 (fun j=>((aA Ea.out).1 _ j (by rw [HWS.out];omega)).trans (HC.out j));clear ka) | fail);go_ret;exact ⟨by rw [HF.out];rfl,below_on HBW.out Eb.out⟩
                  ·go_wp2_with (first | (go_at_call 48;refine (H48d.out _ _ _ (below_on HBW.out Ea.out)).mono ?_;rintro e zb ⟨rfl,kb⟩;rw [HX2'.out];have Eb:=hide (below_on Ea.out kb);clear kb) | (go_at_call 48;refine (H48t.out _ _ _ (below_on HBW.out E3.out)).mono ?_;rintro e za ⟨rfl,ka⟩;rw [HX1.out];have Ea:=hide (below_on E3.out ka);obtain ⟨z0,z1,z2,z3,z4,z5,z6,z7⟩:=Mn.c8 (fun j=>((aA Ea.out).1 _ j (by rw [HWS.out];omega)).trans (HC.out j));clear ka) | fail);go_roundw
                   case rel=>exact ⟨i+1,by go_num,by rw [HPB.out],by omega,iB HLK.out (by rw [HT1.out,HT2.out,decide_eq_true (p:=0≤x1) (by omega),decide_eq_true (p:=0≤x2) (by omega)];rfl),Eb.out⟩
                   case measure=>simp [intOf];omega
               exact AllReadyH.nil
              exact AllReadyH.nil
             refine AllReadyH.cons rfl (fun K hK=>?_) ?_
             ·go_simp
              refine hK.out _ _ ?_ (fun hHeld4=>?_)
              · (try dsimp only);go_keep
              clear hK K;(try simp only [Act.put,Mn.q]);clear hHeld0;refine wpAnyH_ready (rs:=[5]) (by kernel_rfl) (by simp) ?_;refine AllReadyH.cons rfl (fun K hK=>?_) ?_
              ·(refine aG (by rfl) 22 _ _ (by rfl) gH [.agg #[.int .i64 p.dims,.int .i64 p.time.n,.slice ta p.time.cells.length tc,.int .i64 p.dist.n,.slice da p.dist.cells.length dc,.slice va' p.vs.length vc',.slice ja p.js.length jc,.slice sa p.ss.length sc],.agg #[.int .i64 kd,.int .i64 it]] (by rfl) ?_;refine (H22.out _ _ _ (below_on (below_on HBW.out HB6.out) (below_on ((Below.refl _ _).drew) Mn.a))).mono ?_;rintro e w2 ⟨y,rfl,Q2,k2⟩;refine ⟨_,rfl,?_⟩;obtain ⟨ya,yc,rfl⟩:=Q2.shape;rw [HTV.out];have K2:=hide (below_on (below_on ((Below.refl _ _).drew) Mn.a) k2);have E2:=hide (below_on HB6.out K2.out);obtain ⟨sp0,sp1,sp2,sp3,sp4,sp5,sp6,sp7⟩:=Mn.c8 ((HLOW.out _ E2.out).1);have sv0:w2.cell? ⟨b,off+i*2,none⟩=some (.int .i64 kd):=(HLOW.out _ E2.out).2.1;have sv1:w2.cell? ⟨b,off+i*2+1,none⟩=some (.int .i64 it):=(HLOW.out _ E2.out).2.2;have nr0:¬ w.heap.size=w2.heap.size:=(by have:=E2.out.size;have:=HWS.out;omega);have nr1:¬ b=w2.heap.size:=(by have:=block_lt_of_cell (HLOW.out _ E2.out).2.1;intro e9;rw [e9] at this;exact absurd this (Nat.lt_irrefl _));have HX2:Hid (w2.heap[wr.heap.size]? = some (.cells #[.int .i64 0,.int .i64 0,.slice none 0 0] 45)):=(k2.block _ (by simp)).trans (heap_alloc_new wr.drew _);obtain ⟨gc0,gc1,gc2,gf0,gf1,gf2⟩:=Mn.x3 (HX2.out);clear k2 Q2)
               refine hK.out _ _ ?_ (fun hHeld5=>?_)
               · (try dsimp only);go_keep
               clear hK K;(try simp only [Act.put,Mn.q]);clear hHeld4;refine Mn.t 6 ?_;(try simp only [Act.put,Mn.q]);refine Mn.t 7 ?_;(try simp only [Act.put,Mn.q]);refine Mn.t 8 ?_;(try simp only [Act.put,Mn.q]);refine wpAnyH_ready (rs:=[10]) (by kernel_rfl) (by simp) ?_;refine AllReadyH.cons rfl (fun K hK=>?_) ?_
               ·go_simp
                refine hK.out _ _ ?_ (fun hHeld6=>?_)
                · (try dsimp only);(first | (go_keep;done) | (refine ⟨?_,?_,?_,?_,?_,?_,?_,?_,?_,?_⟩ <;> (refine bB (w:=w2) ?_ (by assumption);(repeat rw [heap_setCell_other _ _ _ _ (by simp;omega)]))))
                clear hK K;(try simp only [Act.put,Mn.q]);clear hHeld5;refine Mn.t 11 ?_;(try simp only [Act.put,Mn.q]);refine wpAnyH_done (by kernel_rfl) ?_ _;clear hHeld6
                generalize hw3:((w2.setCell ⟨wr.heap.size,0,none⟩ (.int .i64 (aS p kd it).place)).setCell ⟨wr.heap.size,1,none⟩ (.int .i64 (aS p kd it).serv)).setCell ⟨wr.heap.size,2,none⟩ (.slice ya (aS p kd it).wins.length yc)=w3
                have K3:Hid (Below wr.heap.size wr w3):=by show Below _ _ _;rw [← hw3];exact ((K2.out.setCell (Nat.le_refl _) _).setCell (Nat.le_refl _) _).setCell (Nat.le_refl _) _
                have bx:w3.cell? ⟨wr.heap.size,0,none⟩=some (.int .i64 (aS p kd it).place):=by rw [← hw3];have h0:=heap_setCell_same w2 wr.heap.size 0 _ _ (.int .i64 (aS p kd it).place) HX2.out;have h1:=heap_setCell_same _ wr.heap.size 1 _ _ (.int .i64 (aS p kd it).serv) h0;have h2:=heap_setCell_same _ wr.heap.size 2 _ _ (.slice ya (aS p kd it).wins.length yc) h1;rw [cell_of_row _ _ _ _ _ _ h2];rfl
                clear gc0 gf0 gc1 gf1 gc2 gf2 HX2;clear hw3 K2 E2 nr0 nr1 sp0 sp1 sp2 sp3 sp4 sp5 sp6 sp7 sv0 sv1 qp0 qp1 qp2 qp3 qp4 qp5 qp6 qp7 qv0 qv1 nq0 nq1;have E3:=hide (below_on HB6.out K3.out);obtain ⟨s0,s1,s2,s3,s4,s5,s6,s7⟩:=Mn.c8 (fun j=>((aA E3.out).1 _ j (by rw [HWS.out];omega)).trans (HC.out j));obtain ⟨x1,hx1⟩:∃ x1,aK p.time pa pa=x1:=⟨_,rfl⟩;obtain ⟨x2,hx2⟩:∃ x2,aK p.dist pa pa=x2:=⟨_,rfl⟩;have HX1:=hide hx1;have HX2':=hide hx2;have HT1:Hid (aE p.time (aB p v V) (i+1)=x1):=by show _=_;rw [aJ,HPA.out,HPB.out,hx1]
                have HT2:Hid (aE p.dist (aB p v V) (i+1)=x2):=by show _=_;rw [aJ,HPA.out,HPB.out,hx2]
                clear hx1 hx2
                by_cases hn1:x1<0
                · have HF:=hide (dY HWH.out HR1.out HA1.out HS1.out HL1.out (by rw [dB];exact cU (i:=i) (by rw [HM.out];omega) (by rw [HT1.out,decide_eq_false (by omega)];rfl)));go_wp2_with (first | (go_at_call 48;refine (H48t.out _ _ _ (below_on HBW.out E3.out)).mono ?_;rintro e za ⟨rfl,ka⟩;rw [HX1.out];have Ea:=hide (below_on E3.out ka);obtain ⟨z0,z1,z2,z3,z4,z5,z6,z7⟩:=Mn.c8 (fun j=>((aA Ea.out).1 _ j (by rw [HWS.out];omega)).trans (HC.out j));clear ka) | fail);go_ret;exact ⟨by rw [HF.out];rfl,below_on HBW.out Ea.out⟩
                · by_cases hn2:x2<0
                  ·have HF:=hide (dY HWH.out HR1.out HA1.out HS1.out HL1.out (by rw [dB];exact cU (i:=i) (by rw [HM.out];omega) (by rw [HT2.out,decide_eq_false (p:=0≤x2) (by omega),Bool.and_false])));go_wp2_with (first | (go_at_call 48;refine (H48d.out _ _ _ (below_on HBW.out Ea.out)).mono ?_;rintro e zb ⟨rfl,kb⟩;rw [HX2'.out];have Eb:=hide (below_on Ea.out kb);clear kb) | (go_at_call 48;refine (H48t.out _ _ _ (below_on HBW.out E3.out)).mono ?_;rintro e za ⟨rfl,ka⟩;rw [HX1.out];have Ea:=hide (below_on E3.out ka);obtain ⟨z0,z1,z2,z3,z4,z5,z6,z7⟩:=Mn.c8 (fun j=>((aA Ea.out).1 _ j (by rw [HWS.out];omega)).trans (HC.out j));clear ka) | fail);go_ret;exact ⟨by rw [HF.out];rfl,below_on HBW.out Eb.out⟩
                  ·go_wp2_with (first | (go_at_call 48;refine (H48d.out _ _ _ (below_on HBW.out Ea.out)).mono ?_;rintro e zb ⟨rfl,kb⟩;rw [HX2'.out];have Eb:=hide (below_on Ea.out kb);clear kb) | (go_at_call 48;refine (H48t.out _ _ _ (below_on HBW.out E3.out)).mono ?_;rintro e za ⟨rfl,ka⟩;rw [HX1.out];have Ea:=hide (below_on E3.out ka);obtain ⟨z0,z1,z2,z3,z4,z5,z6,z7⟩:=Mn.c8 (fun j=>((aA Ea.out).1 _ j (by rw [HWS.out];omega)).trans (HC.out j));clear ka) | fail);go_roundw
                   case rel=>exact ⟨i+1,by go_num,by rw [HPB.out],by omega,iB HLK.out (by rw [HT1.out,HT2.out,decide_eq_true (p:=0≤x1) (by omega),decide_eq_true (p:=0≤x2) (by omega)];rfl),Eb.out⟩
                   case measure=>simp [intOf];omega
               exact AllReadyH.nil
              exact AllReadyH.nil
             exact AllReadyH.nil
           ·have k2:¬ (i:Int)<(m:Int):=by omega
            have hie:i=m:=by omega
            obtain ⟨pb,hpb⟩:∃ pb,v.stop=pb:=⟨_,rfl⟩;have HPB:Hid (((aB p v V).getD (i+1) sz).place=pb):=by show _=_;rw [hie,← HM.out,fQ];exact hpb
            rw [hpb] at u1;clear hpb hie;obtain ⟨q0,q1,q2,q3,q4,q5,q6,q7⟩:=Mn.c8 (fun j=>((aA HB6.out).1 _ j (by rw [HWS.out];omega)).trans (HC.out j));obtain ⟨x1,hx1⟩:∃ x1,aK p.time pa pb=x1:=⟨_,rfl⟩;obtain ⟨x2,hx2⟩:∃ x2,aK p.dist pa pb=x2:=⟨_,rfl⟩;have HX1:=hide hx1;have HX2':=hide hx2;have HT1:Hid (aE p.time (aB p v V) (i+1)=x1):=by show _=_;rw [aJ,HPA.out,HPB.out,hx1]
            have HT2:Hid (aE p.dist (aB p v V) (i+1)=x2):=by show _=_;rw [aJ,HPA.out,HPB.out,hx2]
            clear hx1 hx2
            by_cases hn1:x1<0
            ·have HF:=hide (dY HWH.out HR1.out HA1.out HS1.out HL1.out (by rw [dB];exact cU (i:=i) (by rw [HM.out];omega) (by rw [HT1.out,decide_eq_false (by omega)];rfl)));go_wp2_with (first | (go_at_call 48;refine (H48t.out _ _ _ (below_on HBW.out HB6.out)).mono ?_;rintro e za ⟨rfl,ka⟩;rw [HX1.out];have Ea:=hide (below_on HB6.out ka);obtain ⟨z0,z1,z2,z3,z4,z5,z6,z7⟩:=Mn.c8 (fun j=>((aA Ea.out).1 _ j (by rw [HWS.out];omega)).trans (HC.out j));clear ka) | fail);go_ret;exact ⟨by rw [HF.out];rfl,below_on HBW.out Ea.out⟩
            ·by_cases hn2:x2<0
             · have HF:=hide (dY HWH.out HR1.out HA1.out HS1.out HL1.out (by rw [dB];exact cU (i:=i) (by rw [HM.out];omega) (by rw [HT2.out,decide_eq_false (p:=0≤x2) (by omega),Bool.and_false])));go_wp2_with (first | (go_at_call 48;refine (H48d.out _ _ _ (below_on HBW.out Ea.out)).mono ?_;rintro e zb ⟨rfl,kb⟩;rw [HX2'.out];have Eb:=hide (below_on Ea.out kb);clear kb) | (go_at_call 48;refine (H48t.out _ _ _ (below_on HBW.out HB6.out)).mono ?_;rintro e za ⟨rfl,ka⟩;rw [HX1.out];have Ea:=hide (below_on HB6.out ka);obtain ⟨z0,z1,z2,z3,z4,z5,z6,z7⟩:=Mn.c8 (fun j=>((aA Ea.out).1 _ j (by rw [HWS.out];omega)).trans (HC.out j));clear ka) | fail);go_ret;exact ⟨by rw [HF.out];rfl,below_on HBW.out Eb.out⟩
             · go_wp2_with (first | (go_at_call 48;refine (H48d.out _ _ _ (below_on HBW.out Ea.out)).mono ?_;rintro e zb ⟨rfl,kb⟩;rw [HX2'.out];have Eb:=hide (below_on Ea.out kb);clear kb) | (go_at_call 48;refine (H48t.out _ _ _ (below_on HBW.out HB6.out)).mono ?_;rintro e za ⟨rfl,ka⟩;rw [HX1.out];have Ea:=hide (below_on HB6.out ka);obtain ⟨z0,z1,z2,z3,z4,z5,z6,z7⟩:=Mn.c8 (fun j=>((aA Ea.out).1 _ j (by rw [HWS.out];omega)).trans (HC.out j));clear ka) | fail);go_roundw
               case rel=>exact ⟨i+1,by go_num,by rw [HPB.out],by omega,iB HLK.out (by rw [HT1.out,HT2.out,decide_eq_true (p:=0≤x1) (by omega),decide_eq_true (p:=0≤x2) (by omega)];rfl),Eb.out⟩
               case measure=>simp [intOf];omega
          ·have k1:¬ (i:Int)≤(m:Int):=by omega
           have HF:=hide (first_0 HWH.out HR1.out HA1.out HS1.out HL1.out (by rw [dB];exact gY fun j hj=>HLK.out j (by rw [HM.out] at hj;omega)));go_wp2_with fail;go_ret;exact ⟨by rw [HF.out];rfl,below_on HBW.out HB6.out⟩
      ·have y3:(tk:Int)>v.maxT:=by omega
       have y4:v.maxT<(tk:Int):=by omega
       have HF:=hide (yc8 HWH.out HR1.out HA1.out (by rw [HSMv.out,decide_eq_false hmx]));go_wp2_with fail;go_ret;exact ⟨by rw [HF.out];rfl,HBr.out⟩
     ·have y2:((an:Int) != 0)=true:=by simp;omega
      have HF:=hide (ydA HWH.out HR1.out (by rw [HAB.out,decide_eq_false (fun h=>hab (hcz.2 h))]));go_wp2_with fail;go_ret;exact ⟨by rw [HF.out];rfl,HBr.out⟩
    ·have y1:((n:Int) != (nb:Int))=true:=by simp;omega
     have HF:=hide (tY (v:=v) HWH.out (by rw [HNB.out,HRE.out,decide_eq_false hnn]));go_wp2_with fail;go_ret;exact ⟨by rw [HF.out];rfl,HBr.out⟩
end Go.Proofs.Ytgjpkpmikbpcnaa
