import Derived.Test.YtgjpkpmikbpcnaaOCpVG
namespace Go.Proofs.Ytgjpkpmikbpcnaa
open Go.RowKit
structure CpT (w0 w:World) (bx:Nat) (p:Prb) (x:aU):Prop where
 low:Below w0.heap.size w0 w
 sz:bx+2≤w.heap.size
 box:w.heap[bx]? = some (.cells (aL p x) 29 (0,0))
 res:w.heap[bx+1]? = some (.cells yaI 29 (0,0))
 t:w.ownsRow (bx+2) 3 1 x.t p.time.cells.length (intsV p.time.cells)
 d:w.ownsRow (bx+2) 3 1 x.d p.dist.cells.length (intsV p.dist.cells)
theorem gN {w:World} {base e z n:Nat} {v:Value} {xs:List Value} {g:Nat} (h:w.ownsRow base e z v n xs) (hg:v.ownBlock=some g):∃ cap cur,v=.slice (some ⟨g,0,none⟩) n cap∧base≤g∧w.heap[g]? = some (.cells cur e (0,0))∧n≤cap∧cur.size=cap*z∧cur.toList.take (n*z)=xs:=by
 rcases h.2 with ⟨e,_⟩ | ⟨g',cap,cur,e,h1,h2,h3,h4,h5,h6⟩
 ·rw [e] at hg;cases hg
 ·rw [e] at hg
  cases hg
  exact ⟨cap,cur,e,h1,h2,h3,h5,h6⟩
set_option maxRecDepth 100000 in
set_option maxHeartbeats 25600000 in
theorem rI {w:World} {x:aU} {p:Prb} (h:PrbV w x p):Calls Try.prog 17 #[.agg (aL p x)] w fun e w'=>∃ x',e=.returned (.agg (aL p x'))∧CpQ w' (w.heap.size+2) p x'∧Below w.heap.size w w':=by
 obtain ⟨ta,tc,da,dc,va,vc,ja,jc,sa,sc,rfl⟩:=h.open;have HP:=hide h;clear h;unfold aL;obtain ⟨d,⟨n,tL⟩,⟨dn,dL⟩,vL,jL,sL⟩:=p;simp only at HP ⊢;obtain ⟨lt,hlt⟩:∃ k,tL.length=k:=⟨_,rfl⟩;obtain ⟨ld,hld⟩:∃ k,dL.length=k:=⟨_,rfl⟩;obtain ⟨lv,hlv⟩:∃ k,vL.length=k:=⟨_,rfl⟩;obtain ⟨lj,hlj⟩:∃ k,jL.length=k:=⟨_,rfl⟩;obtain ⟨ls,hls⟩:∃ k,sL.length=k:=⟨_,rfl⟩;rw [hlt,hld,hlv,hlj,hls] at HP;rw [hlt,hld,hlv,hlj,hls];have HLT:=hide hlt;have HLD:=hide hld;have HLV:=hide hlv;have HLJ:=hide hlj;have HLS:=hide hls;clear hlt hld hlv hlj hls;obtain ⟨bx,hbx⟩:∃ b,w.heap.size=b:=⟨_,rfl⟩;have HBX:=hide hbx;have HW1:Hid (((w.alloc (.cells #[.int .i64 d,.int .i64 n,.slice ta lt tc,.int .i64 dn,.slice da ld dc,.slice va lv vc,.slice ja lj jc,.slice sa ls sc] 29)).alloc (.cells #[.int .i64 0,.int .i64 0,.slice none 0 0,.int .i64 0,.slice none 0 0,.slice none 0 0,.slice none 0 0,.slice none 0 0] 29)).heap.size=bx+2):=by show _=_;simp [hbx]
 have HA1:Hid (((w.alloc (.cells #[.int .i64 d,.int .i64 n,.slice ta lt tc,.int .i64 dn,.slice da ld dc,.slice va lv vc,.slice ja lj jc,.slice sa ls sc] 29)).alloc (.cells #[.int .i64 0,.int .i64 0,.slice none 0 0,.int .i64 0,.slice none 0 0,.slice none 0 0,.slice none 0 0,.slice none 0 0] 29)).heap[bx]? = some (.cells #[.int .i64 d,.int .i64 n,.slice ta lt tc,.int .i64 dn,.slice da ld dc,.slice va lv vc,.slice ja lj jc,.slice sa ls sc] 29 (0,0))):=by show _=_;rw [← hbx];exact heap_alloc2_old w _ _
 have HR1:Hid (((w.alloc (.cells #[.int .i64 d,.int .i64 n,.slice ta lt tc,.int .i64 dn,.slice da ld dc,.slice va lv vc,.slice ja lj jc,.slice sa ls sc] 29)).alloc (.cells #[.int .i64 0,.int .i64 0,.slice none 0 0,.int .i64 0,.slice none 0 0,.slice none 0 0,.slice none 0 0,.slice none 0 0] 29)).heap[bx+1]? = some (.cells yaI 29 (0,0))):=by show _=_;rw [← hbx];exact heap_alloc2_new w _ _
 have HB1:Hid (Below w.heap.size w ((w.alloc (.cells #[.int .i64 d,.int .i64 n,.slice ta lt tc,.int .i64 dn,.slice da ld dc,.slice va lv vc,.slice ja lj jc,.slice sa ls sc] 29)).alloc (.cells #[.int .i64 0,.int .i64 0,.slice none 0 0,.int .i64 0,.slice none 0 0,.slice none 0 0,.slice none 0 0,.slice none 0 0] 29))):=Mn.a.alloc (by simp) _;obtain ⟨RV,rv1,rv2,rv3⟩:=mW HP.out.v (by decide) fun l a=>veh_one;obtain ⟨RJ,rj1,rj2,rj3⟩:=mW HP.out.j (by decide) fun l a=>job_one;obtain ⟨RS,rs1,rs2,rs3⟩:=mW HP.out.s (by decide) fun l a=>shp_one;have HV1:=hide rv1;have HV2:=hide rv2;have HV3:=hide rv3;have HJ1:=hide rj1;have HJ2:=hide rj2;have HJ3:=hide rj3;have HS1:=hide rs1;have HS2:=hide rs2;have HS3:=hide rs3;clear rv1 rv2 rv3 rj1 rj2 rj3 rs1 rs2 rs3;go_enter Try.func17,Try.ntmps17;go_wp2;refine CR.walk (R:={ ops:=_,k:=2,b:=fun c=>[0,5].getD c 0,a:=fun c=>[4,9].getD c 0,s:=fun c=>[12,15].getD c 0,T:=fun c=>[3,3].getD c 0,z:=fun c=>[1,1].getD c 0,m:=fun c=>[lt,ld].getD c 0,off:=fun c=>[2,4].getD c 0,xs:=fun c=>[intsV tL,intsV dL].getD c [],pv:=fun qi=>([none,some (.pointer (some ⟨bx,1,none⟩)),some (.pointer (some ⟨bx,2,none⟩)),some (.slice ta lt tc),none,none,some (.pointer (some ⟨bx,3,none⟩)),some (.pointer (some ⟨bx,4,none⟩)),some (.slice da ld dc),none,some (.pointer (some ⟨bx,1,none⟩)),some (.pointer (some ⟨bx,2,none⟩)),none,some (.pointer (some ⟨bx,3,none⟩)),some (.pointer (some ⟨bx,4,none⟩)),none]:List (Option Value)).getD qi none,ld:=fun qi=>[3,8].contains qi,SB:=bx,B:=bx+2,arr:=#[.int .i64 d,.int .i64 n,.slice ta lt tc,.int .i64 dn,.slice da ld dc,.slice va lv vc,.slice ja lj jc,.slice sa ls sc],TS:=29 }) (tb:=fun c=>[10,15].getD c 0) (ta:=fun c=>[14,19].getD c 0) (CR.ok_of (tl:=16) (lds:=[3,8]) (by kernel_rfl) ?hp ?hl ?hsb ?ho) (by kernel_rfl) (by kernel_rfl) (by kernel_rfl) (by kernel_rfl) ?hB ?harr ?hsz ?htb ?hta ?hpure ?hbuild ?hfill ?hstore ?hend
 case hp=>exact fun qi h=>gT (l:=[none,some (.pointer (some ⟨bx,1,none⟩)),some (.pointer (some ⟨bx,2,none⟩)),some (.slice ta lt tc),none,none,some (.pointer (some ⟨bx,3,none⟩)),some (.pointer (some ⟨bx,4,none⟩)),some (.slice da ld dc),none,some (.pointer (some ⟨bx,1,none⟩)),some (.pointer (some ⟨bx,2,none⟩)),none,some (.pointer (some ⟨bx,3,none⟩)),some (.pointer (some ⟨bx,4,none⟩)),none]) h
 case hl=>exact fun qi h=>by simpa using h
 case hsb=>(show bx<bx+2;omega)
 case ho =>
  intro c hc;have hc:c=0∨c=1:=by simp only at hc;omega
  rcases hc with rfl | rfl <;> simp
 case hB=>exact HW1.out
 case harr=>exact HA1.out
 case hsz =>
  intro qi d hd;have:=oP (n:=177) (by kernel_rfl) hd;exact this
 case htb =>
  intro c hc;have hc:c=0∨c=1:=by simp only at hc;omega
  rcases hc with rfl | rfl <;> rfl
 case hta =>
  intro c hc;have hc:c=0∨c=1:=by simp only at hc;omega
  rcases hc with rfl | rfl <;> rfl
 case hpure =>
  intro qi qo qv ev qw ho hv hdp hout hlow hld;have hqi:qi<16:=gT (l:=[none,some (.pointer (some ⟨bx,1,none⟩)),some (.pointer (some ⟨bx,2,none⟩)),some (.slice ta lt tc),none,none,some (.pointer (some ⟨bx,3,none⟩)),some (.pointer (some ⟨bx,4,none⟩)),some (.slice da ld dc),none,some (.pointer (some ⟨bx,1,none⟩)),some (.pointer (some ⟨bx,2,none⟩)),none,some (.pointer (some ⟨bx,3,none⟩)),some (.pointer (some ⟨bx,4,none⟩)),none]) (by rw [show ([none,some (.pointer (some ⟨bx,1,none⟩)),some (.pointer (some ⟨bx,2,none⟩)),some (.slice ta lt tc),none,none,some (.pointer (some ⟨bx,3,none⟩)),some (.pointer (some ⟨bx,4,none⟩)),some (.slice da ld dc),none,some (.pointer (some ⟨bx,1,none⟩)),some (.pointer (some ⟨bx,2,none⟩)),none,some (.pointer (some ⟨bx,3,none⟩)),some (.pointer (some ⟨bx,4,none⟩)),none]:List (Option Value)).getD qi none=some qv from hv];rfl);have hqi:qi=0∨qi=1∨qi=2∨qi=3∨qi=4∨qi=5∨qi=6∨qi=7∨qi=8∨qi=9∨qi=10∨qi=11∨qi=12∨qi=13∨qi=14∨qi=15:=by omega
  rcases hqi with rfl | rfl | rfl | rfl | rfl | rfl | rfl | rfl | rfl | rfl | rfl | rfl | rfl | rfl | rfl | rfl
  ·cases hv
  ·cases hv
   cases ho
   have e1:ev (.tmp 1)=.pointer (some ⟨bx,0,none⟩):=(hout 1 (bT (by kernel_rfl))).trans rfl;unfold execOp;go_simp
  ·cases hv
   cases ho
   have e11:ev (.tmp 11)=.pointer (some ⟨bx,1,none⟩):=hdp _ (Array.mem_of_getElem? (i:=0) rfl) rfl _ 11 rfl rfl;unfold execOp;go_simp
  ·cases hv
   cases ho
   have e12:ev (.tmp 12)=.pointer (some ⟨bx,2,none⟩):=hdp _ (Array.mem_of_getElem? (i:=0) rfl) rfl _ 12 rfl rfl;have hld:=hld rfl;have hcl:qw.cell? ⟨bx,2,none⟩=some (.slice ta lt tc):=by rw [cell_of_row _ _ _ _ _ _ hld];rfl
   unfold execOp;go_simp
  ·cases hv
  ·cases hv
  ·cases hv
   cases ho
   have e1:ev (.tmp 1)=.pointer (some ⟨bx,0,none⟩):=(hout 1 (bT (by kernel_rfl))).trans rfl;unfold execOp;go_simp
  ·cases hv
   cases ho
   have e16:ev (.tmp 16)=.pointer (some ⟨bx,3,none⟩):=hdp _ (Array.mem_of_getElem? (i:=0) rfl) rfl _ 16 rfl rfl;unfold execOp;go_simp
  ·cases hv
   cases ho
   have e17:ev (.tmp 17)=.pointer (some ⟨bx,4,none⟩):=hdp _ (Array.mem_of_getElem? (i:=0) rfl) rfl _ 17 rfl rfl;have hld:=hld rfl;have hcl:qw.cell? ⟨bx,4,none⟩=some (.slice da ld dc):=by rw [cell_of_row _ _ _ _ _ _ hld];rfl
   unfold execOp;go_simp
  ·cases hv
  ·cases hv
   cases ho
   have e1:ev (.tmp 1)=.pointer (some ⟨bx,0,none⟩):=(hout 1 (bT (by kernel_rfl))).trans rfl;unfold execOp;go_simp
  ·cases hv
   cases ho
   have e20:ev (.tmp 20)=.pointer (some ⟨bx,1,none⟩):=hdp _ (Array.mem_of_getElem? (i:=0) rfl) rfl _ 20 rfl rfl;unfold execOp;go_simp
  ·cases hv
  ·cases hv
   cases ho
   have e1:ev (.tmp 1)=.pointer (some ⟨bx,0,none⟩):=(hout 1 (bT (by kernel_rfl))).trans rfl;unfold execOp;go_simp
  ·cases hv
   cases ho
   have e22:ev (.tmp 22)=.pointer (some ⟨bx,3,none⟩):=hdp _ (Array.mem_of_getElem? (i:=0) rfl) rfl _ 22 rfl rfl;unfold execOp;go_simp
  ·cases hv
 case hbuild =>
  intro c hc o ho ev w;have hc:c=0∨c=1:=by simp only at hc;omega
  rcases hc with rfl | rfl
  ·cases ho
   obtain ⟨i0,hi0,_,_,_⟩:=info_parts info3;exact cM Try.underlying22 hi0 rfl ev w
  ·cases ho
   obtain ⟨i0,hi0,_,_,_⟩:=info_parts info3;exact cM Try.underlying22 hi0 rfl ev w
 case hfill =>
  intro c hc o ho ev w hlow hsize hown hdp;have hc:c=0∨c=1:=by simp only at hc;omega
  rcases hc with rfl | rfl
  ·cases ho
   obtain ⟨i0,hi0,hy0,hy1,hy2⟩:=info_parts info3;have e13:ev (.tmp 13)=.slice ta lt tc:=hdp _ (Array.mem_of_getElem? (i:=1) rfl) rfl _ 13 rfl rfl;exact eB Try.underlying22 hi0 hy0 hy1 hy2 rfl (by decide) (by decide) rfl hown rfl e13 (by show (intsV tL).length=lt*1;rw [intsV_len,HLT.out,Nat.mul_one]) (by have:=iG HP.out.t (fun b hb=>(hlow b (by have:=HBX.out;show b<bx+2;omega) (by have:=HBX.out;show b≠bx;omega)).trans (HB1.out.block b hb));simp only at this;rw [HLT.out] at this;exact this) hsize
  ·cases ho
   obtain ⟨i0,hi0,hy0,hy1,hy2⟩:=info_parts info3;have e18:ev (.tmp 18)=.slice da ld dc:=hdp _ (Array.mem_of_getElem? (i:=1) rfl) rfl _ 18 rfl rfl;exact eB Try.underlying22 hi0 hy0 hy1 hy2 rfl (by decide) (by decide) rfl hown rfl e18 (by show (intsV dL).length=ld*1;rw [intsV_len,HLD.out,Nat.mul_one]) (by have:=iG HP.out.d (fun b hb=>(hlow b (by have:=HBX.out;show b<bx+2;omega) (by have:=HBX.out;show b≠bx;omega)).trans (HB1.out.block b hb));simp only at this;rw [HLD.out] at this;exact this) hsize
 case hstore =>
  intro c hc o ho ev w A hA hAs hdp hsl;have hc:c=0∨c=1:=by simp only at hc;omega
  rcases hc with rfl | rfl
  ·cases ho
   obtain ⟨ad,m,cc,he⟩:=hsl;have e21:ev (.tmp 21)=.pointer (some ⟨bx,2,none⟩):=hdp _ (Array.mem_of_getElem? (i:=0) rfl) rfl _ 21 rfl rfl;have hlt:2<A.size:=by rw [hAs];simp
   obtain ⟨i1,hi1,_,hs1,_⟩:=info_parts l6;rw [show ev (.tmp ((fun c=>[14,19].getD c 0) 0))=.slice ad m cc from he];exact fS hi1 hs1 rfl e21 he (by rw [cell_of_row _ _ _ _ _ _ hA];exact Array.getElem?_eq_getElem hlt) (frozen_of_row _ _ _ _ _ hA)
  ·cases ho
   obtain ⟨ad,m,cc,he⟩:=hsl;have e23:ev (.tmp 23)=.pointer (some ⟨bx,4,none⟩):=hdp _ (Array.mem_of_getElem? (i:=0) rfl) rfl _ 23 rfl rfl;have hlt:4<A.size:=by rw [hAs];simp
   obtain ⟨i1,hi1,_,hs1,_⟩:=info_parts l6;rw [show ev (.tmp ((fun c=>[14,19].getD c 0) 1))=.slice ad m cc from he];exact fS hi1 hs1 rfl e23 he (by rw [cell_of_row _ _ _ _ _ _ hA];exact Array.getElem?_eq_getElem hlt) (frozen_of_row _ _ _ _ _ hA)
 case hend =>
  intro x1 w1 hJ;have r0:w1.ownsRow (bx+2) 3 1 (x1 4) lt (intsV tL):=hJ.row 0 (by show 0<2;decide) rfl;have r1:w1.ownsRow (bx+2) 3 1 (x1 9) ld (intsV dL):=hJ.row 1 (by show 1<2;decide) rfl;have hlo:∀ q,q<bx+2→q≠bx→w1.heap[q]? = ((w.alloc (.cells #[.int .i64 d,.int .i64 n,.slice ta lt tc,.int .i64 dn,.slice da ld dc,.slice va lv vc,.slice ja lj jc,.slice sa ls sc] 29)).alloc (.cells #[.int .i64 0,.int .i64 0,.slice none 0 0,.int .i64 0,.slice none 0 0,.slice none 0 0,.slice none 0 0,.slice none 0 0] 29)).heap[q]?:=hJ.low;have hsb:w1.heap[bx]? = some (.cells (aL ⟨d,⟨n,tL⟩,⟨dn,dL⟩,vL,jL,sL⟩ ⟨x1 4,x1 9,.slice va lv vc,.slice ja lj jc,.slice sa ls sc⟩) 29 (0,0)):=by simpa [CR.sbF,aL] using hJ.sb
  have hsz1:bx+2≤w1.heap.size:=hJ.size
  have HT:Hid (CpT w w1 bx ⟨d,⟨n,tL⟩,⟨dn,dL⟩,vL,jL,sL⟩ ⟨x1 4,x1 9,.slice va lv vc,.slice ja lj jc,.slice sa ls sc⟩):=by
   refine ⟨⟨hJ.os.trans HB1.out.os,hJ.tape.trans HB1.out.tape,hJ.output.trans HB1.out.output,by have:=HBX.out;omega,fun q hq=>?_⟩,hsz1,hsb,?_,by rw [HLT.out];exact r0,by rw [HLD.out];exact r1⟩
   ·have:=HBX.out;rw [hlo q (by omega) (by omega)];exact HB1.out.block q hq
   ·rw [hlo (bx+1) (by omega) (by omega)];exact HR1.out
  clear r0 r1 hlo hsb hJ;simp only [acc,gZ,List.range,bO,if_true];simp only [List.size_toArray,List.length_cons,List.length_nil,Nat.reduceAdd,List.getElem?_toArray,List.getElem?_cons_zero,List.getElem?_cons_succ,Option.bind_some,List.range.loop,List.foldl_cons,List.foldl_nil,Act.put,List.setIfInBounds_toArray,List.set_cons_zero,List.set_cons_succ]
  generalize x1 4=vT at *
  generalize x1 9=vD at *
  have HS1z:=hide hsz1;clear hsz1;go_wp2;refine CR.walk (R:={ ops:=_,k:=3,b:=fun c=>[0,4,8].getD c 0,a:=fun c=>[3,7,11].getD c 0,s:=fun c=>[13,15,17].getD c 0,T:=fun c=>[86,67,103].getD c 0,z:=fun c=>[11,7,9].getD c 0,m:=fun c=>[lv,lj,ls].getD c 0,off:=fun c=>[5,6,7].getD c 0,xs:=fun c=>[RV.flatten,RJ.flatten,RS.flatten].getD c [],pv:=fun qi=>([none,some (.pointer (some ⟨bx,5,none⟩)),some (.slice va lv vc),none,none,some (.pointer (some ⟨bx,6,none⟩)),some (.slice ja lj jc),none,none,some (.pointer (some ⟨bx,7,none⟩)),some (.slice sa ls sc),none,some (.pointer (some ⟨bx,5,none⟩)),none,some (.pointer (some ⟨bx,6,none⟩)),none,some (.pointer (some ⟨bx,7,none⟩)),none]:List (Option Value)).getD qi none,ld:=fun qi=>[2,6,10].contains qi,SB:=bx,B:=w1.heap.size,arr:=#[.int .i64 d,.int .i64 n,vT,.int .i64 dn,vD,.slice va lv vc,.slice ja lj jc,.slice sa ls sc],TS:=29 }) (tb:=fun c=>[24,28,32].getD c 0) (ta:=fun c=>[27,31,35].getD c 0) (CR.ok_of (tl:=18) (lds:=[2,6,10]) (by kernel_rfl) ?hp ?hl ?hsb ?ho) (by kernel_rfl) (by kernel_rfl) (by kernel_rfl) (by kernel_rfl) ?hB ?harr ?hsz ?htb ?hta ?hpure ?hbuild ?hfill ?hstore ?hend
  case hp=>exact fun qi h=>gT (l:=[none,some (.pointer (some ⟨bx,5,none⟩)),some (.slice va lv vc),none,none,some (.pointer (some ⟨bx,6,none⟩)),some (.slice ja lj jc),none,none,some (.pointer (some ⟨bx,7,none⟩)),some (.slice sa ls sc),none,some (.pointer (some ⟨bx,5,none⟩)),none,some (.pointer (some ⟨bx,6,none⟩)),none,some (.pointer (some ⟨bx,7,none⟩)),none]) h
  case hl=>exact fun qi h=>by simpa using h
  case hsb=>(show bx<w1.heap.size;have:=HS1z.out;omega)
  case ho =>
   intro c hc;have hc:c=0∨c=1∨c=2:=by simp only at hc;omega
   rcases hc with rfl | rfl | rfl <;> simp
  case hB=>rfl
  case harr=>exact HT.out.box
  case hsz =>
   intro qi d hd;have:=oP (n:=177) (by kernel_rfl) hd;exact this
  case htb =>
   intro c hc;have hc:c=0∨c=1∨c=2:=by simp only at hc;omega
   rcases hc with rfl | rfl | rfl <;> rfl
  case hta =>
   intro c hc;have hc:c=0∨c=1∨c=2:=by simp only at hc;omega
   rcases hc with rfl | rfl | rfl <;> rfl
  case hpure =>
   intro qi qo qv ev qw ho hv hdp hout hlow hld;have hqi:qi<18:=gT (l:=[none,some (.pointer (some ⟨bx,5,none⟩)),some (.slice va lv vc),none,none,some (.pointer (some ⟨bx,6,none⟩)),some (.slice ja lj jc),none,none,some (.pointer (some ⟨bx,7,none⟩)),some (.slice sa ls sc),none,some (.pointer (some ⟨bx,5,none⟩)),none,some (.pointer (some ⟨bx,6,none⟩)),none,some (.pointer (some ⟨bx,7,none⟩)),none]) (by rw [show ([none,some (.pointer (some ⟨bx,5,none⟩)),some (.slice va lv vc),none,none,some (.pointer (some ⟨bx,6,none⟩)),some (.slice ja lj jc),none,none,some (.pointer (some ⟨bx,7,none⟩)),some (.slice sa ls sc),none,some (.pointer (some ⟨bx,5,none⟩)),none,some (.pointer (some ⟨bx,6,none⟩)),none,some (.pointer (some ⟨bx,7,none⟩)),none]:List (Option Value)).getD qi none=some qv from hv];rfl);have hqi:qi=0∨qi=1∨qi=2∨qi=3∨qi=4∨qi=5∨qi=6∨qi=7∨qi=8∨qi=9∨qi=10∨qi=11∨qi=12∨qi=13∨qi=14∨qi=15∨qi=16∨qi=17:=by omega
   rcases hqi with rfl | rfl | rfl | rfl | rfl | rfl | rfl | rfl | rfl | rfl | rfl | rfl | rfl | rfl | rfl | rfl | rfl | rfl
   ·cases hv
   ·cases hv
    cases ho
    have e1:ev (.tmp 1)=.pointer (some ⟨bx,0,none⟩):=(hout 1 (bT (by kernel_rfl))).trans rfl;unfold execOp;go_simp
   ·cases hv
    cases ho
    have e25:ev (.tmp 25)=.pointer (some ⟨bx,5,none⟩):=hdp _ (Array.mem_of_getElem? (i:=0) rfl) rfl _ 25 rfl rfl;have hld:=hld rfl;have hcl:qw.cell? ⟨bx,5,none⟩=some (.slice va lv vc):=by rw [cell_of_row _ _ _ _ _ _ hld];rfl
    unfold execOp;go_simp
   ·cases hv
   ·cases hv
   ·cases hv
    cases ho
    have e1:ev (.tmp 1)=.pointer (some ⟨bx,0,none⟩):=(hout 1 (bT (by kernel_rfl))).trans rfl;unfold execOp;go_simp
   ·cases hv
    cases ho
    have e29:ev (.tmp 29)=.pointer (some ⟨bx,6,none⟩):=hdp _ (Array.mem_of_getElem? (i:=0) rfl) rfl _ 29 rfl rfl;have hld:=hld rfl;have hcl:qw.cell? ⟨bx,6,none⟩=some (.slice ja lj jc):=by rw [cell_of_row _ _ _ _ _ _ hld];rfl
    unfold execOp;go_simp
   ·cases hv
   ·cases hv
   ·cases hv
    cases ho
    have e1:ev (.tmp 1)=.pointer (some ⟨bx,0,none⟩):=(hout 1 (bT (by kernel_rfl))).trans rfl;unfold execOp;go_simp
   ·cases hv
    cases ho
    have e33:ev (.tmp 33)=.pointer (some ⟨bx,7,none⟩):=hdp _ (Array.mem_of_getElem? (i:=0) rfl) rfl _ 33 rfl rfl;have hld:=hld rfl;have hcl:qw.cell? ⟨bx,7,none⟩=some (.slice sa ls sc):=by rw [cell_of_row _ _ _ _ _ _ hld];rfl
    unfold execOp;go_simp
   ·cases hv
   ·cases hv
    cases ho
    have e1:ev (.tmp 1)=.pointer (some ⟨bx,0,none⟩):=(hout 1 (bT (by kernel_rfl))).trans rfl;unfold execOp;go_simp
   ·cases hv
   ·cases hv
    cases ho
    have e1:ev (.tmp 1)=.pointer (some ⟨bx,0,none⟩):=(hout 1 (bT (by kernel_rfl))).trans rfl;unfold execOp;go_simp
   ·cases hv
   ·cases hv
    cases ho
    have e1:ev (.tmp 1)=.pointer (some ⟨bx,0,none⟩):=(hout 1 (bT (by kernel_rfl))).trans rfl;unfold execOp;go_simp
   ·cases hv
  case hbuild =>
   intro c hc o ho ev w;have hc:c=0∨c=1∨c=2:=by simp only at hc;omega
   rcases hc with rfl | rfl | rfl
   ·cases ho
    obtain ⟨i0,hi0,_,_,_⟩:=info_parts ye9;exact cM Try.underlying25 hi0 rfl ev w
   ·cases ho
    obtain ⟨i0,hi0,_,_,_⟩:=info_parts yfA;exact cM Try.underlying26 hi0 rfl ev w
   ·cases ho
    obtain ⟨i0,hi0,_,_,_⟩:=info_parts ye8;exact cM Try.underlying27 hi0 rfl ev w
  case hfill =>
   intro c hc o ho ev w hlow hsize hown hdp;have hc:c=0∨c=1∨c=2:=by simp only at hc;omega
   rcases hc with rfl | rfl | rfl
   ·cases ho
    obtain ⟨i0,hi0,hy0,hy1,hy2⟩:=info_parts ye9;have e26:ev (.tmp 26)=.slice va lv vc:=hdp _ (Array.mem_of_getElem? (i:=1) rfl) rfl _ 26 rfl rfl;exact eB Try.underlying25 hi0 hy0 hy1 hy2 rfl (by decide) (by decide) rfl hown rfl e26 (by show RV.flatten.length=lv*11;rw [dW (ORow.len HV1.out HV2.out),HV1.out,HLV.out]) (by have:=HV3.out w (fun b hb=>(hlow b (by have:=HBX.out;have:=HS1z.out;show b<w1.heap.size;omega) (by have:=HBX.out;show b≠bx;omega)).trans (HT.out.low.block b hb));rw [HLV.out] at this;exact this) hsize
   ·cases ho
    obtain ⟨i0,hi0,hy0,hy1,hy2⟩:=info_parts yfA;have e30:ev (.tmp 30)=.slice ja lj jc:=hdp _ (Array.mem_of_getElem? (i:=1) rfl) rfl _ 30 rfl rfl;exact eB Try.underlying26 hi0 hy0 hy1 hy2 rfl (by decide) (by decide) rfl hown rfl e30 (by show RJ.flatten.length=lj*7;rw [dW (ORow.len HJ1.out HJ2.out),HJ1.out,HLJ.out]) (by have:=HJ3.out w (fun b hb=>(hlow b (by have:=HBX.out;have:=HS1z.out;show b<w1.heap.size;omega) (by have:=HBX.out;show b≠bx;omega)).trans (HT.out.low.block b hb));rw [HLJ.out] at this;exact this) hsize
   ·cases ho
    obtain ⟨i0,hi0,hy0,hy1,hy2⟩:=info_parts ye8;have e34:ev (.tmp 34)=.slice sa ls sc:=hdp _ (Array.mem_of_getElem? (i:=1) rfl) rfl _ 34 rfl rfl;exact eB Try.underlying27 hi0 hy0 hy1 hy2 rfl (by decide) (by decide) rfl hown rfl e34 (by show RS.flatten.length=ls*9;rw [dW (ORow.len HS1.out HS2.out),HS1.out,HLS.out]) (by have:=HS3.out w (fun b hb=>(hlow b (by have:=HBX.out;have:=HS1z.out;show b<w1.heap.size;omega) (by have:=HBX.out;show b≠bx;omega)).trans (HT.out.low.block b hb));rw [HLS.out] at this;exact this) hsize
  case hstore =>
   intro c hc o ho ev w A hA hAs hdp hsl;have hc:c=0∨c=1∨c=2:=by simp only at hc;omega
   rcases hc with rfl | rfl | rfl
   ·cases ho
    obtain ⟨ad,m,cc,he⟩:=hsl;have e36:ev (.tmp 36)=.pointer (some ⟨bx,5,none⟩):=hdp _ (Array.mem_of_getElem? (i:=0) rfl) rfl _ 36 rfl rfl;have hlt:5<A.size:=by rw [hAs];simp
    obtain ⟨i1,hi1,_,hs1,_⟩:=info_parts infoS25;rw [show ev (.tmp ((fun c=>[27,31,35].getD c 0) 0))=.slice ad m cc from he];exact fS hi1 hs1 rfl e36 he (by rw [cell_of_row _ _ _ _ _ _ hA];exact Array.getElem?_eq_getElem hlt) (frozen_of_row _ _ _ _ _ hA)
   ·cases ho
    obtain ⟨ad,m,cc,he⟩:=hsl;have e37:ev (.tmp 37)=.pointer (some ⟨bx,6,none⟩):=hdp _ (Array.mem_of_getElem? (i:=0) rfl) rfl _ 37 rfl rfl;have hlt:6<A.size:=by rw [hAs];simp
    obtain ⟨i1,hi1,_,hs1,_⟩:=info_parts infoS26;rw [show ev (.tmp ((fun c=>[27,31,35].getD c 0) 1))=.slice ad m cc from he];exact fS hi1 hs1 rfl e37 he (by rw [cell_of_row _ _ _ _ _ _ hA];exact Array.getElem?_eq_getElem hlt) (frozen_of_row _ _ _ _ _ hA)
   ·cases ho
    obtain ⟨ad,m,cc,he⟩:=hsl;have e38:ev (.tmp 38)=.pointer (some ⟨bx,7,none⟩):=hdp _ (Array.mem_of_getElem? (i:=0) rfl) rfl _ 38 rfl rfl;have hlt:7<A.size:=by rw [hAs];simp
    obtain ⟨i1,hi1,_,hs1,_⟩:=info_parts infoS27;rw [show ev (.tmp ((fun c=>[27,31,35].getD c 0) 2))=.slice ad m cc from he];exact fS hi1 hs1 rfl e38 he (by rw [cell_of_row _ _ _ _ _ _ hA];exact Array.getElem?_eq_getElem hlt) (frozen_of_row _ _ _ _ _ hA)
  case hend =>
   intro x2 w2 hJ;have r0:w2.ownsRow w1.heap.size 86 11 (x2 3) lv RV.flatten:=hJ.row 0 (by show 0<3;decide) rfl;have r1:w2.ownsRow w1.heap.size 67 7 (x2 7) lj RJ.flatten:=hJ.row 1 (by show 1<3;decide) rfl;have r2:w2.ownsRow w1.heap.size 103 9 (x2 11) ls RS.flatten:=hJ.row 2 (by show 2<3;decide) rfl;have a01:∀ g,(x2 3).ownBlock=some g→(x2 7).ownBlock≠some g:=hJ.apart 0 (by show 0<3;decide) 1 (by show 1<3;decide) (by decide) rfl rfl;have a02:∀ g,(x2 3).ownBlock=some g→(x2 11).ownBlock≠some g:=hJ.apart 0 (by show 0<3;decide) 2 (by show 2<3;decide) (by decide) rfl rfl;have a12:∀ g,(x2 7).ownBlock=some g→(x2 11).ownBlock≠some g:=hJ.apart 1 (by show 1<3;decide) 2 (by show 2<3;decide) (by decide) rfl rfl;have b0:∃ g,(x2 3).ownBlock=some g:=hJ.blk 0 (by show 0<3;decide) rfl;have b1:∃ g,(x2 7).ownBlock=some g:=hJ.blk 1 (by show 1<3;decide) rfl;have b2:∃ g,(x2 11).ownBlock=some g:=hJ.blk 2 (by show 2<3;decide) rfl;obtain ⟨gv,gv1⟩:=b0;obtain ⟨gj,gj1⟩:=b1;obtain ⟨gs,gs1⟩:=b2;have hstp:Stp1 w1 w2 bx:=⟨hJ.os,hJ.tape,hJ.output,hJ.size,hJ.low⟩;have hsb:w2.heap[bx]? = some (.cells (aL ⟨d,⟨n,tL⟩,⟨dn,dL⟩,vL,jL,sL⟩ ⟨vT,vD,x2 3,x2 7,x2 11⟩) 29 (0,0)):=by simpa [CR.sbF,aL] using hJ.sb
   have HC:Hid (CpS w w2 bx gv gj gs ⟨d,⟨n,tL⟩,⟨dn,dL⟩,vL,jL,sL⟩ ⟨vT,vD,x2 3,x2 7,x2 11⟩ 0 0 0) :=
    ydG HT.out.low HBX.out HS1z.out HT.out.res HT.out.t HT.out.d (IntsV.bound HP.out.t) (IntsV.bound HP.out.d) hstp hsb (by simp only;rw [HLV.out];exact r0) (by simp only;rw [HLJ.out];exact r1) (by simp only;rw [HLS.out];exact r2) gv1 gj1 gs1
     (fun e=>by rw [e] at gv1;exact a01 _ gv1 gj1) (fun e=>by rw [e] at gv1;exact a02 _ gv1 gs1) (fun e=>by rw [e] at gj1;exact a12 _ gj1 gs1)
     HV1.out HV2.out (SlV.bound HP.out.v) HJ1.out HJ2.out (SlV.bound HP.out.j) HS1.out HS2.out (SlV.bound HP.out.s)
   obtain ⟨cv,_,hxv,_⟩:=gN r0 gv1;obtain ⟨cj,_,hxj,_⟩:=gN r1 gj1;obtain ⟨cs,_,hxs,_⟩:=gN r2 gs1;obtain ⟨tA,tC,hxt,_⟩:=cP HT.out.t;obtain ⟨dA,dC,hxd,_⟩:=cP HT.out.d;simp only at hxt hxd;rw [HLT.out] at hxt;rw [HLD.out] at hxd;rw [hxv,hxj,hxs,hxt,hxd] at HC;clear r0 r1 r2 a01 a02 a12 gv1 gj1 gs1 hstp hsb hJ HT HS1z;simp only [acc,gZ,List.range,bO,if_true];simp only [List.size_toArray,List.length_cons,List.length_nil,Nat.reduceAdd,List.getElem?_toArray,List.getElem?_cons_zero,List.getElem?_cons_succ,Option.bind_some,List.range.loop,List.foldl_cons,List.foldl_nil,Act.put,List.setIfInBounds_toArray,List.set_cons_zero,List.set_cons_succ];rw [hxv,hxj,hxs];clear hxv hxj hxs hxt hxd;have c6:w2.cell? ⟨bx,5,none⟩=some (.slice (some ⟨gv,0,none⟩) lv cv):=by rw [cell_of_row _ _ _ _ _ _ HC.out.box];rfl
   go_wp2
   go_loopw [42] (fun vi wr=>∃ i:Nat,vi=.int .i64 i∧i≤lv∧Hid (CpS w wr bx gv gj gs ⟨d,⟨n,tL⟩,⟨dn,dL⟩,vL,jL,sL⟩ ⟨.slice tA lt tC,.slice dA ld dC,.slice (some ⟨gv,0,none⟩) lv cv,.slice (some ⟨gj,0,none⟩) lj cj,.slice (some ⟨gs,0,none⟩) ls cs⟩ i 0 0)) (fun vi _=>lv-(intOf vi).toNat)
   case atStart=>exact ⟨0,rfl,Nat.zero_le _,HC.out⟩
   case round =>
    clear HC c6;obtain ⟨i,rfl,hi,HR⟩:=hrel;have hb5:wr.cell? ⟨bx,5,none⟩=some (.slice (some ⟨gv,0,none⟩) lv cv):=by rw [cell_of_row _ _ _ _ _ _ HR.out.box];rfl
    have hb6:wr.cell? ⟨bx,6,none⟩=some (.slice (some ⟨gj,0,none⟩) lj cj):=by rw [cell_of_row _ _ _ _ _ _ HR.out.box];rfl
    have hlvb:lv*120≤140737488351232:=by obtain ⟨_,_,_,h9,_⟩:=HR.out.v;simp only at h9;rw [HLV.out] at h9;exact h9
    by_cases hit:i<lv
    ·have i3:(i:Int)<(lv:Int):=by omega
     have i4:(0:Int)≤(i:Int):=by omega
     obtain ⟨R,q1,q2,q3,q4,q5⟩:=HR.out.v;obtain ⟨cv2,A,ee,hgv2,hA,_,hAs0,hAt⟩:=gN q1 HR.out.ev;have hcv:cv=cv2:=by injection ee with _ _ e
     subst hcv;simp only at hAt;rw [HLV.out] at hAt;obtain ⟨v,hv⟩:∃ v,vL[i]? = some v:=⟨vL[i]'(by have:=HLV.out;omega),List.getElem?_eq_getElem _⟩;obtain ⟨l,e1,e2,e3,e4⟩:=q5 i v hv;unfold pJ at e4;rw [if_neg (by omega)] at e4;obtain ⟨xc,xb,rfl,g1,g2,g3⟩:=e4;obtain ⟨ca,cc,rfl⟩:=g1.shape;obtain ⟨ka,kc,rfl⟩:=SlV.shape g2;obtain ⟨lc,hlc⟩:∃ q,v.cap.length=q:=⟨_,rfl⟩;obtain ⟨lk,hlk⟩:∃ q,v.brks.length=q:=⟨_,rfl⟩;have HLC:=hide hlc;have HLK:=hide hlk;rw [hlc,hlk] at e1;rw [hlc] at g1;rw [hlk] at g2;obtain ⟨RB,n1,n2,n3⟩:=mW g2 (by decide) fun l a=>brk_one;have HB1:=hide n1;have HB2:=hide n2;have HB3:=hide n3;have HXC:=hide g1;have HXB:=hide g2;have HWD:=hide g3;have HV:=hide hv;have HQ1:=hide q1;have HQ2:=hide q2;have HQ3:=hide q3;have HQ5:=hide q5;have HQL:=hide e1;have HAS:=hide hAs0;have HAT:=hide hAt;have HA:=hide hA;have HGV:=hide hgv2;have HRs:=hide HR.out.sz;have HA2:Hid (A[i*11+2]? = some (.slice ca lc cc)):=fO (ORow.len q2 q5) hAt e1 (by decide) rfl;have HA10:Hid (A[i*11+10]? = some (.slice ka lk kc)):=fO (ORow.len q2 q5) hAt e1 (by decide) rfl
     have hO2:i*11+2<A.size:=by
      have:=(List.getElem?_eq_some_iff.1 (show A.toList[i*11+2]? = _ by simpa using HA2.out)).1
      simpa using this
     have hO10:i*11+10<A.size:=by
      have:=(List.getElem?_eq_some_iff.1 (show A.toList[i*11+10]? = _ by simpa using HA10.out)).1
      simpa using this
     have hgvl:gv<wr.heap.size:=(q1.lt gv HR.out.ev).2;clear q1 q2 q3 q4 q5 e1 e2 e3 g1 g2 g3 n1 n2 n3 hA hAs0 hAt hlc hlk hv ee hgv2;go_wp2;refine CR.walk (R:={ ops:=_,k:=2,b:=fun c=>[2,8].getD c 0,a:=fun c=>[7,13].getD c 0,s:=fun c=>[16,19].getD c 0,T:=fun c=>[3,91].getD c 0,z:=fun c=>[1,2].getD c 0,m:=fun c=>[lc,lk].getD c 0,off:=fun c=>[i*11+2,i*11+10].getD c 0,xs:=fun c=>[intsV v.cap,RB.flatten].getD c [],pv:=fun qi=>([some (.pointer (some ⟨gv,i*11,none⟩)),some (.pointer (some ⟨gv,i*11,none⟩)),none,some (.pointer (some ⟨gv,i*11,none⟩)),some (.pointer (some ⟨gv,i*11,none⟩)),some (.pointer (some ⟨gv,i*11+2,none⟩)),some (.slice ca lc cc),none,none,some (.pointer (some ⟨gv,i*11,none⟩)),some (.pointer (some ⟨gv,i*11,none⟩)),some (.pointer (some ⟨gv,i*11+10,none⟩)),some (.slice ka lk kc),none,some (.pointer (some ⟨gv,i*11,none⟩)),some (.pointer (some ⟨gv,i*11+2,none⟩)),none,some (.pointer (some ⟨gv,i*11,none⟩)),some (.pointer (some ⟨gv,i*11+10,none⟩)),none]:List (Option Value)).getD qi none,ld:=fun qi=>[6,12].contains qi,SB:=gv,B:=wr.heap.size,arr:=A,TS:=86 }) (tb:=fun c=>[51,57].getD c 0) (ta:=fun c=>[56,62].getD c 0) (CR.ok_of (tl:=20) (lds:=[6,12]) (by kernel_rfl) ?hp ?hl ?hsb ?ho) (by kernel_rfl) (by kernel_rfl) (by kernel_rfl) (by kernel_rfl) ?hB ?harr ?hsz ?htb ?hta ?hpure ?hbuild ?hfill ?hstore ?hend
     case hp=>exact fun qi h=>gT (l:=[some (.pointer (some ⟨gv,i*11,none⟩)),some (.pointer (some ⟨gv,i*11,none⟩)),none,some (.pointer (some ⟨gv,i*11,none⟩)),some (.pointer (some ⟨gv,i*11,none⟩)),some (.pointer (some ⟨gv,i*11+2,none⟩)),some (.slice ca lc cc),none,none,some (.pointer (some ⟨gv,i*11,none⟩)),some (.pointer (some ⟨gv,i*11,none⟩)),some (.pointer (some ⟨gv,i*11+10,none⟩)),some (.slice ka lk kc),none,some (.pointer (some ⟨gv,i*11,none⟩)),some (.pointer (some ⟨gv,i*11+2,none⟩)),none,some (.pointer (some ⟨gv,i*11,none⟩)),some (.pointer (some ⟨gv,i*11+10,none⟩)),none]) h
     case hl=>exact fun qi h=>by simpa using h
     case hsb=>(show gv<wr.heap.size;exact hgvl)
     case ho =>
      intro c hc;have hc:c=0∨c=1:=by simp only at hc;omega
      rcases hc with rfl | rfl <;> first | exact hO2 | exact hO10
     case hB=>rfl
     case harr=>exact HA.out
     case hsz =>
      intro qi d hd;have:=oP (n:=177) (by kernel_rfl) hd;exact this
     case htb =>
      intro c hc;have hc:c=0∨c=1:=by simp only at hc;omega
      rcases hc with rfl | rfl <;> rfl
     case hta =>
      intro c hc;have hc:c=0∨c=1:=by simp only at hc;omega
      rcases hc with rfl | rfl <;> rfl
     case hpure =>
      intro qi qo qv ev qw ho hv hdp hout hlow hld;have hqi:qi<20:=gT (l:=[some (.pointer (some ⟨gv,i*11,none⟩)),some (.pointer (some ⟨gv,i*11,none⟩)),none,some (.pointer (some ⟨gv,i*11,none⟩)),some (.pointer (some ⟨gv,i*11,none⟩)),some (.pointer (some ⟨gv,i*11+2,none⟩)),some (.slice ca lc cc),none,none,some (.pointer (some ⟨gv,i*11,none⟩)),some (.pointer (some ⟨gv,i*11,none⟩)),some (.pointer (some ⟨gv,i*11+10,none⟩)),some (.slice ka lk kc),none,some (.pointer (some ⟨gv,i*11,none⟩)),some (.pointer (some ⟨gv,i*11+2,none⟩)),none,some (.pointer (some ⟨gv,i*11,none⟩)),some (.pointer (some ⟨gv,i*11+10,none⟩)),none]) (by rw [show ([some (.pointer (some ⟨gv,i*11,none⟩)),some (.pointer (some ⟨gv,i*11,none⟩)),none,some (.pointer (some ⟨gv,i*11,none⟩)),some (.pointer (some ⟨gv,i*11,none⟩)),some (.pointer (some ⟨gv,i*11+2,none⟩)),some (.slice ca lc cc),none,none,some (.pointer (some ⟨gv,i*11,none⟩)),some (.pointer (some ⟨gv,i*11,none⟩)),some (.pointer (some ⟨gv,i*11+10,none⟩)),some (.slice ka lk kc),none,some (.pointer (some ⟨gv,i*11,none⟩)),some (.pointer (some ⟨gv,i*11+2,none⟩)),none,some (.pointer (some ⟨gv,i*11,none⟩)),some (.pointer (some ⟨gv,i*11+10,none⟩)),none]:List (Option Value)).getD qi none=some qv from hv];rfl);have hqi:qi=0∨qi=1∨qi=2∨qi=3∨qi=4∨qi=5∨qi=6∨qi=7∨qi=8∨qi=9∨qi=10∨qi=11∨qi=12∨qi=13∨qi=14∨qi=15∨qi=16∨qi=17∨qi=18∨qi=19:=by omega
      rcases hqi with rfl | rfl | rfl | rfl | rfl | rfl | rfl | rfl | rfl | rfl | rfl | rfl | rfl | rfl | rfl | rfl | rfl | rfl | rfl | rfl
      ·cases hv
       cases ho
       have e4:ev (.tmp 4)=.pointer (some ⟨gv,i*11,none⟩):=(hout 4 (bT (by kernel_rfl))).trans rfl;unfold execOp;go_simp
      ·cases hv
       cases ho
       have e4:ev (.tmp 4)=.pointer (some ⟨gv,i*11,none⟩):=(hout 4 (bT (by kernel_rfl))).trans rfl;unfold execOp;go_simp
      ·cases hv
      ·cases hv
       cases ho
       have e4:ev (.tmp 4)=.pointer (some ⟨gv,i*11,none⟩):=(hout 4 (bT (by kernel_rfl))).trans rfl;unfold execOp;go_simp
      ·cases hv
       cases ho
       have e52:ev (.tmp 52)=.pointer (some ⟨gv,i*11,none⟩):=hdp _ (Array.mem_of_getElem? (i:=0) rfl) rfl _ 52 rfl rfl;unfold execOp;go_simp
      ·cases hv
       cases ho
       have e53:ev (.tmp 53)=.pointer (some ⟨gv,i*11,none⟩):=hdp _ (Array.mem_of_getElem? (i:=0) rfl) rfl _ 53 rfl rfl;unfold execOp;go_simp
      ·cases hv
       cases ho
       have e54:ev (.tmp 54)=.pointer (some ⟨gv,i*11+2,none⟩):=hdp _ (Array.mem_of_getElem? (i:=0) rfl) rfl _ 54 rfl rfl;have hld:=hld rfl;have hcl:qw.cell? ⟨gv,i*11+2,none⟩=some (.slice ca lc cc):=by rw [cell_of_row _ _ _ _ _ _ hld];first | exact HA2.out | exact HA10.out
       unfold execOp;go_simp
      ·cases hv
      ·cases hv
      ·cases hv
       cases ho
       have e4:ev (.tmp 4)=.pointer (some ⟨gv,i*11,none⟩):=(hout 4 (bT (by kernel_rfl))).trans rfl;unfold execOp;go_simp
      ·cases hv
       cases ho
       have e58:ev (.tmp 58)=.pointer (some ⟨gv,i*11,none⟩):=hdp _ (Array.mem_of_getElem? (i:=0) rfl) rfl _ 58 rfl rfl;unfold execOp;go_simp
      ·cases hv
       cases ho
       have e59:ev (.tmp 59)=.pointer (some ⟨gv,i*11,none⟩):=hdp _ (Array.mem_of_getElem? (i:=0) rfl) rfl _ 59 rfl rfl;unfold execOp;go_simp
      ·cases hv
       cases ho
       have e60:ev (.tmp 60)=.pointer (some ⟨gv,i*11+10,none⟩):=hdp _ (Array.mem_of_getElem? (i:=0) rfl) rfl _ 60 rfl rfl;have hld:=hld rfl;have hcl:qw.cell? ⟨gv,i*11+10,none⟩=some (.slice ka lk kc):=by rw [cell_of_row _ _ _ _ _ _ hld];first | exact HA2.out | exact HA10.out
       unfold execOp;go_simp
      ·cases hv
      ·cases hv
       cases ho
       have e49:ev (.tmp 49)=.pointer (some ⟨gv,i*11,none⟩):=hdp _ (Array.mem_of_getElem? (i:=0) rfl) rfl _ 49 rfl rfl;unfold execOp;go_simp
      ·cases hv
       cases ho
       have e63:ev (.tmp 63)=.pointer (some ⟨gv,i*11,none⟩):=hdp _ (Array.mem_of_getElem? (i:=0) rfl) rfl _ 63 rfl rfl;unfold execOp;go_simp
      ·cases hv
      ·cases hv
       cases ho
       have e50:ev (.tmp 50)=.pointer (some ⟨gv,i*11,none⟩):=hdp _ (Array.mem_of_getElem? (i:=0) rfl) rfl _ 50 rfl rfl;unfold execOp;go_simp
      ·cases hv
       cases ho
       have e65:ev (.tmp 65)=.pointer (some ⟨gv,i*11,none⟩):=hdp _ (Array.mem_of_getElem? (i:=0) rfl) rfl _ 65 rfl rfl;unfold execOp;go_simp
      ·cases hv
     case hbuild =>
      intro c hc o ho ev w;have hc:c=0∨c=1:=by simp only at hc;omega
      rcases hc with rfl | rfl
      ·cases ho
       obtain ⟨i0,hi0,_,_,_⟩:=info_parts info3;exact cM Try.underlying22 hi0 rfl ev w
      ·cases ho
       obtain ⟨i0,hi0,_,_,_⟩:=info_parts ye7;exact cM Try.underlying84 hi0 rfl ev w
     case hfill =>
      intro c hc o ho ev w hlow hsize hown hdp;have hc:c=0∨c=1:=by simp only at hc;omega
      rcases hc with rfl | rfl
      ·cases ho
       obtain ⟨i0,hi0,hy0,hy1,hy2⟩:=info_parts info3;have e55:ev (.tmp 55)=.slice ca lc cc:=hdp _ (Array.mem_of_getElem? (i:=1) rfl) rfl _ 55 rfl rfl;exact eB Try.underlying22 hi0 hy0 hy1 hy2 rfl (by decide) (by decide) rfl hown rfl e55 (by show (intsV v.cap).length=lc*1;rw [intsV_len,HLC.out,Nat.mul_one]) (by have:=iG HXC.out (fun b hb=>(hlow b (by have:=HBX.out;have:=HRs.out;show b<wr.heap.size;omega) (by have:=HBX.out;have:=HGV.out;show b≠gv;omega)).trans (HR.out.low.block b hb));rw [HLC.out] at this;exact this) hsize
      ·cases ho
       obtain ⟨i0,hi0,hy0,hy1,hy2⟩:=info_parts ye7;have e61:ev (.tmp 61)=.slice ka lk kc:=hdp _ (Array.mem_of_getElem? (i:=1) rfl) rfl _ 61 rfl rfl;exact eB Try.underlying84 hi0 hy0 hy1 hy2 rfl (by decide) (by decide) rfl hown rfl e61 (by show RB.flatten.length=lk*2;rw [dW (ORow.len HB1.out HB2.out),HB1.out,HLK.out]) (by have:=HB3.out w (fun b hb=>(hlow b (by have:=HBX.out;have:=HRs.out;show b<wr.heap.size;omega) (by have:=HBX.out;have:=HGV.out;show b≠gv;omega)).trans (HR.out.low.block b hb));rw [HLK.out] at this;exact this) hsize
     case hstore =>
      intro c hc o ho ev w A hA hAs hdp hsl;have hc:c=0∨c=1:=by simp only at hc;omega
      rcases hc with rfl | rfl
      ·cases ho
       obtain ⟨ad,m,cc,he⟩:=hsl;have e64:ev (.tmp 64)=.pointer (some ⟨gv,i*11+2,none⟩):=hdp _ (Array.mem_of_getElem? (i:=0) rfl) rfl _ 64 rfl rfl;have hlt:i*11+2<A.size:=by rw [hAs];first | exact hO2 | exact hO10
       obtain ⟨i1,hi1,_,hs1,_⟩:=info_parts l6;rw [show ev (.tmp ((fun c=>[56,62].getD c 0) 0))=.slice ad m cc from he];exact fS hi1 hs1 rfl e64 he (by rw [cell_of_row _ _ _ _ _ _ hA];exact Array.getElem?_eq_getElem hlt) (frozen_of_row _ _ _ _ _ hA)
      ·cases ho
       obtain ⟨ad,m,cc,he⟩:=hsl;have e66:ev (.tmp 66)=.pointer (some ⟨gv,i*11+10,none⟩):=hdp _ (Array.mem_of_getElem? (i:=0) rfl) rfl _ 66 rfl rfl;have hlt:i*11+10<A.size:=by rw [hAs];first | exact hO2 | exact hO10
       obtain ⟨i1,hi1,_,hs1,_⟩:=info_parts infoS77;rw [show ev (.tmp ((fun c=>[56,62].getD c 0) 1))=.slice ad m cc from he];exact fS hi1 hs1 rfl e66 he (by rw [cell_of_row _ _ _ _ _ _ hA];exact Array.getElem?_eq_getElem hlt) (frozen_of_row _ _ _ _ _ hA)
     case hend =>
      intro x7 w7 hJ;have rc:w7.ownsRow wr.heap.size 3 1 (x7 7) lc (intsV v.cap):=hJ.row 0 (by show 0<2;decide) rfl;have rb:w7.ownsRow wr.heap.size 91 2 (x7 13) lk RB.flatten:=hJ.row 1 (by show 1<2;decide) rfl;have ap:∀ g,(x7 7).ownBlock=some g→(x7 13).ownBlock≠some g:=hJ.apart 0 (by show 0<2;decide) 1 (by show 1<2;decide) (by decide) rfl rfl;have b1:∃ g,(x7 13).ownBlock=some g:=hJ.blk 1 (by show 1<2;decide) rfl;obtain ⟨gb,gb1⟩:=b1;have hstp:Stp1 wr w7 gv:=⟨hJ.os,hJ.tape,hJ.output,hJ.size,hJ.low⟩;have hsb:w7.heap[gv]? = some (.cells ((A.setIfInBounds (i*11+2) (x7 7)).setIfInBounds (i*11+10) (x7 13)) 86 (0,0)):=by simpa [CR.sbF] using hJ.sb
      have HN7:Hid (CpB w w7 bx gv gj gs gb ⟨d,⟨n,tL⟩,⟨dn,dL⟩,vL,jL,sL⟩ ⟨.slice tA lt tC,.slice dA ld dC,.slice (some ⟨gv,0,none⟩) lv cv,.slice (some ⟨gj,0,none⟩) lj cj,.slice (some ⟨gs,0,none⟩) ls cs⟩ i 0):=CpG.veh HR.out HV.out rfl HLV.out HAS.out HAT.out HQ1.out HQ2.out HQ3.out HQ5.out HQL.out hstp hsb (by rw [HLC.out];exact rc) (by rw [HLK.out];exact rb) ap gb1 HB1.out HB2.out (IntsV.bound HXC.out) (SlV.bound HXB.out) HWD.out;obtain ⟨kb,_,hxb,_⟩:=gN rb gb1
      have v10:w7.cell? ⟨gv,i*11+10,none⟩=some (.slice (some ⟨gb,0,none⟩) lk kb):=by
       rw [cell_of_row _ _ _ _ _ _ hsb,hxb];have:i*11+10<A.size:=hO10
       simp [this]
      clear rc rb ap gb1 hstp hsb hJ;simp only [acc,gZ,List.range,bO,if_true];simp only [List.size_toArray,List.length_cons,List.length_nil,Nat.reduceAdd,List.getElem?_toArray,List.getElem?_cons_zero,List.getElem?_cons_succ,Option.bind_some,List.range.loop,List.foldl_cons,List.foldl_nil,Act.put,List.setIfInBounds_toArray,List.set_cons_zero,List.set_cons_succ];rw [hxb];clear hxb
      generalize x7 7=y7 at *
      go_wp2
      go_loopw [72] (fun vj wr=>∃ j:Nat,vj=.int .i64 j∧j≤lk∧Hid (CpB w wr bx gv gj gs gb ⟨d,⟨n,tL⟩,⟨dn,dL⟩,vL,jL,sL⟩ ⟨.slice tA lt tC,.slice dA ld dC,.slice (some ⟨gv,0,none⟩) lv cv,.slice (some ⟨gj,0,none⟩) lj cj,.slice (some ⟨gs,0,none⟩) ls cs⟩ i j∧wr.cell? ⟨gv,i*11+10,none⟩=some (.slice (some ⟨gb,0,none⟩) lk kb))) (fun vj _=>lk-(intOf vj).toNat)
      case atStart=>exact ⟨0,rfl,Nat.zero_le _,HN7.out,v10⟩
      case round =>
       clear HN7 v10;obtain ⟨j,rfl,hj,HR2⟩:=hrel;have v10:=HR2.out.2
       by_cases hjt:j<lk
       ·obtain ⟨R,q1,q2,q3,q4,q5⟩:=HR2.out.1.v;obtain ⟨l,e1,e2,e3,e4⟩:=q5 i v HV.out;unfold PVb at e4;rw [if_neg (by omega),if_pos rfl] at e4;obtain ⟨xc2,xb2,rfl,hoc,⟨RB2,k1,k2,k3,k4,k5⟩,hwd⟩:=e4
        have hq:xb2=.slice (some ⟨gb,0,none⟩) lk kb:=by
         have:=iH (g:=gv) (show wr.ownsRow (bx+2) 86 11 (.slice (some ⟨gv,0,none⟩) lv cv) lv R.flatten by have h9:=q1;simp only at h9;rw [HLV.out] at h9;exact h9) (i*11+10) xb2 (by rw [dP (ORow.len q2 q5) i 10 _ e1 (by decide)];rfl);rw [v10] at this;exact (Option.some.inj this).symm
        subst hq;obtain ⟨kb2,AB,ee,hgb2,hAB,_,hABs,hABt⟩:=gN k1 rfl;have hkb:kb=kb2:=by injection ee with _ _ e
        subst hkb;rw [HLK.out] at hABt;obtain ⟨bk,hbk⟩:∃ b,v.brks[j]? = some b:=⟨v.brks[j]'(by have:=HLK.out;omega),List.getElem?_eq_getElem _⟩;obtain ⟨lb,f1,f2,f3,y,rfl,f4⟩:=k5 j bk hbk;rw [if_neg (by omega)] at f4;obtain ⟨wa,wc,rfl⟩:=f4.shape;obtain ⟨lw,hlw⟩:∃ q,bk.wins.length=q:=⟨_,rfl⟩;have HLW:=hide hlw;rw [hlw] at f1 f4;have hgvl2:gv<wr.heap.size:=(q1.lt gv HR2.out.1.ev).2;have hng:=k4 gb rfl;have hgvb:gv≠gb:=fun e=>hng (.inl e.symm);have HGB2:=hide hgb2;have HXW:=hide f4;have HV13:Hid (AB[j*2]? = some (.slice wa lw wc)):=by have:=fO (c:=0) (ORow.len k2 k5) hABt f1 (by decide) rfl;exact this
        have hO:j*2<AB.size:=by
         have:=(List.getElem?_eq_some_iff.1 (show AB.toList[j*2]? = _ by simpa using HV13.out)).1
         simpa using this
        have hgbl:gb<wr.heap.size:=(k1.lt gb rfl).2;have HQ1:=hide q1;have HQ2:=hide q2;have HQ3:=hide q3;have HQ5:=hide q5;have HQL:=hide e1;have HOC:=hide hoc;have HNG:=hide hng;have HWD:=hide hwd;have HK1:=hide k1;have HK2:=hide k2;have HK3:=hide k3;have HK5:=hide k5;have HBK:=hide hbk;have HBL:=hide f1;have HAS:=hide hABs;have HAT:=hide hABt;have HAB:=hide hAB;have j3:(j:Int)<(lk:Int):=by omega
        have j4:(0:Int)≤(j:Int):=by omega
        have hlkb:lk*32≤140737488351232:=by have h9:=k3;rw [HLK.out] at h9;exact h9
        clear q1 q2 q3 q4 q5 e1 e2 e3 hoc k1 k2 k3 k4 k5 hwd hABs hABt hAB hbk f1 f2 f3 f4 hlw hng ee hgb2;go_wp2;refine CR.walk (R:={ ops:=_,k:=1,b:=fun c=>[5].getD c 0,a:=fun c=>[14].getD c 0,s:=fun c=>[17].getD c 0,T:=fun c=>[61].getD c 0,z:=fun c=>[2].getD c 0,m:=fun c=>[lw].getD c 0,off:=fun c=>[j*2].getD c 0,xs:=fun c=>[cX bk.wins].getD c [],pv:=fun qi=>([some (.pointer (some ⟨gv,i*11,none⟩)),some (.pointer (some ⟨gv,i*11,none⟩)),some (.pointer (some ⟨gv,i*11+10,none⟩)),some (.slice (some ⟨gb,0,none⟩) lk kb),some (.int .i64 j),none,some (.pointer (some ⟨gv,i*11,none⟩)),some (.pointer (some ⟨gv,i*11,none⟩)),some (.pointer (some ⟨gv,i*11+10,none⟩)),some (.slice (some ⟨gb,0,none⟩) lk kb),some (.int .i64 j),some (.pointer (some ⟨gb,j*2,none⟩)),some (.pointer (some ⟨gb,j*2,none⟩)),some (.slice wa lw wc),none,some (.pointer (some ⟨gb,j*2,none⟩)),some (.pointer (some ⟨gb,j*2,none⟩)),none]:List (Option Value)).getD qi none,ld:=fun qi=>[13].contains qi,SB:=gb,B:=wr.heap.size,arr:=AB,TS:=91 }) (tb:=fun c=>[80].getD c 0) (ta:=fun c=>[89].getD c 0) (CR.ok_of (tl:=18) (lds:=[13]) (by kernel_rfl) ?hp ?hl ?hsb ?ho) (by kernel_rfl) (by kernel_rfl) (by kernel_rfl) (by kernel_rfl) ?hB ?harr ?hsz ?htb ?hta ?hpure ?hbuild ?hfill ?hstore ?hend
        case hp=>exact fun qi h=>gT (l:=[some (.pointer (some ⟨gv,i*11,none⟩)),some (.pointer (some ⟨gv,i*11,none⟩)),some (.pointer (some ⟨gv,i*11+10,none⟩)),some (.slice (some ⟨gb,0,none⟩) lk kb),some (.int .i64 j),none,some (.pointer (some ⟨gv,i*11,none⟩)),some (.pointer (some ⟨gv,i*11,none⟩)),some (.pointer (some ⟨gv,i*11+10,none⟩)),some (.slice (some ⟨gb,0,none⟩) lk kb),some (.int .i64 j),some (.pointer (some ⟨gb,j*2,none⟩)),some (.pointer (some ⟨gb,j*2,none⟩)),some (.slice wa lw wc),none,some (.pointer (some ⟨gb,j*2,none⟩)),some (.pointer (some ⟨gb,j*2,none⟩)),none]) h
        case hl=>exact fun qi h=>by simpa using h
        case hsb=>(show gb<wr.heap.size;exact hgbl)
        case ho =>
         intro c hc;have hc:c=0:=by simp only at hc;omega
         rcases hc with rfl <;> exact hO
        case hB=>rfl
        case harr=>exact HAB.out
        case hsz =>
         intro qi d hd;have:=oP (n:=177) (by kernel_rfl) hd;exact this
        case htb =>
         intro c hc;have hc:c=0:=by simp only at hc;omega
         rcases hc with rfl <;> rfl
        case hta =>
         intro c hc;have hc:c=0:=by simp only at hc;omega
         rcases hc with rfl <;> rfl
        case hpure =>
         intro qi qo qv ev qw ho hv hdp hout hlow hld;have hqi:qi<18:=gT (l:=[some (.pointer (some ⟨gv,i*11,none⟩)),some (.pointer (some ⟨gv,i*11,none⟩)),some (.pointer (some ⟨gv,i*11+10,none⟩)),some (.slice (some ⟨gb,0,none⟩) lk kb),some (.int .i64 j),none,some (.pointer (some ⟨gv,i*11,none⟩)),some (.pointer (some ⟨gv,i*11,none⟩)),some (.pointer (some ⟨gv,i*11+10,none⟩)),some (.slice (some ⟨gb,0,none⟩) lk kb),some (.int .i64 j),some (.pointer (some ⟨gb,j*2,none⟩)),some (.pointer (some ⟨gb,j*2,none⟩)),some (.slice wa lw wc),none,some (.pointer (some ⟨gb,j*2,none⟩)),some (.pointer (some ⟨gb,j*2,none⟩)),none]) (by rw [show ([some (.pointer (some ⟨gv,i*11,none⟩)),some (.pointer (some ⟨gv,i*11,none⟩)),some (.pointer (some ⟨gv,i*11+10,none⟩)),some (.slice (some ⟨gb,0,none⟩) lk kb),some (.int .i64 j),none,some (.pointer (some ⟨gv,i*11,none⟩)),some (.pointer (some ⟨gv,i*11,none⟩)),some (.pointer (some ⟨gv,i*11+10,none⟩)),some (.slice (some ⟨gb,0,none⟩) lk kb),some (.int .i64 j),some (.pointer (some ⟨gb,j*2,none⟩)),some (.pointer (some ⟨gb,j*2,none⟩)),some (.slice wa lw wc),none,some (.pointer (some ⟨gb,j*2,none⟩)),some (.pointer (some ⟨gb,j*2,none⟩)),none]:List (Option Value)).getD qi none=some qv from hv];rfl);have hqi:qi=0∨qi=1∨qi=2∨qi=3∨qi=4∨qi=5∨qi=6∨qi=7∨qi=8∨qi=9∨qi=10∨qi=11∨qi=12∨qi=13∨qi=14∨qi=15∨qi=16∨qi=17:=by omega
         rcases hqi with rfl | rfl | rfl | rfl | rfl | rfl | rfl | rfl | rfl | rfl | rfl | rfl | rfl | rfl | rfl | rfl | rfl | rfl
         ·cases hv
          cases ho
          have e4:ev (.tmp 4)=.pointer (some ⟨gv,i*11,none⟩):=(hout 4 (bT (by kernel_rfl))).trans rfl;unfold execOp;go_simp
         ·cases hv
          cases ho
          have e75:ev (.tmp 75)=.pointer (some ⟨gv,i*11,none⟩):=hdp _ (Array.mem_of_getElem? (i:=0) rfl) rfl _ 75 rfl rfl;unfold execOp;go_simp
         ·cases hv
          cases ho
          have e76:ev (.tmp 76)=.pointer (some ⟨gv,i*11,none⟩):=hdp _ (Array.mem_of_getElem? (i:=0) rfl) rfl _ 76 rfl rfl;unfold execOp;go_simp
         ·cases hv
          cases ho
          have e77:ev (.tmp 77)=.pointer (some ⟨gv,i*11+10,none⟩):=hdp _ (Array.mem_of_getElem? (i:=0) rfl) rfl _ 77 rfl rfl;have hcl:qw.cell? ⟨gv,i*11+10,none⟩=some (.slice (some ⟨gb,0,none⟩) lk kb):=by rw [World.cell?_of_block (hlow gv (by show gv<wr.heap.size;exact hgvl2) (by show gv≠gb;exact hgvb))];exact v10
          unfold execOp;go_simp
         ·cases hv
          cases ho
          have e5:ev (.tmp 5)=.int .i64 j:=(hout 5 (bT (by kernel_rfl))).trans rfl;unfold execOp;go_simp
         ·cases hv
         ·cases hv
          cases ho
          have e4:ev (.tmp 4)=.pointer (some ⟨gv,i*11,none⟩):=(hout 4 (bT (by kernel_rfl))).trans rfl;unfold execOp;go_simp
         ·cases hv
          cases ho
          have e81:ev (.tmp 81)=.pointer (some ⟨gv,i*11,none⟩):=hdp _ (Array.mem_of_getElem? (i:=0) rfl) rfl _ 81 rfl rfl;unfold execOp;go_simp
         ·cases hv
          cases ho
          have e82:ev (.tmp 82)=.pointer (some ⟨gv,i*11,none⟩):=hdp _ (Array.mem_of_getElem? (i:=0) rfl) rfl _ 82 rfl rfl;unfold execOp;go_simp
         ·cases hv
          cases ho
          have e83:ev (.tmp 83)=.pointer (some ⟨gv,i*11+10,none⟩):=hdp _ (Array.mem_of_getElem? (i:=0) rfl) rfl _ 83 rfl rfl;have hcl:qw.cell? ⟨gv,i*11+10,none⟩=some (.slice (some ⟨gb,0,none⟩) lk kb):=by rw [World.cell?_of_block (hlow gv (by show gv<wr.heap.size;exact hgvl2) (by show gv≠gb;exact hgvb))];exact v10
          unfold execOp;go_simp
         ·cases hv
          cases ho
          have e5:ev (.tmp 5)=.int .i64 j:=(hout 5 (bT (by kernel_rfl))).trans rfl;unfold execOp;go_simp
         ·cases hv
          cases ho
          have e84:ev (.tmp 84)=.slice (some ⟨gb,0,none⟩) lk kb:=hdp _ (Array.mem_of_getElem? (i:=0) rfl) rfl _ 84 rfl rfl;have e85:ev (.tmp 85)=.int .i64 j:=hdp _ (Array.mem_of_getElem? (i:=1) rfl) rfl _ 85 rfl rfl;unfold execOp;go_simp
         ·cases hv
          cases ho
          have e86:ev (.tmp 86)=.pointer (some ⟨gb,j*2,none⟩):=hdp _ (Array.mem_of_getElem? (i:=0) rfl) rfl _ 86 rfl rfl;unfold execOp;go_simp
         ·cases hv
          cases ho
          have e87:ev (.tmp 87)=.pointer (some ⟨gb,j*2,none⟩):=hdp _ (Array.mem_of_getElem? (i:=0) rfl) rfl _ 87 rfl rfl;have hld:=hld rfl;have hcl:qw.cell? ⟨gb,j*2,none⟩=some (.slice wa lw wc):=by rw [cell_of_row _ _ _ _ _ _ hld];exact HV13.out
          unfold execOp;go_simp
         ·cases hv
         ·cases hv
          cases ho
          have e78:ev (.tmp 78)=.slice (some ⟨gb,0,none⟩) lk kb:=hdp _ (Array.mem_of_getElem? (i:=0) rfl) rfl _ 78 rfl rfl;have e79:ev (.tmp 79)=.int .i64 j:=hdp _ (Array.mem_of_getElem? (i:=1) rfl) rfl _ 79 rfl rfl;unfold execOp;go_simp
         ·cases hv
          cases ho
          have e90:ev (.tmp 90)=.pointer (some ⟨gb,j*2,none⟩):=hdp _ (Array.mem_of_getElem? (i:=0) rfl) rfl _ 90 rfl rfl;unfold execOp;go_simp
         ·cases hv
        case hbuild =>
         intro c hc o ho ev w;have hc:c=0:=by simp only at hc;omega
         rcases hc with rfl
         ·cases ho
          obtain ⟨i0,hi0,_,_,_⟩:=info_parts jR;exact cM Try.underlying43 hi0 rfl ev w
        case hfill =>
         intro c hc o ho ev w hlow hsize hown hdp;have hc:c=0:=by simp only at hc;omega
         rcases hc with rfl
         ·cases ho
          obtain ⟨i0,hi0,hy0,hy1,hy2⟩:=info_parts jR;have e88:ev (.tmp 88)=.slice wa lw wc:=hdp _ (Array.mem_of_getElem? (i:=1) rfl) rfl _ 88 rfl rfl;exact eB Try.underlying43 hi0 hy0 hy1 hy2 rfl (by decide) (by decide) rfl hown rfl e88 (by show (cX bk.wins).length=lw*2;rw [iC,HLW.out]) (by have:=kM HXW.out (fun b hb=>(hlow b (by have:=HBX.out;have:=HR2.out.1.sz;show b<wr.heap.size;omega) (by have:=HBX.out;have:=HGB2.out;show b≠gb;omega)).trans (HR2.out.1.low.block b hb));rw [HLW.out] at this;exact this) hsize
        case hstore =>
         intro c hc o ho ev w A hA hAs hdp hsl;have hc:c=0:=by simp only at hc;omega
         rcases hc with rfl
         ·cases ho
          obtain ⟨ad,m,cc,he⟩:=hsl;have e91:ev (.tmp 91)=.pointer (some ⟨gb,j*2,none⟩):=hdp _ (Array.mem_of_getElem? (i:=0) rfl) rfl _ 91 rfl rfl;have hlt:j*2<A.size:=by rw [hAs];exact hO
          obtain ⟨i1,hi1,_,hs1,_⟩:=info_parts pN;rw [show ev (.tmp ((fun c=>[89].getD c 0) 0))=.slice ad m cc from he];exact fS hi1 hs1 rfl e91 he (by rw [cell_of_row _ _ _ _ _ _ hA];exact Array.getElem?_eq_getElem hlt) (frozen_of_row _ _ _ _ _ hA)
        case hend =>
         intro x11 w11 hJ;have ry:w11.ownsRow wr.heap.size 61 2 (x11 14) lw (cX bk.wins):=hJ.row 0 (by show 0<1;decide) rfl;have hstp:Stp1 wr w11 gb:=⟨hJ.os,hJ.tape,hJ.output,hJ.size,hJ.low⟩;have hsb:w11.heap[gb]? = some (.cells (AB.setIfInBounds (j*2) (x11 14)) 91 (0,0)):=by simpa [CR.sbF] using hJ.sb
         have HN:Hid (CpB w w11 bx gv gj gs gb ⟨d,⟨n,tL⟩,⟨dn,dL⟩,vL,jL,sL⟩ ⟨.slice tA lt tC,.slice dA ld dC,.slice (some ⟨gv,0,none⟩) lv cv,.slice (some ⟨gj,0,none⟩) lj cj,.slice (some ⟨gs,0,none⟩) ls cs⟩ i (j+1)):=CpG.brk HR2.out.1 HV.out HQ1.out HQ2.out HQ3.out HQ5.out HQL.out HOC.out HNG.out HLK.out HWD.out HK1.out HK2.out HK3.out HK5.out HBK.out HBL.out HAS.out HAT.out hstp hsb (by rw [HLW.out];exact ry) (by obtain ⟨_,_,_,_,hm⟩:=HXW.out;exact hm.max);have HV10:Hid (w11.cell? ⟨gv,i*11+10,none⟩=some (.slice (some ⟨gb,0,none⟩) lk kb)):=by show _=_;rw [World.cell?_of_block (hstp.block gv hgvl2 hgvb)];exact v10
         clear ry hstp hsb hJ;simp only [acc,gZ,List.range,bO,if_true];simp only [List.size_toArray,List.length_cons,List.length_nil,Nat.reduceAdd,List.getElem?_toArray,List.getElem?_cons_zero,List.getElem?_cons_succ,Option.bind_some,List.range.loop,List.foldl_cons,List.foldl_nil,Act.put,List.setIfInBounds_toArray,List.set_cons_zero,List.set_cons_succ]
         generalize x11 14=y14 at *
         go_wp2;go_roundw
         case rel=>exact ⟨j+1,by go_num,by omega,HN.out,HV10.out⟩
         case measure=>simp [intOf];omega
       ·have j3:¬ (j:Int)<(lk:Int):=by omega
        have hjj:j=v.brks.length:=by have:=HLK.out;omega
        have HN8:Hid (CpS w wr bx gv gj gs ⟨d,⟨n,tL⟩,⟨dn,dL⟩,vL,jL,sL⟩ ⟨.slice tA lt tC,.slice dA ld dC,.slice (some ⟨gv,0,none⟩) lv cv,.slice (some ⟨gj,0,none⟩) lj cj,.slice (some ⟨gs,0,none⟩) ls cs⟩ (i+1) 0 0):=CpG.vehEnd HV.out (hjj ▸ HR2.out.1);clear hjj v10;go_wp2;go_roundw
        case rel=>exact ⟨i+1,by go_num,by omega,HN8.out⟩
        case measure=>simp [intOf];omega
    ·have i3:¬ (i:Int)<(lv:Int):=by omega
     have hii:lv=i:=by omega
     subst hii;go_wp2
     go_loopw [97] (fun vi wr=>∃ k:Nat,vi=.int .i64 k∧k≤lj∧Hid (CpS w wr bx gv gj gs ⟨d,⟨n,tL⟩,⟨dn,dL⟩,vL,jL,sL⟩ ⟨.slice tA lt tC,.slice dA ld dC,.slice (some ⟨gv,0,none⟩) lv cv,.slice (some ⟨gj,0,none⟩) lj cj,.slice (some ⟨gs,0,none⟩) ls cs⟩ lv (k) 0)) (fun vi _=>lj-(intOf vi).toNat)
     case atStart=>exact ⟨0,rfl,Nat.zero_le _,HR.out⟩
     case round =>
      clear hit ;obtain ⟨k,rfl,hi,JR⟩:=hrel;have hb6:wr.cell? ⟨bx,6,none⟩=some (.slice (some ⟨gj,0,none⟩) lj cj):=by rw [cell_of_row _ _ _ _ _ _ JR.out.box];rfl
      have hb7:wr.cell? ⟨bx,7,none⟩=some (.slice (some ⟨gs,0,none⟩) ls cs):=by rw [cell_of_row _ _ _ _ _ _ JR.out.box];rfl
      have hljb:lj*104≤140737488351232:=by obtain ⟨_,_,_,h9,_⟩:=JR.out.j;simp only at h9;rw [HLJ.out] at h9;exact h9
      by_cases hit:k<lj
      ·have i3:(k:Int)<(lj:Int):=by omega
       have i4:(0:Int)≤(k:Int):=by omega
       obtain ⟨R,q1,q2,q3,q4,q5⟩:=JR.out.j;obtain ⟨cv2,A,ee,hgv2,hA,_,hAs0,hAt⟩:=gN q1 JR.out.ej;have hcv:cj=cv2:=by injection ee with _ _ e
       subst hcv;simp only at hAt;rw [HLJ.out] at hAt;obtain ⟨v,hv⟩:∃ v,jL[k]? = some v:=⟨jL[k]'(by have:=HLJ.out;omega),List.getElem?_eq_getElem _⟩;obtain ⟨l,e1,e2,e3,e4⟩:=q5 k v hv;unfold mP at e4;rw [if_neg (by omega)] at e4;obtain ⟨xw,xd,xp,rfl,gwi,gdr,gpi,gwd⟩:=e4;obtain ⟨adr,cdr,rfl⟩:=gdr.shape;obtain ⟨ldr,hldr⟩:∃ q,(v.drop).length=q:=⟨_,rfl⟩;have HLdr:=hide hldr;obtain ⟨api,cpi,rfl⟩:=gpi.shape;obtain ⟨lpi,hlpi⟩:∃ q,(v.pick).length=q:=⟨_,rfl⟩;have HLpi:=hide hlpi;obtain ⟨awi,cwi,rfl⟩:=gwi.shape;obtain ⟨lwi,hlwi⟩:∃ q,(v.stop.wins).length=q:=⟨_,rfl⟩;have HLwi:=hide hlwi;rw [hldr,hlpi,hlwi] at e1;rw [hldr] at gdr;have HXdr:=hide gdr;rw [hlpi] at gpi;have HXpi:=hide gpi;rw [hlwi] at gwi;have HXwi:=hide gwi;have JWD:=hide gwd;have JV:=hide hv;have JQ1:=hide q1;have JQ2:=hide q2;have JQ3:=hide q3;have JQ5:=hide q5;have JQL:=hide e1;have JAS:=hide hAs0;have JAT:=hide hAt;have JA:=hide hA;have JGV:=hide hgv2;have JRs:=hide JR.out.sz;have HAdr:Hid (A[k*7+3]? = some (.slice adr ldr cdr)):=fO (ORow.len q2 q5) hAt e1 (by decide) rfl
       have hOdr:k*7+3<A.size:=by
        have:=(List.getElem?_eq_some_iff.1 (show A.toList[k*7+3]? = _ by simpa using HAdr.out)).1
        simpa using this
       have HApi:Hid (A[k*7+4]? = some (.slice api lpi cpi)):=fO (ORow.len q2 q5) hAt e1 (by decide) rfl
       have hOpi:k*7+4<A.size:=by
        have:=(List.getElem?_eq_some_iff.1 (show A.toList[k*7+4]? = _ by simpa using HApi.out)).1
        simpa using this
       have HAwi:Hid (A[k*7+2]? = some (.slice awi lwi cwi)):=fO (ORow.len q2 q5) hAt e1 (by decide) rfl
       have hOwi:k*7+2<A.size:=by
        have:=(List.getElem?_eq_some_iff.1 (show A.toList[k*7+2]? = _ by simpa using HAwi.out)).1
        simpa using this
       have hgvl:gj<wr.heap.size:=(q1.lt gj JR.out.ej).2;clear q1 q2 q3 q4 q5 e1 e2 e3 gwd gdr gpi gwi hA hAs0 hAt hldr hlpi hlwi hv ee hgv2;go_wp2;refine CR.walk (R:={ ops:=_,k:=3,b:=fun c=>[3,9,15].getD c 0,a:=fun c=>[8,14,21].getD c 0,s:=fun c=>[24,27,31].getD c 0,T:=fun c=>[3,3,61].getD c 0,z:=fun c=>[1,1,2].getD c 0,m:=fun c=>[ldr,lpi,lwi].getD c 0,off:=fun c=>[k*7+3,k*7+4,k*7+2].getD c 0,xs:=fun c=>[intsV v.drop,intsV v.pick,cX (v.stop.wins)].getD c [],pv:=fun qi=>([some (.pointer (some ⟨gj,k*7,none⟩)),some (.pointer (some ⟨gj,k*7,none⟩)),some (.pointer (some ⟨gj,k*7,none⟩)),none,some (.pointer (some ⟨gj,k*7,none⟩)),some (.pointer (some ⟨gj,k*7,none⟩)),some (.pointer (some ⟨gj,k*7+3,none⟩)),some (.slice adr ldr cdr),none,none,some (.pointer (some ⟨gj,k*7,none⟩)),some (.pointer (some ⟨gj,k*7,none⟩)),some (.pointer (some ⟨gj,k*7+4,none⟩)),some (.slice api lpi cpi),none,none,some (.pointer (some ⟨gj,k*7,none⟩)),some (.pointer (some ⟨gj,k*7,none⟩)),some (.pointer (some ⟨gj,k*7,none⟩)),some (.pointer (some ⟨gj,k*7+2,none⟩)),some (.slice awi lwi cwi),none,some (.pointer (some ⟨gj,k*7,none⟩)),some (.pointer (some ⟨gj,k*7+3,none⟩)),none,some (.pointer (some ⟨gj,k*7,none⟩)),some (.pointer (some ⟨gj,k*7+4,none⟩)),none,some (.pointer (some ⟨gj,k*7,none⟩)),some (.pointer (some ⟨gj,k*7,none⟩)),some (.pointer (some ⟨gj,k*7+2,none⟩)),none]:List (Option Value)).getD qi none,ld:=fun qi=>[7,13,20].contains qi,SB:=gj,B:=wr.heap.size,arr:=A,TS:=67 }) (tb:=fun c=>[107,113,119].getD c 0) (ta:=fun c=>[112,118,125].getD c 0) (CR.ok_of (tl:=32) (lds:=[7,13,20]) (by kernel_rfl) ?hp ?hl ?hsb ?ho) (by kernel_rfl) (by kernel_rfl) (by kernel_rfl) (by kernel_rfl) ?hB ?harr ?hsz ?htb ?hta ?hpure ?hbuild ?hfill ?hstore ?hend
       case hp=>exact fun qi h=>gT (l:=[some (.pointer (some ⟨gj,k*7,none⟩)),some (.pointer (some ⟨gj,k*7,none⟩)),some (.pointer (some ⟨gj,k*7,none⟩)),none,some (.pointer (some ⟨gj,k*7,none⟩)),some (.pointer (some ⟨gj,k*7,none⟩)),some (.pointer (some ⟨gj,k*7+3,none⟩)),some (.slice adr ldr cdr),none,none,some (.pointer (some ⟨gj,k*7,none⟩)),some (.pointer (some ⟨gj,k*7,none⟩)),some (.pointer (some ⟨gj,k*7+4,none⟩)),some (.slice api lpi cpi),none,none,some (.pointer (some ⟨gj,k*7,none⟩)),some (.pointer (some ⟨gj,k*7,none⟩)),some (.pointer (some ⟨gj,k*7,none⟩)),some (.pointer (some ⟨gj,k*7+2,none⟩)),some (.slice awi lwi cwi),none,some (.pointer (some ⟨gj,k*7,none⟩)),some (.pointer (some ⟨gj,k*7+3,none⟩)),none,some (.pointer (some ⟨gj,k*7,none⟩)),some (.pointer (some ⟨gj,k*7+4,none⟩)),none,some (.pointer (some ⟨gj,k*7,none⟩)),some (.pointer (some ⟨gj,k*7,none⟩)),some (.pointer (some ⟨gj,k*7+2,none⟩)),none]) h
       case hl=>exact fun qi h=>by simpa using h
       case hsb=>(show gj<wr.heap.size;exact hgvl)
       case ho =>
        intro c hc;have hc:c=0∨c=1∨c=2:=by simp only at hc;omega
        rcases hc with rfl | rfl | rfl <;> first | exact hOdr | exact hOpi | exact hOwi
       case hB=>rfl
       case harr=>exact JA.out
       case hsz =>
        intro qi d hd;have:=oP (n:=177) (by kernel_rfl) hd;exact this
       case htb =>
        intro c hc;have hc:c=0∨c=1∨c=2:=by simp only at hc;omega
        rcases hc with rfl | rfl | rfl <;> rfl
       case hta =>
        intro c hc;have hc:c=0∨c=1∨c=2:=by simp only at hc;omega
        rcases hc with rfl | rfl | rfl <;> rfl
       case hpure =>
        intro qi qo qv ev qw ho hv hdp hout hlow hld;have hqi:qi<32:=gT (l:=[some (.pointer (some ⟨gj,k*7,none⟩)),some (.pointer (some ⟨gj,k*7,none⟩)),some (.pointer (some ⟨gj,k*7,none⟩)),none,some (.pointer (some ⟨gj,k*7,none⟩)),some (.pointer (some ⟨gj,k*7,none⟩)),some (.pointer (some ⟨gj,k*7+3,none⟩)),some (.slice adr ldr cdr),none,none,some (.pointer (some ⟨gj,k*7,none⟩)),some (.pointer (some ⟨gj,k*7,none⟩)),some (.pointer (some ⟨gj,k*7+4,none⟩)),some (.slice api lpi cpi),none,none,some (.pointer (some ⟨gj,k*7,none⟩)),some (.pointer (some ⟨gj,k*7,none⟩)),some (.pointer (some ⟨gj,k*7,none⟩)),some (.pointer (some ⟨gj,k*7+2,none⟩)),some (.slice awi lwi cwi),none,some (.pointer (some ⟨gj,k*7,none⟩)),some (.pointer (some ⟨gj,k*7+3,none⟩)),none,some (.pointer (some ⟨gj,k*7,none⟩)),some (.pointer (some ⟨gj,k*7+4,none⟩)),none,some (.pointer (some ⟨gj,k*7,none⟩)),some (.pointer (some ⟨gj,k*7,none⟩)),some (.pointer (some ⟨gj,k*7+2,none⟩)),none]) (by rw [show ([some (.pointer (some ⟨gj,k*7,none⟩)),some (.pointer (some ⟨gj,k*7,none⟩)),some (.pointer (some ⟨gj,k*7,none⟩)),none,some (.pointer (some ⟨gj,k*7,none⟩)),some (.pointer (some ⟨gj,k*7,none⟩)),some (.pointer (some ⟨gj,k*7+3,none⟩)),some (.slice adr ldr cdr),none,none,some (.pointer (some ⟨gj,k*7,none⟩)),some (.pointer (some ⟨gj,k*7,none⟩)),some (.pointer (some ⟨gj,k*7+4,none⟩)),some (.slice api lpi cpi),none,none,some (.pointer (some ⟨gj,k*7,none⟩)),some (.pointer (some ⟨gj,k*7,none⟩)),some (.pointer (some ⟨gj,k*7,none⟩)),some (.pointer (some ⟨gj,k*7+2,none⟩)),some (.slice awi lwi cwi),none,some (.pointer (some ⟨gj,k*7,none⟩)),some (.pointer (some ⟨gj,k*7+3,none⟩)),none,some (.pointer (some ⟨gj,k*7,none⟩)),some (.pointer (some ⟨gj,k*7+4,none⟩)),none,some (.pointer (some ⟨gj,k*7,none⟩)),some (.pointer (some ⟨gj,k*7,none⟩)),some (.pointer (some ⟨gj,k*7+2,none⟩)),none]:List (Option Value)).getD qi none=some qv from hv];rfl);have hqi:qi=0∨qi=1∨qi=2∨qi=3∨qi=4∨qi=5∨qi=6∨qi=7∨qi=8∨qi=9∨qi=10∨qi=11∨qi=12∨qi=13∨qi=14∨qi=15∨qi=16∨qi=17∨qi=18∨qi=19∨qi=20∨qi=21∨qi=22∨qi=23∨qi=24∨qi=25∨qi=26∨qi=27∨qi=28∨qi=29∨qi=30∨qi=31:=by omega
        rcases hqi with rfl | rfl | rfl | rfl | rfl | rfl | rfl | rfl | rfl | rfl | rfl | rfl | rfl | rfl | rfl | rfl | rfl | rfl | rfl | rfl | rfl | rfl | rfl | rfl | rfl | rfl | rfl | rfl | rfl | rfl | rfl | rfl
        ·cases hv
         cases ho
         have e7:ev (.tmp 7)=.pointer (some ⟨gj,k*7,none⟩):=(hout 7 (bT (by kernel_rfl))).trans rfl;unfold execOp;go_simp
        ·cases hv
         cases ho
         have e7:ev (.tmp 7)=.pointer (some ⟨gj,k*7,none⟩):=(hout 7 (bT (by kernel_rfl))).trans rfl;unfold execOp;go_simp
        ·cases hv
         cases ho
         have e7:ev (.tmp 7)=.pointer (some ⟨gj,k*7,none⟩):=(hout 7 (bT (by kernel_rfl))).trans rfl;unfold execOp;go_simp
        ·cases hv
        ·cases hv
         cases ho
         have e7:ev (.tmp 7)=.pointer (some ⟨gj,k*7,none⟩):=(hout 7 (bT (by kernel_rfl))).trans rfl;unfold execOp;go_simp
        ·cases hv
         cases ho
         have e108:ev (.tmp 108)=.pointer (some ⟨gj,k*7,none⟩):=hdp _ (Array.mem_of_getElem? (i:=0) rfl) rfl _ 108 rfl rfl;unfold execOp;go_simp
        ·cases hv
         cases ho
         have e109:ev (.tmp 109)=.pointer (some ⟨gj,k*7,none⟩):=hdp _ (Array.mem_of_getElem? (i:=0) rfl) rfl _ 109 rfl rfl;unfold execOp;go_simp
        ·cases hv
         cases ho
         have e110:ev (.tmp 110)=.pointer (some ⟨gj,k*7+3,none⟩):=hdp _ (Array.mem_of_getElem? (i:=0) rfl) rfl _ 110 rfl rfl;have hld:=hld rfl;have hcl:qw.cell? ⟨gj,k*7+3,none⟩=some (.slice adr ldr cdr):=by rw [cell_of_row _ _ _ _ _ _ hld];first | exact HAdr.out | exact HApi.out | exact HAwi.out
         unfold execOp;go_simp
        ·cases hv
        ·cases hv
        ·cases hv
         cases ho
         have e7:ev (.tmp 7)=.pointer (some ⟨gj,k*7,none⟩):=(hout 7 (bT (by kernel_rfl))).trans rfl;unfold execOp;go_simp
        ·cases hv
         cases ho
         have e114:ev (.tmp 114)=.pointer (some ⟨gj,k*7,none⟩):=hdp _ (Array.mem_of_getElem? (i:=0) rfl) rfl _ 114 rfl rfl;unfold execOp;go_simp
        ·cases hv
         cases ho
         have e115:ev (.tmp 115)=.pointer (some ⟨gj,k*7,none⟩):=hdp _ (Array.mem_of_getElem? (i:=0) rfl) rfl _ 115 rfl rfl;unfold execOp;go_simp
        ·cases hv
         cases ho
         have e116:ev (.tmp 116)=.pointer (some ⟨gj,k*7+4,none⟩):=hdp _ (Array.mem_of_getElem? (i:=0) rfl) rfl _ 116 rfl rfl;have hld:=hld rfl;have hcl:qw.cell? ⟨gj,k*7+4,none⟩=some (.slice api lpi cpi):=by rw [cell_of_row _ _ _ _ _ _ hld];first | exact HAdr.out | exact HApi.out | exact HAwi.out
         unfold execOp;go_simp
        ·cases hv
        ·cases hv
        ·cases hv
         cases ho
         have e7:ev (.tmp 7)=.pointer (some ⟨gj,k*7,none⟩):=(hout 7 (bT (by kernel_rfl))).trans rfl;unfold execOp;go_simp
        ·cases hv
         cases ho
         have e120:ev (.tmp 120)=.pointer (some ⟨gj,k*7,none⟩):=hdp _ (Array.mem_of_getElem? (i:=0) rfl) rfl _ 120 rfl rfl;unfold execOp;go_simp
        ·cases hv
         cases ho
         have e121:ev (.tmp 121)=.pointer (some ⟨gj,k*7,none⟩):=hdp _ (Array.mem_of_getElem? (i:=0) rfl) rfl _ 121 rfl rfl;unfold execOp;go_simp
        ·cases hv
         cases ho
         have e122:ev (.tmp 122)=.pointer (some ⟨gj,k*7,none⟩):=hdp _ (Array.mem_of_getElem? (i:=0) rfl) rfl _ 122 rfl rfl;unfold execOp;go_simp
        ·cases hv
         cases ho
         have e123:ev (.tmp 123)=.pointer (some ⟨gj,k*7+2,none⟩):=hdp _ (Array.mem_of_getElem? (i:=0) rfl) rfl _ 123 rfl rfl;have hld:=hld rfl;have hcl:qw.cell? ⟨gj,k*7+2,none⟩=some (.slice awi lwi cwi):=by rw [cell_of_row _ _ _ _ _ _ hld];first | exact HAdr.out | exact HApi.out | exact HAwi.out
         unfold execOp;go_simp
        ·cases hv
        ·cases hv
         cases ho
         have e104:ev (.tmp 104)=.pointer (some ⟨gj,k*7,none⟩):=hdp _ (Array.mem_of_getElem? (i:=0) rfl) rfl _ 104 rfl rfl;unfold execOp;go_simp
        ·cases hv
         cases ho
         have e126:ev (.tmp 126)=.pointer (some ⟨gj,k*7,none⟩):=hdp _ (Array.mem_of_getElem? (i:=0) rfl) rfl _ 126 rfl rfl;unfold execOp;go_simp
        ·cases hv
        ·cases hv
         cases ho
         have e105:ev (.tmp 105)=.pointer (some ⟨gj,k*7,none⟩):=hdp _ (Array.mem_of_getElem? (i:=0) rfl) rfl _ 105 rfl rfl;unfold execOp;go_simp
        ·cases hv
         cases ho
         have e128:ev (.tmp 128)=.pointer (some ⟨gj,k*7,none⟩):=hdp _ (Array.mem_of_getElem? (i:=0) rfl) rfl _ 128 rfl rfl;unfold execOp;go_simp
        ·cases hv
        ·cases hv
         cases ho
         have e106:ev (.tmp 106)=.pointer (some ⟨gj,k*7,none⟩):=hdp _ (Array.mem_of_getElem? (i:=0) rfl) rfl _ 106 rfl rfl;unfold execOp;go_simp
        ·cases hv
         cases ho
         have e130:ev (.tmp 130)=.pointer (some ⟨gj,k*7,none⟩):=hdp _ (Array.mem_of_getElem? (i:=0) rfl) rfl _ 130 rfl rfl;unfold execOp;go_simp
        ·cases hv
         cases ho
         have e131:ev (.tmp 131)=.pointer (some ⟨gj,k*7,none⟩):=hdp _ (Array.mem_of_getElem? (i:=0) rfl) rfl _ 131 rfl rfl;unfold execOp;go_simp
        ·cases hv
       case hbuild =>
        intro c hc o ho ev w;have hc:c=0∨c=1∨c=2:=by simp only at hc;omega
        rcases hc with rfl | rfl | rfl
        ·cases ho
         obtain ⟨i0,hi0,_,_,_⟩:=info_parts info3;exact cM Try.underlying22 hi0 rfl ev w
        ·cases ho
         obtain ⟨i0,hi0,_,_,_⟩:=info_parts info3;exact cM Try.underlying22 hi0 rfl ev w
        ·cases ho
         obtain ⟨i0,hi0,_,_,_⟩:=info_parts jR;exact cM Try.underlying43 hi0 rfl ev w
       case hfill =>
        intro c hc o ho ev w hlow hsize hown hdp;have hc:c=0∨c=1∨c=2:=by simp only at hc;omega
        rcases hc with rfl | rfl | rfl
        ·cases ho
         obtain ⟨i0,hi0,hy0,hy1,hy2⟩:=info_parts info3;have e111:ev (.tmp 111)=.slice adr ldr cdr:=hdp _ (Array.mem_of_getElem? (i:=1) rfl) rfl _ 111 rfl rfl;exact eB Try.underlying22 hi0 hy0 hy1 hy2 rfl (by decide) (by decide) rfl hown rfl e111 (by show (intsV v.drop).length=ldr*1;rw [intsV_len,HLdr.out,Nat.mul_one]) (by have:=iG HXdr.out (fun b hb=>(hlow b (by have:=HBX.out;have:=JRs.out;show b<wr.heap.size;omega) (by have:=HBX.out;have:=JGV.out;show b≠gj;omega)).trans (JR.out.low.block b hb));rw [HLdr.out] at this;exact this) hsize
        ·cases ho
         obtain ⟨i0,hi0,hy0,hy1,hy2⟩:=info_parts info3;have e117:ev (.tmp 117)=.slice api lpi cpi:=hdp _ (Array.mem_of_getElem? (i:=1) rfl) rfl _ 117 rfl rfl;exact eB Try.underlying22 hi0 hy0 hy1 hy2 rfl (by decide) (by decide) rfl hown rfl e117 (by show (intsV v.pick).length=lpi*1;rw [intsV_len,HLpi.out,Nat.mul_one]) (by have:=iG HXpi.out (fun b hb=>(hlow b (by have:=HBX.out;have:=JRs.out;show b<wr.heap.size;omega) (by have:=HBX.out;have:=JGV.out;show b≠gj;omega)).trans (JR.out.low.block b hb));rw [HLpi.out] at this;exact this) hsize
        ·cases ho
         obtain ⟨i0,hi0,hy0,hy1,hy2⟩:=info_parts jR;have e124:ev (.tmp 124)=.slice awi lwi cwi:=hdp _ (Array.mem_of_getElem? (i:=1) rfl) rfl _ 124 rfl rfl;exact eB Try.underlying43 hi0 hy0 hy1 hy2 rfl (by decide) (by decide) rfl hown rfl e124 (by show (cX (v.stop.wins)).length=lwi*2;rw [iC,HLwi.out]) (by have:=kM HXwi.out (fun b hb=>(hlow b (by have:=HBX.out;have:=JRs.out;show b<wr.heap.size;omega) (by have:=HBX.out;have:=JGV.out;show b≠gj;omega)).trans (JR.out.low.block b hb));rw [HLwi.out] at this;exact this) hsize
       case hstore =>
        intro c hc o ho ev w A hA hAs hdp hsl;have hc:c=0∨c=1∨c=2:=by simp only at hc;omega
        rcases hc with rfl | rfl | rfl
        ·cases ho
         obtain ⟨ad,m,cc,he⟩:=hsl;have e127:ev (.tmp 127)=.pointer (some ⟨gj,k*7+3,none⟩):=hdp _ (Array.mem_of_getElem? (i:=0) rfl) rfl _ 127 rfl rfl;have hlt:k*7+3<A.size:=by rw [hAs];first | exact hOdr | exact hOpi | exact hOwi
         obtain ⟨i1,hi1,_,hs1,_⟩:=info_parts l6;rw [show ev (.tmp ((fun c=>[112,118,125].getD c 0) 0))=.slice ad m cc from he];exact fS hi1 hs1 rfl e127 he (by rw [cell_of_row _ _ _ _ _ _ hA];exact Array.getElem?_eq_getElem hlt) (frozen_of_row _ _ _ _ _ hA)
        ·cases ho
         obtain ⟨ad,m,cc,he⟩:=hsl;have e129:ev (.tmp 129)=.pointer (some ⟨gj,k*7+4,none⟩):=hdp _ (Array.mem_of_getElem? (i:=0) rfl) rfl _ 129 rfl rfl;have hlt:k*7+4<A.size:=by rw [hAs];first | exact hOdr | exact hOpi | exact hOwi
         obtain ⟨i1,hi1,_,hs1,_⟩:=info_parts l6;rw [show ev (.tmp ((fun c=>[112,118,125].getD c 0) 1))=.slice ad m cc from he];exact fS hi1 hs1 rfl e129 he (by rw [cell_of_row _ _ _ _ _ _ hA];exact Array.getElem?_eq_getElem hlt) (frozen_of_row _ _ _ _ _ hA)
        ·cases ho
         obtain ⟨ad,m,cc,he⟩:=hsl;have e132:ev (.tmp 132)=.pointer (some ⟨gj,k*7+2,none⟩):=hdp _ (Array.mem_of_getElem? (i:=0) rfl) rfl _ 132 rfl rfl;have hlt:k*7+2<A.size:=by rw [hAs];first | exact hOdr | exact hOpi | exact hOwi
         obtain ⟨i1,hi1,_,hs1,_⟩:=info_parts pN;rw [show ev (.tmp ((fun c=>[112,118,125].getD c 0) 2))=.slice ad m cc from he];exact fS hi1 hs1 rfl e132 he (by rw [cell_of_row _ _ _ _ _ _ hA];exact Array.getElem?_eq_getElem hlt) (frozen_of_row _ _ _ _ _ hA)
       case hend =>
        intro x9 w9 hJ;have rdr:w9.ownsRow wr.heap.size 3 1 (x9 8) ldr (intsV v.drop):=hJ.row 0 (by show 0<3;decide) rfl;have rpi:w9.ownsRow wr.heap.size 3 1 (x9 14) lpi (intsV v.pick):=hJ.row 1 (by show 1<3;decide) rfl;have rwi:w9.ownsRow wr.heap.size 61 2 (x9 21) lwi (cX (v.stop.wins)):=hJ.row 2 (by show 2<3;decide) rfl;have hstp:Stp1 wr w9 gj:=⟨hJ.os,hJ.tape,hJ.output,hJ.size,hJ.low⟩;have hsb:w9.heap[gj]? = some (.cells (((A.setIfInBounds (k*7+3) (x9 8)).setIfInBounds (k*7+4) (x9 14)).setIfInBounds (k*7+2) (x9 21)) 67 (0,0)):=by simpa [CR.sbF] using hJ.sb
        have JN:Hid (CpS w w9 bx gv gj gs ⟨d,⟨n,tL⟩,⟨dn,dL⟩,vL,jL,sL⟩ ⟨.slice tA lt tC,.slice dA ld dC,.slice (some ⟨gv,0,none⟩) lv cv,.slice (some ⟨gj,0,none⟩) lj cj,.slice (some ⟨gs,0,none⟩) ls cs⟩ lv (k+1) 0):=CpG.job JR.out JV.out rfl HLJ.out JAS.out JAT.out JQ1.out JQ2.out JQ3.out JQ5.out JQL.out hstp hsb (by rw [HLdr.out];exact rdr) (by rw [HLpi.out];exact rpi) (by rw [HLwi.out];exact rwi) (IntsV.bound HXdr.out) (IntsV.bound HXpi.out) (by obtain ⟨_,_,_,_,hm⟩:=HXwi.out;exact hm.max) JWD.out;clear rdr rpi rwi hstp hsb hJ;simp only [acc,gZ,List.range,bO,if_true];simp only [List.size_toArray,List.length_cons,List.length_nil,Nat.reduceAdd,List.getElem?_toArray,List.getElem?_cons_zero,List.getElem?_cons_succ,Option.bind_some,List.range.loop,List.foldl_cons,List.foldl_nil,Act.put,List.setIfInBounds_toArray,List.set_cons_zero,List.set_cons_succ]
        generalize x9 8=y8 at *
        generalize x9 14=y14 at *
        generalize x9 21=y21 at *
        go_wp2;go_roundw
        case rel=>exact ⟨k+1,by go_num,by omega,JN.out⟩
        case measure=>simp [intOf];omega
      ·have i3:¬ (k:Int)<(lj:Int):=by omega
       have hii:lj=k:=by omega
       subst hii;go_wp2
       go_loopw [137] (fun vi wr=>∃ s:Nat,vi=.int .i64 s∧s≤ls∧Hid (CpS w wr bx gv gj gs ⟨d,⟨n,tL⟩,⟨dn,dL⟩,vL,jL,sL⟩ ⟨.slice tA lt tC,.slice dA ld dC,.slice (some ⟨gv,0,none⟩) lv cv,.slice (some ⟨gj,0,none⟩) lj cj,.slice (some ⟨gs,0,none⟩) ls cs⟩ lv lj (s))) (fun vi _=>ls-(intOf vi).toNat)
       case atStart=>exact ⟨0,rfl,Nat.zero_le _,JR.out⟩
       case round =>
        clear hit ;obtain ⟨s,rfl,hi,SR⟩:=hrel;have hb6:wr.cell? ⟨bx,6,none⟩=some (.slice (some ⟨gj,0,none⟩) lj cj):=by rw [cell_of_row _ _ _ _ _ _ SR.out.box];rfl
        have hb7:wr.cell? ⟨bx,7,none⟩=some (.slice (some ⟨gs,0,none⟩) ls cs):=by rw [cell_of_row _ _ _ _ _ _ SR.out.box];rfl
        have hlsb:ls*120≤140737488351232:=by obtain ⟨_,_,_,h9,_⟩:=SR.out.s;simp only at h9;rw [HLS.out] at h9;exact h9
        by_cases hit:s<ls
        ·have i3:(s:Int)<(ls:Int):=by omega
         have i4:(0:Int)≤(s:Int):=by omega
         obtain ⟨R,q1,q2,q3,q4,q5⟩:=SR.out.s;obtain ⟨cv2,A,ee,hgv2,hA,_,hAs0,hAt⟩:=gN q1 SR.out.es;have hcv:cs=cv2:=by injection ee with _ _ e
         subst hcv;simp only at hAt;rw [HLS.out] at hAt;obtain ⟨v,hv⟩:∃ v,sL[s]? = some v:=⟨sL[s]'(by have:=HLS.out;omega),List.getElem?_eq_getElem _⟩;obtain ⟨l,e1,e2,e3,e4⟩:=q5 s v hv;unfold nQ at e4;rw [if_neg (by omega)] at e4;obtain ⟨x1,x2,xa,rfl,gp1,gp2,gam,gwd⟩:=e4;obtain ⟨aam,cam,rfl⟩:=gam.shape;obtain ⟨lam,hlam⟩:∃ q,(v.amt).length=q:=⟨_,rfl⟩;have HLam:=hide hlam;obtain ⟨ap1,cp1,rfl⟩:=gp1.shape;obtain ⟨lp1,hlp1⟩:∃ q,(v.pick.wins).length=q:=⟨_,rfl⟩;have HLp1:=hide hlp1;obtain ⟨ap2,cp2,rfl⟩:=gp2.shape;obtain ⟨lp2,hlp2⟩:∃ q,(v.deli.wins).length=q:=⟨_,rfl⟩;have HLp2:=hide hlp2;rw [hlam,hlp1,hlp2] at e1;rw [hlam] at gam;have HXam:=hide gam;rw [hlp1] at gp1;have HXp1:=hide gp1;rw [hlp2] at gp2;have HXp2:=hide gp2;have SWD:=hide gwd;have SV:=hide hv;have SQ1:=hide q1;have SQ2:=hide q2;have SQ3:=hide q3;have SQ5:=hide q5;have SQL:=hide e1;have SAS:=hide hAs0;have SAT:=hide hAt;have SA:=hide hA;have SGV:=hide hgv2;have SRs:=hide SR.out.sz;have HAam:Hid (A[s*9+6]? = some (.slice aam lam cam)):=fO (ORow.len q2 q5) hAt e1 (by decide) rfl
         have hOam:s*9+6<A.size:=by
          have:=(List.getElem?_eq_some_iff.1 (show A.toList[s*9+6]? = _ by simpa using HAam.out)).1
          simpa using this
         have HAp1:Hid (A[s*9+2]? = some (.slice ap1 lp1 cp1)):=fO (ORow.len q2 q5) hAt e1 (by decide) rfl
         have hOp1:s*9+2<A.size:=by
          have:=(List.getElem?_eq_some_iff.1 (show A.toList[s*9+2]? = _ by simpa using HAp1.out)).1
          simpa using this
         have HAp2:Hid (A[s*9+5]? = some (.slice ap2 lp2 cp2)):=fO (ORow.len q2 q5) hAt e1 (by decide) rfl
         have hOp2:s*9+5<A.size:=by
          have:=(List.getElem?_eq_some_iff.1 (show A.toList[s*9+5]? = _ by simpa using HAp2.out)).1
          simpa using this
         have hgvl:gs<wr.heap.size:=(q1.lt gs SR.out.es).2;clear q1 q2 q3 q4 q5 e1 e2 e3 gwd gam gp1 gp2 hA hAs0 hAt hlam hlp1 hlp2 hv ee hgv2;go_wp2;refine CR.walk (R:={ ops:=_,k:=3,b:=fun c=>[3,9,16].getD c 0,a:=fun c=>[8,15,22].getD c 0,s:=fun c=>[25,29,33].getD c 0,T:=fun c=>[3,61,61].getD c 0,z:=fun c=>[1,2,2].getD c 0,m:=fun c=>[lam,lp1,lp2].getD c 0,off:=fun c=>[s*9+6,s*9+2,s*9+5].getD c 0,xs:=fun c=>[intsV v.amt,cX (v.pick.wins),cX (v.deli.wins)].getD c [],pv:=fun qi=>([some (.pointer (some ⟨gs,s*9,none⟩)),some (.pointer (some ⟨gs,s*9,none⟩)),some (.pointer (some ⟨gs,s*9,none⟩)),none,some (.pointer (some ⟨gs,s*9,none⟩)),some (.pointer (some ⟨gs,s*9,none⟩)),some (.pointer (some ⟨gs,s*9+6,none⟩)),some (.slice aam lam cam),none,none,some (.pointer (some ⟨gs,s*9,none⟩)),some (.pointer (some ⟨gs,s*9,none⟩)),some (.pointer (some ⟨gs,s*9,none⟩)),some (.pointer (some ⟨gs,s*9+2,none⟩)),some (.slice ap1 lp1 cp1),none,none,some (.pointer (some ⟨gs,s*9,none⟩)),some (.pointer (some ⟨gs,s*9,none⟩)),some (.pointer (some ⟨gs,s*9+3,none⟩)),some (.pointer (some ⟨gs,s*9+5,none⟩)),some (.slice ap2 lp2 cp2),none,some (.pointer (some ⟨gs,s*9,none⟩)),some (.pointer (some ⟨gs,s*9+6,none⟩)),none,some (.pointer (some ⟨gs,s*9,none⟩)),some (.pointer (some ⟨gs,s*9,none⟩)),some (.pointer (some ⟨gs,s*9+2,none⟩)),none,some (.pointer (some ⟨gs,s*9,none⟩)),some (.pointer (some ⟨gs,s*9+3,none⟩)),some (.pointer (some ⟨gs,s*9+5,none⟩)),none]:List (Option Value)).getD qi none,ld:=fun qi=>[7,14,21].contains qi,SB:=gs,B:=wr.heap.size,arr:=A,TS:=103 }) (tb:=fun c=>[147,153,160].getD c 0) (ta:=fun c=>[152,159,166].getD c 0) (CR.ok_of (tl:=34) (lds:=[7,14,21]) (by kernel_rfl) ?hp ?hl ?hsb ?ho) (by kernel_rfl) (by kernel_rfl) (by kernel_rfl) (by kernel_rfl) ?hB ?harr ?hsz ?htb ?hta ?hpure ?hbuild ?hfill ?hstore ?hend
         case hp=>exact fun qi h=>gT (l:=[some (.pointer (some ⟨gs,s*9,none⟩)),some (.pointer (some ⟨gs,s*9,none⟩)),some (.pointer (some ⟨gs,s*9,none⟩)),none,some (.pointer (some ⟨gs,s*9,none⟩)),some (.pointer (some ⟨gs,s*9,none⟩)),some (.pointer (some ⟨gs,s*9+6,none⟩)),some (.slice aam lam cam),none,none,some (.pointer (some ⟨gs,s*9,none⟩)),some (.pointer (some ⟨gs,s*9,none⟩)),some (.pointer (some ⟨gs,s*9,none⟩)),some (.pointer (some ⟨gs,s*9+2,none⟩)),some (.slice ap1 lp1 cp1),none,none,some (.pointer (some ⟨gs,s*9,none⟩)),some (.pointer (some ⟨gs,s*9,none⟩)),some (.pointer (some ⟨gs,s*9+3,none⟩)),some (.pointer (some ⟨gs,s*9+5,none⟩)),some (.slice ap2 lp2 cp2),none,some (.pointer (some ⟨gs,s*9,none⟩)),some (.pointer (some ⟨gs,s*9+6,none⟩)),none,some (.pointer (some ⟨gs,s*9,none⟩)),some (.pointer (some ⟨gs,s*9,none⟩)),some (.pointer (some ⟨gs,s*9+2,none⟩)),none,some (.pointer (some ⟨gs,s*9,none⟩)),some (.pointer (some ⟨gs,s*9+3,none⟩)),some (.pointer (some ⟨gs,s*9+5,none⟩)),none]) h
         case hl=>exact fun qi h=>by simpa using h
         case hsb=>(show gs<wr.heap.size;exact hgvl)
         case ho =>
          intro c hc;have hc:c=0∨c=1∨c=2:=by simp only at hc;omega
          rcases hc with rfl | rfl | rfl <;> first | exact hOam | exact hOp1 | exact hOp2
         case hB=>rfl
         case harr=>exact SA.out
         case hsz =>
          intro qi d hd;have:=oP (n:=177) (by kernel_rfl) hd;exact this
         case htb =>
          intro c hc;have hc:c=0∨c=1∨c=2:=by simp only at hc;omega
          rcases hc with rfl | rfl | rfl <;> rfl
         case hta =>
          intro c hc;have hc:c=0∨c=1∨c=2:=by simp only at hc;omega
          rcases hc with rfl | rfl | rfl <;> rfl
         case hpure =>
          intro qi qo qv ev qw ho hv hdp hout hlow hld;have hqi:qi<34:=gT (l:=[some (.pointer (some ⟨gs,s*9,none⟩)),some (.pointer (some ⟨gs,s*9,none⟩)),some (.pointer (some ⟨gs,s*9,none⟩)),none,some (.pointer (some ⟨gs,s*9,none⟩)),some (.pointer (some ⟨gs,s*9,none⟩)),some (.pointer (some ⟨gs,s*9+6,none⟩)),some (.slice aam lam cam),none,none,some (.pointer (some ⟨gs,s*9,none⟩)),some (.pointer (some ⟨gs,s*9,none⟩)),some (.pointer (some ⟨gs,s*9,none⟩)),some (.pointer (some ⟨gs,s*9+2,none⟩)),some (.slice ap1 lp1 cp1),none,none,some (.pointer (some ⟨gs,s*9,none⟩)),some (.pointer (some ⟨gs,s*9,none⟩)),some (.pointer (some ⟨gs,s*9+3,none⟩)),some (.pointer (some ⟨gs,s*9+5,none⟩)),some (.slice ap2 lp2 cp2),none,some (.pointer (some ⟨gs,s*9,none⟩)),some (.pointer (some ⟨gs,s*9+6,none⟩)),none,some (.pointer (some ⟨gs,s*9,none⟩)),some (.pointer (some ⟨gs,s*9,none⟩)),some (.pointer (some ⟨gs,s*9+2,none⟩)),none,some (.pointer (some ⟨gs,s*9,none⟩)),some (.pointer (some ⟨gs,s*9+3,none⟩)),some (.pointer (some ⟨gs,s*9+5,none⟩)),none]) (by rw [show ([some (.pointer (some ⟨gs,s*9,none⟩)),some (.pointer (some ⟨gs,s*9,none⟩)),some (.pointer (some ⟨gs,s*9,none⟩)),none,some (.pointer (some ⟨gs,s*9,none⟩)),some (.pointer (some ⟨gs,s*9,none⟩)),some (.pointer (some ⟨gs,s*9+6,none⟩)),some (.slice aam lam cam),none,none,some (.pointer (some ⟨gs,s*9,none⟩)),some (.pointer (some ⟨gs,s*9,none⟩)),some (.pointer (some ⟨gs,s*9,none⟩)),some (.pointer (some ⟨gs,s*9+2,none⟩)),some (.slice ap1 lp1 cp1),none,none,some (.pointer (some ⟨gs,s*9,none⟩)),some (.pointer (some ⟨gs,s*9,none⟩)),some (.pointer (some ⟨gs,s*9+3,none⟩)),some (.pointer (some ⟨gs,s*9+5,none⟩)),some (.slice ap2 lp2 cp2),none,some (.pointer (some ⟨gs,s*9,none⟩)),some (.pointer (some ⟨gs,s*9+6,none⟩)),none,some (.pointer (some ⟨gs,s*9,none⟩)),some (.pointer (some ⟨gs,s*9,none⟩)),some (.pointer (some ⟨gs,s*9+2,none⟩)),none,some (.pointer (some ⟨gs,s*9,none⟩)),some (.pointer (some ⟨gs,s*9+3,none⟩)),some (.pointer (some ⟨gs,s*9+5,none⟩)),none]:List (Option Value)).getD qi none=some qv from hv];rfl);have hqi:qi=0∨qi=1∨qi=2∨qi=3∨qi=4∨qi=5∨qi=6∨qi=7∨qi=8∨qi=9∨qi=10∨qi=11∨qi=12∨qi=13∨qi=14∨qi=15∨qi=16∨qi=17∨qi=18∨qi=19∨qi=20∨qi=21∨qi=22∨qi=23∨qi=24∨qi=25∨qi=26∨qi=27∨qi=28∨qi=29∨qi=30∨qi=31∨qi=32∨qi=33:=by omega
          rcases hqi with rfl | rfl | rfl | rfl | rfl | rfl | rfl | rfl | rfl | rfl | rfl | rfl | rfl | rfl | rfl | rfl | rfl | rfl | rfl | rfl | rfl | rfl | rfl | rfl | rfl | rfl | rfl | rfl | rfl | rfl | rfl | rfl | rfl | rfl
          ·cases hv
           cases ho
           have e9:ev (.tmp 9)=.pointer (some ⟨gs,s*9,none⟩):=(hout 9 (bT (by kernel_rfl))).trans rfl;unfold execOp;go_simp
          ·cases hv
           cases ho
           have e9:ev (.tmp 9)=.pointer (some ⟨gs,s*9,none⟩):=(hout 9 (bT (by kernel_rfl))).trans rfl;unfold execOp;go_simp
          ·cases hv
           cases ho
           have e9:ev (.tmp 9)=.pointer (some ⟨gs,s*9,none⟩):=(hout 9 (bT (by kernel_rfl))).trans rfl;unfold execOp;go_simp
          ·cases hv
          ·cases hv
           cases ho
           have e9:ev (.tmp 9)=.pointer (some ⟨gs,s*9,none⟩):=(hout 9 (bT (by kernel_rfl))).trans rfl;unfold execOp;go_simp
          ·cases hv
           cases ho
           have e148:ev (.tmp 148)=.pointer (some ⟨gs,s*9,none⟩):=hdp _ (Array.mem_of_getElem? (i:=0) rfl) rfl _ 148 rfl rfl;unfold execOp;go_simp
          ·cases hv
           cases ho
           have e149:ev (.tmp 149)=.pointer (some ⟨gs,s*9,none⟩):=hdp _ (Array.mem_of_getElem? (i:=0) rfl) rfl _ 149 rfl rfl;unfold execOp;go_simp
          ·cases hv
           cases ho
           have e150:ev (.tmp 150)=.pointer (some ⟨gs,s*9+6,none⟩):=hdp _ (Array.mem_of_getElem? (i:=0) rfl) rfl _ 150 rfl rfl;have hld:=hld rfl;have hcl:qw.cell? ⟨gs,s*9+6,none⟩=some (.slice aam lam cam):=by rw [cell_of_row _ _ _ _ _ _ hld];first | exact HAam.out | exact HAp1.out | exact HAp2.out
           unfold execOp;go_simp
          ·cases hv
          ·cases hv
          ·cases hv
           cases ho
           have e9:ev (.tmp 9)=.pointer (some ⟨gs,s*9,none⟩):=(hout 9 (bT (by kernel_rfl))).trans rfl;unfold execOp;go_simp
          ·cases hv
           cases ho
           have e154:ev (.tmp 154)=.pointer (some ⟨gs,s*9,none⟩):=hdp _ (Array.mem_of_getElem? (i:=0) rfl) rfl _ 154 rfl rfl;unfold execOp;go_simp
          ·cases hv
           cases ho
           have e155:ev (.tmp 155)=.pointer (some ⟨gs,s*9,none⟩):=hdp _ (Array.mem_of_getElem? (i:=0) rfl) rfl _ 155 rfl rfl;unfold execOp;go_simp
          ·cases hv
           cases ho
           have e156:ev (.tmp 156)=.pointer (some ⟨gs,s*9,none⟩):=hdp _ (Array.mem_of_getElem? (i:=0) rfl) rfl _ 156 rfl rfl;unfold execOp;go_simp
          ·cases hv
           cases ho
           have e157:ev (.tmp 157)=.pointer (some ⟨gs,s*9+2,none⟩):=hdp _ (Array.mem_of_getElem? (i:=0) rfl) rfl _ 157 rfl rfl;have hld:=hld rfl;have hcl:qw.cell? ⟨gs,s*9+2,none⟩=some (.slice ap1 lp1 cp1):=by rw [cell_of_row _ _ _ _ _ _ hld];first | exact HAam.out | exact HAp1.out | exact HAp2.out
           unfold execOp;go_simp
          ·cases hv
          ·cases hv
          ·cases hv
           cases ho
           have e9:ev (.tmp 9)=.pointer (some ⟨gs,s*9,none⟩):=(hout 9 (bT (by kernel_rfl))).trans rfl;unfold execOp;go_simp
          ·cases hv
           cases ho
           have e161:ev (.tmp 161)=.pointer (some ⟨gs,s*9,none⟩):=hdp _ (Array.mem_of_getElem? (i:=0) rfl) rfl _ 161 rfl rfl;unfold execOp;go_simp
          ·cases hv
           cases ho
           have e162:ev (.tmp 162)=.pointer (some ⟨gs,s*9,none⟩):=hdp _ (Array.mem_of_getElem? (i:=0) rfl) rfl _ 162 rfl rfl;unfold execOp;go_simp
          ·cases hv
           cases ho
           have e163:ev (.tmp 163)=.pointer (some ⟨gs,s*9+3,none⟩):=hdp _ (Array.mem_of_getElem? (i:=0) rfl) rfl _ 163 rfl rfl;unfold execOp;go_simp
          ·cases hv
           cases ho
           have e164:ev (.tmp 164)=.pointer (some ⟨gs,s*9+5,none⟩):=hdp _ (Array.mem_of_getElem? (i:=0) rfl) rfl _ 164 rfl rfl;have hld:=hld rfl;have hcl:qw.cell? ⟨gs,s*9+5,none⟩=some (.slice ap2 lp2 cp2):=by rw [cell_of_row _ _ _ _ _ _ hld];first | exact HAam.out | exact HAp1.out | exact HAp2.out
           unfold execOp;go_simp
          ·cases hv
          ·cases hv
           cases ho
           have e144:ev (.tmp 144)=.pointer (some ⟨gs,s*9,none⟩):=hdp _ (Array.mem_of_getElem? (i:=0) rfl) rfl _ 144 rfl rfl;unfold execOp;go_simp
          ·cases hv
           cases ho
           have e167:ev (.tmp 167)=.pointer (some ⟨gs,s*9,none⟩):=hdp _ (Array.mem_of_getElem? (i:=0) rfl) rfl _ 167 rfl rfl;unfold execOp;go_simp
          ·cases hv
          ·cases hv
           cases ho
           have e145:ev (.tmp 145)=.pointer (some ⟨gs,s*9,none⟩):=hdp _ (Array.mem_of_getElem? (i:=0) rfl) rfl _ 145 rfl rfl;unfold execOp;go_simp
          ·cases hv
           cases ho
           have e169:ev (.tmp 169)=.pointer (some ⟨gs,s*9,none⟩):=hdp _ (Array.mem_of_getElem? (i:=0) rfl) rfl _ 169 rfl rfl;unfold execOp;go_simp
          ·cases hv
           cases ho
           have e170:ev (.tmp 170)=.pointer (some ⟨gs,s*9,none⟩):=hdp _ (Array.mem_of_getElem? (i:=0) rfl) rfl _ 170 rfl rfl;unfold execOp;go_simp
          ·cases hv
          ·cases hv
           cases ho
           have e146:ev (.tmp 146)=.pointer (some ⟨gs,s*9,none⟩):=hdp _ (Array.mem_of_getElem? (i:=0) rfl) rfl _ 146 rfl rfl;unfold execOp;go_simp
          ·cases hv
           cases ho
           have e172:ev (.tmp 172)=.pointer (some ⟨gs,s*9,none⟩):=hdp _ (Array.mem_of_getElem? (i:=0) rfl) rfl _ 172 rfl rfl;unfold execOp;go_simp
          ·cases hv
           cases ho
           have e173:ev (.tmp 173)=.pointer (some ⟨gs,s*9+3,none⟩):=hdp _ (Array.mem_of_getElem? (i:=0) rfl) rfl _ 173 rfl rfl;unfold execOp;go_simp
          ·cases hv
         case hbuild =>
          intro c hc o ho ev w;have hc:c=0∨c=1∨c=2:=by simp only at hc;omega
          rcases hc with rfl | rfl | rfl
          ·cases ho
           obtain ⟨i0,hi0,_,_,_⟩:=info_parts info3;exact cM Try.underlying22 hi0 rfl ev w
          ·cases ho
           obtain ⟨i0,hi0,_,_,_⟩:=info_parts jR;exact cM Try.underlying43 hi0 rfl ev w
          ·cases ho
           obtain ⟨i0,hi0,_,_,_⟩:=info_parts jR;exact cM Try.underlying43 hi0 rfl ev w
         case hfill =>
          intro c hc o ho ev w hlow hsize hown hdp;have hc:c=0∨c=1∨c=2:=by simp only at hc;omega
          rcases hc with rfl | rfl | rfl
          ·cases ho
           obtain ⟨i0,hi0,hy0,hy1,hy2⟩:=info_parts info3;have e151:ev (.tmp 151)=.slice aam lam cam:=hdp _ (Array.mem_of_getElem? (i:=1) rfl) rfl _ 151 rfl rfl;exact eB Try.underlying22 hi0 hy0 hy1 hy2 rfl (by decide) (by decide) rfl hown rfl e151 (by show (intsV v.amt).length=lam*1;rw [intsV_len,HLam.out,Nat.mul_one]) (by have:=iG HXam.out (fun b hb=>(hlow b (by have:=HBX.out;have:=SRs.out;show b<wr.heap.size;omega) (by have:=HBX.out;have:=SGV.out;show b≠gs;omega)).trans (SR.out.low.block b hb));rw [HLam.out] at this;exact this) hsize
          ·cases ho
           obtain ⟨i0,hi0,hy0,hy1,hy2⟩:=info_parts jR;have e158:ev (.tmp 158)=.slice ap1 lp1 cp1:=hdp _ (Array.mem_of_getElem? (i:=1) rfl) rfl _ 158 rfl rfl;exact eB Try.underlying43 hi0 hy0 hy1 hy2 rfl (by decide) (by decide) rfl hown rfl e158 (by show (cX (v.pick.wins)).length=lp1*2;rw [iC,HLp1.out]) (by have:=kM HXp1.out (fun b hb=>(hlow b (by have:=HBX.out;have:=SRs.out;show b<wr.heap.size;omega) (by have:=HBX.out;have:=SGV.out;show b≠gs;omega)).trans (SR.out.low.block b hb));rw [HLp1.out] at this;exact this) hsize
          ·cases ho
           obtain ⟨i0,hi0,hy0,hy1,hy2⟩:=info_parts jR;have e165:ev (.tmp 165)=.slice ap2 lp2 cp2:=hdp _ (Array.mem_of_getElem? (i:=1) rfl) rfl _ 165 rfl rfl;exact eB Try.underlying43 hi0 hy0 hy1 hy2 rfl (by decide) (by decide) rfl hown rfl e165 (by show (cX (v.deli.wins)).length=lp2*2;rw [iC,HLp2.out]) (by have:=kM HXp2.out (fun b hb=>(hlow b (by have:=HBX.out;have:=SRs.out;show b<wr.heap.size;omega) (by have:=HBX.out;have:=SGV.out;show b≠gs;omega)).trans (SR.out.low.block b hb));rw [HLp2.out] at this;exact this) hsize
         case hstore =>
          intro c hc o ho ev w A hA hAs hdp hsl;have hc:c=0∨c=1∨c=2:=by simp only at hc;omega
          rcases hc with rfl | rfl | rfl
          ·cases ho
           obtain ⟨ad,m,cc,he⟩:=hsl;have e168:ev (.tmp 168)=.pointer (some ⟨gs,s*9+6,none⟩):=hdp _ (Array.mem_of_getElem? (i:=0) rfl) rfl _ 168 rfl rfl;have hlt:s*9+6<A.size:=by rw [hAs];first | exact hOam | exact hOp1 | exact hOp2
           obtain ⟨i1,hi1,_,hs1,_⟩:=info_parts l6;rw [show ev (.tmp ((fun c=>[152,159,166].getD c 0) 0))=.slice ad m cc from he];exact fS hi1 hs1 rfl e168 he (by rw [cell_of_row _ _ _ _ _ _ hA];exact Array.getElem?_eq_getElem hlt) (frozen_of_row _ _ _ _ _ hA)
          ·cases ho
           obtain ⟨ad,m,cc,he⟩:=hsl;have e171:ev (.tmp 171)=.pointer (some ⟨gs,s*9+2,none⟩):=hdp _ (Array.mem_of_getElem? (i:=0) rfl) rfl _ 171 rfl rfl;have hlt:s*9+2<A.size:=by rw [hAs];first | exact hOam | exact hOp1 | exact hOp2
           obtain ⟨i1,hi1,_,hs1,_⟩:=info_parts pN;rw [show ev (.tmp ((fun c=>[152,159,166].getD c 0) 1))=.slice ad m cc from he];exact fS hi1 hs1 rfl e171 he (by rw [cell_of_row _ _ _ _ _ _ hA];exact Array.getElem?_eq_getElem hlt) (frozen_of_row _ _ _ _ _ hA)
          ·cases ho
           obtain ⟨ad,m,cc,he⟩:=hsl;have e174:ev (.tmp 174)=.pointer (some ⟨gs,s*9+5,none⟩):=hdp _ (Array.mem_of_getElem? (i:=0) rfl) rfl _ 174 rfl rfl;have hlt:s*9+5<A.size:=by rw [hAs];first | exact hOam | exact hOp1 | exact hOp2
           obtain ⟨i1,hi1,_,hs1,_⟩:=info_parts pN;rw [show ev (.tmp ((fun c=>[152,159,166].getD c 0) 2))=.slice ad m cc from he];exact fS hi1 hs1 rfl e174 he (by rw [cell_of_row _ _ _ _ _ _ hA];exact Array.getElem?_eq_getElem hlt) (frozen_of_row _ _ _ _ _ hA)
         case hend =>
          intro x9 w9 hJ;have ram:w9.ownsRow wr.heap.size 3 1 (x9 8) lam (intsV v.amt):=hJ.row 0 (by show 0<3;decide) rfl;have rp1:w9.ownsRow wr.heap.size 61 2 (x9 15) lp1 (cX (v.pick.wins)):=hJ.row 1 (by show 1<3;decide) rfl;have rp2:w9.ownsRow wr.heap.size 61 2 (x9 22) lp2 (cX (v.deli.wins)):=hJ.row 2 (by show 2<3;decide) rfl;have hstp:Stp1 wr w9 gs:=⟨hJ.os,hJ.tape,hJ.output,hJ.size,hJ.low⟩;have hsb:w9.heap[gs]? = some (.cells (((A.setIfInBounds (s*9+6) (x9 8)).setIfInBounds (s*9+2) (x9 15)).setIfInBounds (s*9+5) (x9 22)) 103 (0,0)):=by simpa [CR.sbF] using hJ.sb
          have SN:Hid (CpS w w9 bx gv gj gs ⟨d,⟨n,tL⟩,⟨dn,dL⟩,vL,jL,sL⟩ ⟨.slice tA lt tC,.slice dA ld dC,.slice (some ⟨gv,0,none⟩) lv cv,.slice (some ⟨gj,0,none⟩) lj cj,.slice (some ⟨gs,0,none⟩) ls cs⟩ lv lj (s+1)):=CpG.shp SR.out SV.out rfl HLS.out SAS.out SAT.out SQ1.out SQ2.out SQ3.out SQ5.out SQL.out hstp hsb (by rw [HLam.out];exact ram) (by rw [HLp1.out];exact rp1) (by rw [HLp2.out];exact rp2) (IntsV.bound HXam.out) (by obtain ⟨_,_,_,_,hm⟩:=HXp1.out;exact hm.max) (by obtain ⟨_,_,_,_,hm⟩:=HXp2.out;exact hm.max) SWD.out;clear ram rp1 rp2 hstp hsb hJ;simp only [acc,gZ,List.range,bO,if_true];simp only [List.size_toArray,List.length_cons,List.length_nil,Nat.reduceAdd,List.getElem?_toArray,List.getElem?_cons_zero,List.getElem?_cons_succ,Option.bind_some,List.range.loop,List.foldl_cons,List.foldl_nil,Act.put,List.setIfInBounds_toArray,List.set_cons_zero,List.set_cons_succ]
          generalize x9 8=y8 at *
          generalize x9 15=y15 at *
          generalize x9 22=y22 at *
          go_wp2;go_roundw
          case rel=>exact ⟨s+1,by go_num,by omega,SN.out⟩
          case measure=>simp [intOf];omega
        ·have i3:¬ (s:Int)<(ls:Int):=by omega
         have hii:ls=s:=by omega
         subst hii;have k0:wr.cell? ⟨bx,0,none⟩=some (.int .i64 d):=by rw [cell_of_row _ _ _ _ _ _ SR.out.box];rfl
         have k1:wr.cell? ⟨bx,1,none⟩=some (.int .i64 n):=by rw [cell_of_row _ _ _ _ _ _ SR.out.box];rfl
         have k2:wr.cell? ⟨bx,2,none⟩=some (.slice tA lt tC):=by rw [cell_of_row _ _ _ _ _ _ SR.out.box];rfl
         have k3:wr.cell? ⟨bx,3,none⟩=some (.int .i64 dn):=by rw [cell_of_row _ _ _ _ _ _ SR.out.box];rfl
         have k4:wr.cell? ⟨bx,4,none⟩=some (.slice dA ld dC):=by rw [cell_of_row _ _ _ _ _ _ SR.out.box];rfl
         have k5:wr.cell? ⟨bx,5,none⟩=some (.slice (some ⟨gv,0,none⟩) lv cv):=by rw [cell_of_row _ _ _ _ _ _ SR.out.box];rfl
         have k6:wr.cell? ⟨bx,6,none⟩=some (.slice (some ⟨gj,0,none⟩) lj cj):=by rw [cell_of_row _ _ _ _ _ _ SR.out.box];rfl
         have k7:wr.cell? ⟨bx,7,none⟩=some (.slice (some ⟨gs,0,none⟩) ls cs):=by rw [cell_of_row _ _ _ _ _ _ SR.out.box];rfl
         have z0:wr.cell? ⟨bx+1,0,none⟩=some (.int .i64 0):=by rw [cell_of_row _ _ _ _ _ _ SR.out.res];rfl
         have z1:wr.cell? ⟨bx+1,1,none⟩=some (.int .i64 0):=by rw [cell_of_row _ _ _ _ _ _ SR.out.res];rfl
         have z2:wr.cell? ⟨bx+1,2,none⟩=some (.slice none 0 0):=by rw [cell_of_row _ _ _ _ _ _ SR.out.res];rfl
         have z3:wr.cell? ⟨bx+1,3,none⟩=some (.int .i64 0):=by rw [cell_of_row _ _ _ _ _ _ SR.out.res];rfl
         have z4:wr.cell? ⟨bx+1,4,none⟩=some (.slice none 0 0):=by rw [cell_of_row _ _ _ _ _ _ SR.out.res];rfl
         have z5:wr.cell? ⟨bx+1,5,none⟩=some (.slice none 0 0):=by rw [cell_of_row _ _ _ _ _ _ SR.out.res];rfl
         have z6:wr.cell? ⟨bx+1,6,none⟩=some (.slice none 0 0):=by rw [cell_of_row _ _ _ _ _ _ SR.out.res];rfl
         have z7:wr.cell? ⟨bx+1,7,none⟩=some (.slice none 0 0):=by rw [cell_of_row _ _ _ _ _ _ SR.out.res];rfl
         have fz:∀ t,wr.frozen? ⟨bx+1,t,none⟩=false:=fun t=>frozen_of_row wr (bx+1) t _ _ SR.out.res;clear hb6 hb7;go_wp2;obtain ⟨q1,q2,q3⟩:=put8 (.int .i64 d) (.int .i64 n) (.slice tA lt tC) (.int .i64 dn) (.slice dA ld dC) (.slice (some ⟨gv,0,none⟩) lv cv) (.slice (some ⟨gj,0,none⟩) lj cj) (.slice (some ⟨gs,0,none⟩) ls cs) SR.out.res;have HBY:Hid (Below (bx+1) wr ((((((((wr.setCell ⟨bx+1,0,none⟩ (.int .i64 d)).setCell ⟨bx+1,1,none⟩ (.int .i64 n)).setCell ⟨bx+1,2,none⟩ (.slice tA lt tC)).setCell ⟨bx+1,3,none⟩ (.int .i64 dn)).setCell ⟨bx+1,4,none⟩ (.slice dA ld dC)).setCell ⟨bx+1,5,none⟩ (.slice (some ⟨gv,0,none⟩) lv cv)).setCell ⟨bx+1,6,none⟩ (.slice (some ⟨gj,0,none⟩) lj cj)).setCell ⟨bx+1,7,none⟩ (.slice (some ⟨gs,0,none⟩) ls cs))):=(((((((((Below.refl (bx+1) wr).setCell (Nat.le_refl _) _).setCell (Nat.le_refl _) _).setCell (Nat.le_refl _) _).setCell (Nat.le_refl _) _).setCell (Nat.le_refl _) _).setCell (Nat.le_refl _) _).setCell (Nat.le_refl _) _).setCell (Nat.le_refl _) _)
         generalize ((((((((wr.setCell ⟨bx+1,0,none⟩ (.int .i64 d)).setCell ⟨bx+1,1,none⟩ (.int .i64 n)).setCell ⟨bx+1,2,none⟩ (.slice tA lt tC)).setCell ⟨bx+1,3,none⟩ (.int .i64 dn)).setCell ⟨bx+1,4,none⟩ (.slice dA ld dC)).setCell ⟨bx+1,5,none⟩ (.slice (some ⟨gv,0,none⟩) lv cv)).setCell ⟨bx+1,6,none⟩ (.slice (some ⟨gj,0,none⟩) lj cj)).setCell ⟨bx+1,7,none⟩ (.slice (some ⟨gs,0,none⟩) ls cs))=Y at *
         have hc:CpS w wr bx gv gj gs ⟨d,⟨n,tL⟩,⟨dn,dL⟩,vL,jL,sL⟩ ⟨.slice tA lt tC,.slice dA ld dC,.slice (some ⟨gv,0,none⟩) lv cv,.slice (some ⟨gj,0,none⟩) lj cj,.slice (some ⟨gs,0,none⟩) ls cs⟩ (Prb.vs ⟨d,⟨n,tL⟩,⟨dn,dL⟩,vL,jL,sL⟩).length (Prb.js ⟨d,⟨n,tL⟩,⟨dn,dL⟩,vL,jL,sL⟩).length (Prb.ss ⟨d,⟨n,tL⟩,⟨dn,dL⟩,vL,jL,sL⟩).length:=by simp only [HLV.out,HLJ.out,HLS.out];exact SR.out
         obtain ⟨_,hb⟩:=cps_end (w2:=Y) hc ⟨HBY.out.os,HBY.out.tape,HBY.out.output,by omega,fun q _ hq=>q3 q hq⟩;have hp:=cps_fin (w2:=Y) hc ⟨HBY.out.os,HBY.out.tape,HBY.out.output,by omega,fun q _ hq=>q3 q hq⟩;refine bodyPost_ret (v:=.agg (aL ⟨d,⟨n,tL⟩,⟨dn,dL⟩,vL,jL,sL⟩ ⟨.slice tA lt tC,.slice dA ld dC,.slice (some ⟨gv,0,none⟩) lv cv,.slice (some ⟨gj,0,none⟩) lj cj,.slice (some ⟨gs,0,none⟩) ls cs⟩)) ?_ rfl ⟨_,rfl,⟨gv,gj,gs,hp⟩,(by have h9:=hb;rw [HBX.out] at h9;exact h9)⟩;have cs9:∀ j,Y.cell? ⟨bx+1,j,none⟩=(#[.int .i64 d,.int .i64 n,.slice tA lt tC,.int .i64 dn,.slice dA ld dC,.slice (some ⟨gv,0,none⟩) lv cv,.slice (some ⟨gj,0,none⟩) lj cj,.slice (some ⟨gs,0,none⟩) ls cs]:Array Value)[j]?:=fun j=>cell_of_row _ _ _ _ _ _ q1
         simp [results,Try.results17,go_sem,cs9,aL]
end Go.Proofs.Ytgjpkpmikbpcnaa
