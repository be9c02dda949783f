import Derived.BigRegion
import Derived.Deep.RegionHeld3
import Derived.Test.YtgjpkpmikbpcnaaORLd0G
import Derived.Test.YtgjpkpmikbpcnaaOPtsG
set_option linter.unusedSimpArgs false
namespace Go.Proofs.Ytgjpkpmikbpcnaa
open Go.RowKit
theorem gH (args:Array Value) (w:World):(callFunc 22 args).run Try.prog w=.ok (.enter 22 args) w:=Go.Proofs.enters_of Try.func22 (by kernel_rfl) rfl args w
theorem fI {w W2:World} {fa:Option Addr} {n c d:Nat} {xs:List Int} (h:IntsV w (.slice fa n c) xs) (hd:d<xs.length) (f:Below w.heap.size w W2):∃ b off,fa=some ⟨b,off,none⟩∧W2.cell? ⟨b,off+d,none⟩=some (.int .i64 xs[d]!):=by
 obtain ⟨a',c',e',_,_,hA⟩:=h;injection e' with e1 _ _;subst e1;obtain ⟨b,off,e,hc⟩:=(IntsAt.later hA f) d hd;exact ⟨b,off,e,hc⟩
theorem yfG {w:World} {b:Nat} {A:Array Value} {t j:Nat} (h:w.heap[b]? = some (.cells A t)):w.frozen? ⟨b,j,none⟩=false:=by
 unfold World.frozen?
 simp [h]
theorem eV {p:Prb} {V:List Vst} {k d i:Nat} {kd it:Int} (hu:V.getD i (0,0)=(kd,it)) (ht:aI p kd it=true):cT p V k d i=if kd=1 then (if k≤i then (p.js.getD it.toNat jz).drop[d]! else (p.js.getD it.toNat jz).pick[d]!) else if kd=2 then (if i<k then (p.ss.getD it.toNat hz).amt[d]! else 0) else (if i<k then-(p.ss.getD it.toNat hz).amt[d]! else 0):=by
 unfold cT;rw [hu];simp only;rw [if_pos ht]
theorem yaS {p:Prb} {V:List Vst} {k d i:Nat} {kd it:Int} (hu:V.getD i (0,0)=(kd,it)) (ht:aI p kd it=false):cT p V k d i=0:=by
 unfold cT;rw [hu];simp only;rw [if_neg (by rw [ht];simp)]
set_option maxRecDepth 100000 in
set_option maxHeartbeats 12800000 in
theorem qM {w:World} {x:aU} {p:Prb} {m vc:Nat} {va:Option Addr} {V:List Vst} (h:PrbV w x p) (hL:aY p=true) (hV:VsV w (.slice va m vc) V) (hm:V.length=m) (hm2:m≤110):Calls Try.prog 43 #[.agg (aL p x),.slice va m vc] w fun e w'=>∃ v ys,e=.returned v∧LdS w' w.heap.size v ((List.range (m+1)).map (bY p p.dims.toNat V)) ys∧Below w.heap.size w w':=by
 have HP:=hide h;have HV:=hide hV;have HM:=hide hm;have HLW:=hide hL;have hjb:=SlV.bound h.j;have hsb:=SlV.bound h.s;obtain ⟨dd,hdd⟩:∃ dd:Nat,p.dims=dd:=⟨p.dims.toNat,by have:=(bF hL).dim;omega⟩;have hd3:dd≤3:=by have:=(bF hL).dim;omega
 have HDD:=hide hdd;rw [show p.dims.toNat=dd by omega];clear hV hm hL hdd;obtain ⟨ta,tc,da,dc,va',vc',ja,jc,sa,sc,rfl⟩:=h.open;clear h;have HTE:Hid (aL p ⟨.slice ta p.time.cells.length tc,.slice da p.dist.cells.length dc,.slice va' p.vs.length vc',.slice ja p.js.length jc,.slice sa p.ss.length sc⟩=#[.int .i64 p.dims,.int .i64 p.time.n,.slice ta p.time.cells.length tc,.int .i64 p.dist.n,.slice da p.dist.cells.length dc,.slice va' p.vs.length vc',.slice ja p.js.length jc,.slice sa p.ss.length sc]):=rfl;rw [HTE.out];have H22:Hid (∀ W2 (k i:Int),Below w.heap.size w W2→Calls Try.prog 22 #[.agg #[.int .i64 p.dims,.int .i64 p.time.n,.slice ta p.time.cells.length tc,.int .i64 p.dist.n,.slice da p.dist.cells.length dc,.slice va' p.vs.length vc',.slice ja p.js.length jc,.slice sa p.ss.length sc],.agg #[.int .i64 k,.int .i64 i]] W2 fun e w'=>∃ y,e=.returned (.tuple #[.agg #[.int .i64 (aS p k i).place,.int .i64 (aS p k i).serv,y],.bool (aI p k i)])∧WinsV w' y (aS p k i).wins∧Below W2.heap.size W2 w'):=fun W2 k i hf=>by have h9:=jM (HP.out.on hf) k i;exact h9
 obtain ⟨W,hW⟩:∃ W,W=w.alloc (.cells #[.int .i64 p.dims,.int .i64 p.time.n,.slice ta p.time.cells.length tc,.int .i64 p.dist.n,.slice da p.dist.cells.length dc,.slice va' p.vs.length vc',.slice ja p.js.length jc,.slice sa p.ss.length sc] 29):=⟨_,rfl⟩;have HBW:Hid (Below w.heap.size w W):=by rw [hW];exact Mn.a
 have HWS:Hid (W.heap.size=w.heap.size+1):=by show _=_;rw [hW];simp
 have HC:Hid (∀ j,W.cell? ⟨w.heap.size,j,none⟩=(#[.int .i64 p.dims,.int .i64 p.time.n,.slice ta p.time.cells.length tc,.int .i64 p.dist.n,.slice da p.dist.cells.length dc,.slice va' p.vs.length vc',.slice ja p.js.length jc,.slice sa p.ss.length sc]:Array Value)[j]?):=fun j=>by rw [hW];exact cell_of_row _ _ _ _ _ _ (heap_alloc_new w _)
 have hmk:=fun wx=>Ld.made_ints dd (by omega) wx;go_enter Try.func43,Try.ntmps43;go_wp2_with fail;rw [← hW];clear hW
 go_loopw [6,5] (fun vk v5 wr=>∃ (k:Nat) (aa:Option Addr) (ac:Nat) (ys:List Value),vk=.int .i64 k∧v5=.slice aa k ac∧k≤m+1∧Hid (LdS wr (w.heap.size+1) (.slice aa k ac) ((List.range k).map (bY p dd V)) ys)∧Hid (Below (w.heap.size+1) W wr)) (fun vk _ _=>m+1-(intOf vk).toNat)
 case atStart=>exact ⟨0,none,0,[],rfl,rfl,Nat.zero_le _,RowS.nil (World.ownsRow_nil _ _ _ _),Below.refl _ _⟩
 case round =>
  rename World=>w0;obtain ⟨k,aa,ac,ys,rfl,rfl,hk,HR,HB⟩:=hrel;have HSR:Hid (w.heap.size+1≤w0.heap.size):=by have:=HB.out.size;have:=HWS.out;show _≤_;omega
  have HBwr:Hid (Below w.heap.size w w0):=HBW.out.trans (HB.out.mono (Nat.le_succ _));have hmi:=hmk w0;rw [← HDD.out] at hmi;have rr0:w0.cell? ⟨w.heap.size,0,none⟩=some (.int .i64 p.dims):=(HB.out.cell (p:=⟨w.heap.size,0,none⟩) (Nat.lt_succ_self _)).trans (HC.out 0)
  by_cases hkm:k≤m
  ·have i1:(k:Int)≤(m:Int):=by omega
   go_wp2_with fail;obtain ⟨wN,hwN⟩:∃ wN,wN=w0.alloc (.cells (Array.replicate dd (.int .i64 0)) 3):=⟨_,rfl⟩;rw [← hwN];have HR0:Hid (IRow wN w0.heap.size (.slice (some ⟨w0.heap.size,0,none⟩) dd dd) (bU p dd V k 0 0)):=by show IRow _ _ _ _;rw [hwN,zC];exact Ld.irow_made w0 (Nat.le_refl _) (by omega)
   have HN0:Hid (Below w0.heap.size w0 wN):=by show Below _ _ _;rw [hwN];exact Mn.a
   obtain ⟨nb,hnb⟩:∃ nb,nb=w0.heap.size:=⟨_,rfl⟩;rw [← hnb] at HR0 HN0 ⊢;have HNB:=hide hnb;clear hwN hmi rr0 hnb
   go_loopw [8] (fun vi wq=>∃ i:Nat,vi=.int .i64 i∧i≤m∧Hid (IRow wq nb (.slice (some ⟨nb,0,none⟩) dd dd) (bU p dd V k i 0))∧Hid (Below nb w0 wq)) (fun vi _=>m-(intOf vi).toNat)
   case atStart=>exact ⟨0,rfl,Nat.zero_le _,HR0.out,HN0.out⟩
   case round =>
    clear HR0 HN0;rename World=>wq;obtain ⟨i,rfl,hi,HQ,HBq⟩:=hrel
    by_cases him:i<m
    ·have i2:(i:Int)<(m:Int):=by omega
     have i3:(0:Int)≤(i:Int):=by omega
     have i4:¬ (m:Int)≤(i:Int):=by omega
     obtain ⟨⟨kd,it⟩,hu⟩:∃ u,V[i]? = some u:=⟨_,List.getElem?_eq_getElem (by rw [HM.out];exact him)⟩;obtain ⟨b,off,rfl,hb,c1,c2,_⟩:=bL HV.out hu;simp only at c1 c2;have HU:Hid (V.getD i (0,0)=(kd,it)):=by show _=_;rw [List.getD_eq_getElem?_getD,hu];rfl
     have HBB:Hid (∀ wx,Below nb w0 wx→Below w.heap.size w wx):=fun wx hx=>below_on HBwr.out (by rw [HNB.out] at hx;exact hx)
     have HLOW:Hid (∀ wx,Below nb w0 wx→(∀ j,wx.cell? ⟨w.heap.size,j,none⟩=(#[.int .i64 p.dims,.int .i64 p.time.n,.slice ta p.time.cells.length tc,.int .i64 p.dist.n,.slice da p.dist.cells.length dc,.slice va' p.vs.length vc',.slice ja p.js.length jc,.slice sa p.ss.length sc]:Array Value)[j]?)∧wx.cell? ⟨b,off+i*2,none⟩=some (.int .i64 kd)∧wx.cell? ⟨b,off+i*2+1,none⟩=some (.int .i64 it)):=fun wx hx=>by
      have hx0:=HBB.out wx hx;refine ⟨fun j=>?_,((aA hx0).1 _ _ hb).trans c1,((aA hx0).1 _ _ hb).trans c2⟩;rw [hx.cell (p:=⟨w.heap.size,j,none⟩) (by have:=HSR.out;have:=HNB.out;show w.heap.size<nb;omega),HB.out.cell (p:=⟨w.heap.size,j,none⟩) (Nat.lt_succ_self _)];exact HC.out j
     clear c1 c2 hu hb;obtain ⟨tv,htv⟩:∃ b,aI p kd it=b:=⟨_,rfl⟩;have HTV:=hide htv;have HLQ:Hid (nb<wq.heap.size):=(World.ownsRow.lt HQ.out nb rfl).2;have nq0:¬ w.heap.size=wq.heap.size:=by have:=HLQ.out;have:=HSR.out;have:=HNB.out;omega
     have nq1:¬ b=wq.heap.size:=by have:=block_lt_of_cell (HLOW.out _ HBq.out).2.1;intro e;rw [e] at this;exact absurd this (Nat.lt_irrefl _)
     obtain ⟨qp0,qp1,qp2,qp3,qp4,qp5,qp6,qp7⟩:=Mn.c8 ((HLOW.out _ HBq.out).1);have qv0:wq.cell? ⟨b,off+i*2,none⟩=some (.int .i64 kd):=(HLOW.out _ HBq.out).2.1;have qv1:wq.cell? ⟨b,off+i*2+1,none⟩=some (.int .i64 it):=(HLOW.out _ HBq.out).2.2;go_wp2_with fail
     cases tv with
     | false =>
      refine wp_region_held_drew (S:=(fun w'=>w'.cell? ⟨w.heap.size,0,none⟩=some (.int .i64 p.dims)∧w'.cell? ⟨w.heap.size,1,none⟩=some (.int .i64 p.time.n)∧w'.cell? ⟨w.heap.size,2,none⟩=some (.slice ta p.time.cells.length tc)∧w'.cell? ⟨w.heap.size,3,none⟩=some (.int .i64 p.dist.n)∧w'.cell? ⟨w.heap.size,4,none⟩=some (.slice da p.dist.cells.length dc)∧w'.cell? ⟨w.heap.size,5,none⟩=some (.slice va' p.vs.length vc')∧w'.cell? ⟨w.heap.size,6,none⟩=some (.slice ja p.js.length jc)∧w'.cell? ⟨w.heap.size,7,none⟩=some (.slice sa p.ss.length sc)∧w'.cell? ⟨b,off+i*2,none⟩=some (.int .i64 kd)∧w'.cell? ⟨b,off+i*2+1,none⟩=some (.int .i64 it))) (by kernel_rfl) ?_ (fun hHeld0=>?_)
      · (try dsimp only);go_keep
      refine Mn.t 0 ?_;(try simp only [Act.put,Mn.q]);refine Mn.t 1 ?_;(try simp only [Act.put,Mn.q]);refine Mn.t 2 ?_;(try simp only [Act.put,Mn.q]);refine Mn.t 3 ?_;(try simp only [Act.put,Mn.q]);refine Mn.t 4 ?_;(try simp only [Act.put,Mn.q]);refine wpAnyH_ready (rs:=[5,9]) (by kernel_rfl) (by simp) ?_;refine AllReadyH.cons rfl (fun K hK=>?_) ?_
      ·(refine aG (by rfl) 22 _ _ (by rfl) gH [.agg #[.int .i64 p.dims,.int .i64 p.time.n,.slice ta p.time.cells.length tc,.int .i64 p.dist.n,.slice da p.dist.cells.length dc,.slice va' p.vs.length vc',.slice ja p.js.length jc,.slice sa p.ss.length sc],.agg #[.int .i64 kd,.int .i64 it]] (by rfl) ?_;refine (H22.out _ _ _ (below_on (HBB.out _ HBq.out) ((Below.refl _ _).drew))).mono ?_;rintro e w2 ⟨y,rfl,Q2,k2⟩;refine ⟨_,rfl,?_⟩;obtain ⟨ya,yc,rfl⟩:=Q2.shape;rw [HTV.out];have K2:=hide (below_on ((Below.refl _ _).drew) k2);have E2:=hide (HBq.out.trans (K2.out.mono (Nat.le_of_lt HLQ.out)));obtain ⟨sp0,sp1,sp2,sp3,sp4,sp5,sp6,sp7⟩:=Mn.c8 ((HLOW.out _ E2.out).1);have sv0:w2.cell? ⟨b,off+i*2,none⟩=some (.int .i64 kd):=(HLOW.out _ E2.out).2.1;have sv1:w2.cell? ⟨b,off+i*2+1,none⟩=some (.int .i64 it):=(HLOW.out _ E2.out).2.2;have nr0:¬ w.heap.size=w2.heap.size:=(by have:=K2.out.size;have:=HLQ.out;have:=HSR.out;have:=HNB.out;omega);have nr1:¬ b=w2.heap.size:=(by have:=block_lt_of_cell (HLOW.out _ E2.out).2.1;intro e9;rw [e9] at this;exact absurd this (Nat.lt_irrefl _));clear k2 Q2)
       refine hK.out _ _ ?_ (fun hHeld1=>?_)
       · (try dsimp only);go_keep
       clear hK K;(try simp only [Act.put,Mn.q]);clear hHeld0;refine Mn.t 6 ?_;(try simp only [Act.put,Mn.q]);refine Mn.t 7 ?_;(try simp only [Act.put,Mn.q]);refine Mn.t 8 ?_;(try simp only [Act.put,Mn.q]);refine wpAnyH_ready (rs:=[9]) (by kernel_rfl) (by simp) ?_;refine AllReadyH.cons rfl (fun K hK=>?_) ?_
       ·go_simp
        refine hK.out _ _ ?_ (fun hHeld2=>?_)
        · (try dsimp only);go_keep
        clear hK K;(try simp only [Act.put,Mn.q]);clear hHeld1;refine wpAnyH_ready (rs:=[10]) (by kernel_rfl) (by simp) ?_;refine AllReadyH.cons rfl (fun K hK=>?_) ?_
        ·go_simp
         refine hK.out _ _ ?_ (fun hHeld3=>?_)
         · (try dsimp only);(first | (go_keep;done) | (refine ⟨?_,?_,?_,?_,?_,?_,?_,?_,?_,?_⟩ <;> (refine bB (w:=w2) ?_ (by assumption);(repeat rw [heap_setCell_other _ _ _ _ (by simp;omega)]))))
         clear hK K;(try simp only [Act.put,Mn.q]);clear hHeld2;refine Mn.t 11 ?_;(try simp only [Act.put,Mn.q]);refine wpAnyH_done (by kernel_rfl) ?_ _;clear hHeld3
         generalize hw3:w2.alloc (.cells #[.int .i64 (aS p kd it).place,.int .i64 (aS p kd it).serv,.slice ya (aS p kd it).wins.length yc] 45)=w3
         have K3:Hid (Below wq.heap.size wq w3):=by show Below _ _ _;rw [← hw3];exact below_on K2.out Mn.a
         skip
         clear hw3 K2 E2 nr0 nr1 sp0 sp1 sp2 sp3 sp4 sp5 sp6 sp7 sv0 sv1 qp0 qp1 qp2 qp3 qp4 qp5 qp6 qp7 qv0 qv1 nq0 nq1;have E3:=hide (HBq.out.trans (K3.out.mono (Nat.le_of_lt HLQ.out)));have HQ3:=hide (HQ.out.later (Nat.le_refl _) K3.out);have sp0:w3.cell? ⟨w.heap.size,0,none⟩=some (.int .i64 p.dims):=(HLOW.out _ E3.out).1 0 ;have sp1:w3.cell? ⟨w.heap.size,1,none⟩=some (.int .i64 p.time.n):=(HLOW.out _ E3.out).1 1 ;have sp2:w3.cell? ⟨w.heap.size,2,none⟩=some (.slice ta p.time.cells.length tc):=(HLOW.out _ E3.out).1 2 ;have sp3:w3.cell? ⟨w.heap.size,3,none⟩=some (.int .i64 p.dist.n):=(HLOW.out _ E3.out).1 3 ;have sp4:w3.cell? ⟨w.heap.size,4,none⟩=some (.slice da p.dist.cells.length dc):=(HLOW.out _ E3.out).1 4 ;have sp5:w3.cell? ⟨w.heap.size,5,none⟩=some (.slice va' p.vs.length vc'):=(HLOW.out _ E3.out).1 5 ;have sp6:w3.cell? ⟨w.heap.size,6,none⟩=some (.slice ja p.js.length jc):=(HLOW.out _ E3.out).1 6 ;have sp7:w3.cell? ⟨w.heap.size,7,none⟩=some (.slice sa p.ss.length sc):=(HLOW.out _ E3.out).1 7 ;have sv0:w3.cell? ⟨b,off+i*2,none⟩=some (.int .i64 kd):=(HLOW.out _ E3.out).2.1 ;have sv1:w3.cell? ⟨b,off+i*2+1,none⟩=some (.int .i64 it):=(HLOW.out _ E3.out).2.2;go_wp2_with fail;go_roundw
         case rel=>exact ⟨i+1,by go_num,by omega,by have h9:=HQ3.out;rw [qK (fun d=>yaS HU.out HTV.out)];exact h9,E3.out⟩
         case measure=>simp [intOf];omega
        exact AllReadyH.nil
       exact AllReadyH.nil
      refine AllReadyH.cons rfl (fun K hK=>?_) ?_
      ·go_simp
       refine hK.out _ _ ?_ (fun hHeld4=>?_)
       · (try dsimp only);go_keep
       clear hK K;(try simp only [Act.put,Mn.q]);clear hHeld0;refine wpAnyH_ready (rs:=[5]) (by kernel_rfl) (by simp) ?_;refine AllReadyH.cons rfl (fun K hK=>?_) ?_
       ·(refine aG (by rfl) 22 _ _ (by rfl) gH [.agg #[.int .i64 p.dims,.int .i64 p.time.n,.slice ta p.time.cells.length tc,.int .i64 p.dist.n,.slice da p.dist.cells.length dc,.slice va' p.vs.length vc',.slice ja p.js.length jc,.slice sa p.ss.length sc],.agg #[.int .i64 kd,.int .i64 it]] (by rfl) ?_;refine (H22.out _ _ _ (below_on (HBB.out _ HBq.out) (below_on ((Below.refl _ _).drew) Mn.a))).mono ?_;rintro e w2 ⟨y,rfl,Q2,k2⟩;refine ⟨_,rfl,?_⟩;obtain ⟨ya,yc,rfl⟩:=Q2.shape;rw [HTV.out];have K2:=hide (below_on (below_on ((Below.refl _ _).drew) Mn.a) k2);have E2:=hide (HBq.out.trans (K2.out.mono (Nat.le_of_lt HLQ.out)));obtain ⟨sp0,sp1,sp2,sp3,sp4,sp5,sp6,sp7⟩:=Mn.c8 ((HLOW.out _ E2.out).1);have sv0:w2.cell? ⟨b,off+i*2,none⟩=some (.int .i64 kd):=(HLOW.out _ E2.out).2.1;have sv1:w2.cell? ⟨b,off+i*2+1,none⟩=some (.int .i64 it):=(HLOW.out _ E2.out).2.2;have nr0:¬ w.heap.size=w2.heap.size:=(by have:=K2.out.size;have:=HLQ.out;have:=HSR.out;have:=HNB.out;omega);have nr1:¬ b=w2.heap.size:=(by have:=block_lt_of_cell (HLOW.out _ E2.out).2.1;intro e9;rw [e9] at this;exact absurd this (Nat.lt_irrefl _));have HX2:Hid (w2.heap[wq.heap.size]? = some (.cells #[.int .i64 0,.int .i64 0,.slice none 0 0] 45)):=(k2.block _ (by simp)).trans (heap_alloc_new wq.drew _);obtain ⟨gc0,gc1,gc2,gf0,gf1,gf2⟩:=Mn.x3 (HX2.out);clear k2 Q2)
        refine hK.out _ _ ?_ (fun hHeld5=>?_)
        · (try dsimp only);go_keep
        clear hK K;(try simp only [Act.put,Mn.q]);clear hHeld4;refine Mn.t 6 ?_;(try simp only [Act.put,Mn.q]);refine Mn.t 7 ?_;(try simp only [Act.put,Mn.q]);refine Mn.t 8 ?_;(try simp only [Act.put,Mn.q]);refine wpAnyH_ready (rs:=[10]) (by kernel_rfl) (by simp) ?_;refine AllReadyH.cons rfl (fun K hK=>?_) ?_
        ·go_simp
         refine hK.out _ _ ?_ (fun hHeld6=>?_)
         · (try dsimp only);(first | (go_keep;done) | (refine ⟨?_,?_,?_,?_,?_,?_,?_,?_,?_,?_⟩ <;> (refine bB (w:=w2) ?_ (by assumption);(repeat rw [heap_setCell_other _ _ _ _ (by simp;omega)]))))
         clear hK K;(try simp only [Act.put,Mn.q]);clear hHeld5;refine Mn.t 11 ?_;(try simp only [Act.put,Mn.q]);refine wpAnyH_done (by kernel_rfl) ?_ _;clear hHeld6
         generalize hw3:((w2.setCell ⟨wq.heap.size,0,none⟩ (.int .i64 (aS p kd it).place)).setCell ⟨wq.heap.size,1,none⟩ (.int .i64 (aS p kd it).serv)).setCell ⟨wq.heap.size,2,none⟩ (.slice ya (aS p kd it).wins.length yc)=w3
         have K3:Hid (Below wq.heap.size wq w3):=by show Below _ _ _;rw [← hw3];exact ((K2.out.setCell (Nat.le_refl _) _).setCell (Nat.le_refl _) _).setCell (Nat.le_refl _) _
         clear gc0 gf0 gc1 gf1 gc2 gf2 HX2;clear hw3 K2 E2 nr0 nr1 sp0 sp1 sp2 sp3 sp4 sp5 sp6 sp7 sv0 sv1 qp0 qp1 qp2 qp3 qp4 qp5 qp6 qp7 qv0 qv1 nq0 nq1;have E3:=hide (HBq.out.trans (K3.out.mono (Nat.le_of_lt HLQ.out)));have HQ3:=hide (HQ.out.later (Nat.le_refl _) K3.out);have sp0:w3.cell? ⟨w.heap.size,0,none⟩=some (.int .i64 p.dims):=(HLOW.out _ E3.out).1 0 ;have sp1:w3.cell? ⟨w.heap.size,1,none⟩=some (.int .i64 p.time.n):=(HLOW.out _ E3.out).1 1 ;have sp2:w3.cell? ⟨w.heap.size,2,none⟩=some (.slice ta p.time.cells.length tc):=(HLOW.out _ E3.out).1 2 ;have sp3:w3.cell? ⟨w.heap.size,3,none⟩=some (.int .i64 p.dist.n):=(HLOW.out _ E3.out).1 3 ;have sp4:w3.cell? ⟨w.heap.size,4,none⟩=some (.slice da p.dist.cells.length dc):=(HLOW.out _ E3.out).1 4 ;have sp5:w3.cell? ⟨w.heap.size,5,none⟩=some (.slice va' p.vs.length vc'):=(HLOW.out _ E3.out).1 5 ;have sp6:w3.cell? ⟨w.heap.size,6,none⟩=some (.slice ja p.js.length jc):=(HLOW.out _ E3.out).1 6 ;have sp7:w3.cell? ⟨w.heap.size,7,none⟩=some (.slice sa p.ss.length sc):=(HLOW.out _ E3.out).1 7 ;have sv0:w3.cell? ⟨b,off+i*2,none⟩=some (.int .i64 kd):=(HLOW.out _ E3.out).2.1 ;have sv1:w3.cell? ⟨b,off+i*2+1,none⟩=some (.int .i64 it):=(HLOW.out _ E3.out).2.2;go_wp2_with fail;go_roundw
         case rel=>exact ⟨i+1,by go_num,by omega,by have h9:=HQ3.out;rw [qK (fun d=>yaS HU.out HTV.out)];exact h9,E3.out⟩
         case measure=>simp [intOf];omega
        exact AllReadyH.nil
       exact AllReadyH.nil
      exact AllReadyH.nil
     | true =>
      refine wp_region_held_drew (S:=(fun w'=>w'.cell? ⟨w.heap.size,0,none⟩=some (.int .i64 p.dims)∧w'.cell? ⟨w.heap.size,1,none⟩=some (.int .i64 p.time.n)∧w'.cell? ⟨w.heap.size,2,none⟩=some (.slice ta p.time.cells.length tc)∧w'.cell? ⟨w.heap.size,3,none⟩=some (.int .i64 p.dist.n)∧w'.cell? ⟨w.heap.size,4,none⟩=some (.slice da p.dist.cells.length dc)∧w'.cell? ⟨w.heap.size,5,none⟩=some (.slice va' p.vs.length vc')∧w'.cell? ⟨w.heap.size,6,none⟩=some (.slice ja p.js.length jc)∧w'.cell? ⟨w.heap.size,7,none⟩=some (.slice sa p.ss.length sc)∧w'.cell? ⟨b,off+i*2,none⟩=some (.int .i64 kd)∧w'.cell? ⟨b,off+i*2+1,none⟩=some (.int .i64 it))) (by kernel_rfl) ?_ (fun hHeld0=>?_)
      · (try dsimp only);go_keep
      refine Mn.t 0 ?_;(try simp only [Act.put,Mn.q]);refine Mn.t 1 ?_;(try simp only [Act.put,Mn.q]);refine Mn.t 2 ?_;(try simp only [Act.put,Mn.q]);refine Mn.t 3 ?_;(try simp only [Act.put,Mn.q]);refine Mn.t 4 ?_;(try simp only [Act.put,Mn.q]);refine wpAnyH_ready (rs:=[5,9]) (by kernel_rfl) (by simp) ?_;refine AllReadyH.cons rfl (fun K hK=>?_) ?_
      ·(refine aG (by rfl) 22 _ _ (by rfl) gH [.agg #[.int .i64 p.dims,.int .i64 p.time.n,.slice ta p.time.cells.length tc,.int .i64 p.dist.n,.slice da p.dist.cells.length dc,.slice va' p.vs.length vc',.slice ja p.js.length jc,.slice sa p.ss.length sc],.agg #[.int .i64 kd,.int .i64 it]] (by rfl) ?_;refine (H22.out _ _ _ (below_on (HBB.out _ HBq.out) ((Below.refl _ _).drew))).mono ?_;rintro e w2 ⟨y,rfl,Q2,k2⟩;refine ⟨_,rfl,?_⟩;obtain ⟨ya,yc,rfl⟩:=Q2.shape;rw [HTV.out];have K2:=hide (below_on ((Below.refl _ _).drew) k2);have E2:=hide (HBq.out.trans (K2.out.mono (Nat.le_of_lt HLQ.out)));obtain ⟨sp0,sp1,sp2,sp3,sp4,sp5,sp6,sp7⟩:=Mn.c8 ((HLOW.out _ E2.out).1);have sv0:w2.cell? ⟨b,off+i*2,none⟩=some (.int .i64 kd):=(HLOW.out _ E2.out).2.1;have sv1:w2.cell? ⟨b,off+i*2+1,none⟩=some (.int .i64 it):=(HLOW.out _ E2.out).2.2;have nr0:¬ w.heap.size=w2.heap.size:=(by have:=K2.out.size;have:=HLQ.out;have:=HSR.out;have:=HNB.out;omega);have nr1:¬ b=w2.heap.size:=(by have:=block_lt_of_cell (HLOW.out _ E2.out).2.1;intro e9;rw [e9] at this;exact absurd this (Nat.lt_irrefl _));clear k2 Q2)
       refine hK.out _ _ ?_ (fun hHeld1=>?_)
       · (try dsimp only);go_keep
       clear hK K;(try simp only [Act.put,Mn.q]);clear hHeld0;refine Mn.t 6 ?_;(try simp only [Act.put,Mn.q]);refine Mn.t 7 ?_;(try simp only [Act.put,Mn.q]);refine Mn.t 8 ?_;(try simp only [Act.put,Mn.q]);refine wpAnyH_ready (rs:=[9]) (by kernel_rfl) (by simp) ?_;refine AllReadyH.cons rfl (fun K hK=>?_) ?_
       ·go_simp
        refine hK.out _ _ ?_ (fun hHeld2=>?_)
        · (try dsimp only);go_keep
        clear hK K;(try simp only [Act.put,Mn.q]);clear hHeld1;refine wpAnyH_ready (rs:=[10]) (by kernel_rfl) (by simp) ?_;refine AllReadyH.cons rfl (fun K hK=>?_) ?_
        ·go_simp
         refine hK.out _ _ ?_ (fun hHeld3=>?_)
         · (try dsimp only);(first | (go_keep;done) | (refine ⟨?_,?_,?_,?_,?_,?_,?_,?_,?_,?_⟩ <;> (refine bB (w:=w2) ?_ (by assumption);(repeat rw [heap_setCell_other _ _ _ _ (by simp;omega)]))))
         clear hK K;(try simp only [Act.put,Mn.q]);clear hHeld2;refine Mn.t 11 ?_;(try simp only [Act.put,Mn.q]);refine wpAnyH_done (by kernel_rfl) ?_ _;clear hHeld3
         generalize hw3:w2.alloc (.cells #[.int .i64 (aS p kd it).place,.int .i64 (aS p kd it).serv,.slice ya (aS p kd it).wins.length yc] 45)=w3
         have K3:Hid (Below wq.heap.size wq w3):=by show Below _ _ _;rw [← hw3];exact below_on K2.out Mn.a
         skip
         clear hw3 K2 E2 nr0 nr1 sp0 sp1 sp2 sp3 sp4 sp5 sp6 sp7 sv0 sv1 qp0 qp1 qp2 qp3 qp4 qp5 qp6 qp7 qv0 qv1 nq0 nq1;have E3:=hide (HBq.out.trans (K3.out.mono (Nat.le_of_lt HLQ.out)));have HQ3:=hide (HQ.out.later (Nat.le_refl _) K3.out);have sp0:w3.cell? ⟨w.heap.size,0,none⟩=some (.int .i64 p.dims):=(HLOW.out _ E3.out).1 0 ;have sp1:w3.cell? ⟨w.heap.size,1,none⟩=some (.int .i64 p.time.n):=(HLOW.out _ E3.out).1 1 ;have sp2:w3.cell? ⟨w.heap.size,2,none⟩=some (.slice ta p.time.cells.length tc):=(HLOW.out _ E3.out).1 2 ;have sp3:w3.cell? ⟨w.heap.size,3,none⟩=some (.int .i64 p.dist.n):=(HLOW.out _ E3.out).1 3 ;have sp4:w3.cell? ⟨w.heap.size,4,none⟩=some (.slice da p.dist.cells.length dc):=(HLOW.out _ E3.out).1 4 ;have sp5:w3.cell? ⟨w.heap.size,5,none⟩=some (.slice va' p.vs.length vc'):=(HLOW.out _ E3.out).1 5 ;have sp6:w3.cell? ⟨w.heap.size,6,none⟩=some (.slice ja p.js.length jc):=(HLOW.out _ E3.out).1 6 ;have sp7:w3.cell? ⟨w.heap.size,7,none⟩=some (.slice sa p.ss.length sc):=(HLOW.out _ E3.out).1 7 ;have sv0:w3.cell? ⟨b,off+i*2,none⟩=some (.int .i64 kd):=(HLOW.out _ E3.out).2.1 ;have sv1:w3.cell? ⟨b,off+i*2+1,none⟩=some (.int .i64 it):=(HLOW.out _ E3.out).2.2;go_wp2_with fail
         go_loopw [12] (fun vd wx=>∃ d:Nat,vd=.int .i64 d∧d≤dd∧Hid (IRow wx nb (.slice (some ⟨nb,0,none⟩) dd dd) (bU p dd V k i d))∧Hid (Below nb w0 wx)) (fun vd _=>dd-(intOf vd).toNat)
         case atStart=>exact ⟨0,rfl,Nat.zero_le _,HQ3.out,E3.out⟩
         case round =>
           clear HQ3 E3 K3 sp0 sp1 sp2 sp3 sp4 sp5 sp6 sp7 sv0 sv1;obtain ⟨d,rfl,hd,HQD,HBD⟩:=hrel;obtain ⟨dp0,dp1,dp2,dp3,dp4,dp5,dp6,dp7⟩:=Mn.c8 ((HLOW.out _ HBD.out).1);have dv0:wr.cell? ⟨b,off+i*2,none⟩=some (.int .i64 kd):=(HLOW.out _ HBD.out).2.1;have dv1:wr.cell? ⟨b,off+i*2+1,none⟩=some (.int .i64 it):=(HLOW.out _ HBD.out).2.2
           by_cases hdd:d<dd
           ·have j1:(d:Int)<p.dims:=by rw [HDD.out];omega
            have j2:(d:Int)<(dd:Int):=by omega
            have j3:(0:Int)≤(d:Int):=by omega
            have j4:¬ (dd:Int)≤(d:Int):=by omega
            obtain ⟨r0,hr0⟩:∃ r0,(bU p dd V k i d)[d]! = r0:=⟨_,rfl⟩;have HR0:=hide hr0;have hrb:=wV (V:=V) (k:=k) (i:=i) HLW.out HDD.out hdd (by omega);rw [hr0] at hrb;have cN:wr.cell? ⟨nb,d,none⟩=some (.int .i64 r0):=by rw [← hr0];exact HQD.out.cell d (by rw [oG];exact hdd)
            have fN:wr.frozen? ⟨nb,d,none⟩=false:=HQD.out.frozen d;have htc:=aN HTV.out;clear hr0
            rcases htc with ⟨rfl,j,rfl,hj,-⟩ | ⟨rfl,j,rfl,hj,-⟩ | ⟨rfl,j,rfl,hj,-⟩
            ·by_cases hki:k≤i
             ·have z1:(k:Int)≤(i:Int):=by omega
              have HRC:Hid (cT p V k d i=(p.js.getD j jz).drop[d]!):=by show _=_;rw [eV (p:=p) (k:=k) (d:=d) HU.out HTV.out];simp [hki]
              obtain ⟨jb,joff,jcc,x1,x2,xa,he,hjb2,hcs,_,q2,q3⟩:=dM HP.out.j hj;simp only at he;injection he with he1 _ he3;subst he1 he3;obtain ⟨fa,fc,rfl⟩:=q2.shape;have hln:=fW HLW.out HDD.out hj;obtain ⟨fb,foff,rfl,fcc⟩:=fI (d:=d) q2 (by rw [hln.1];exact hdd) (HBB.out _ HBD.out);have c3:wr.cell? ⟨jb,joff+j*7+3,none⟩=some (.slice (some ⟨fb,foff,none⟩) dd fc):=by have h9:=((aA (HBB.out _ HBD.out)).1 _ _ hjb2).trans (hcs 3 (by decide));rw [← hln.1];exact h9
              have hsm:=hln.2.2.1 d (by rw [hln.1];exact hdd);clear hcs hln q2 q3 hjb2;have j5:(j:Int)<(p.js.length:Int):=by omega
              have j6:(0:Int)≤(j:Int):=by omega
              have j7:¬ (p.js.length:Int)≤(j:Int):=by omega
              obtain ⟨z,hz0⟩:∃ z,(p.js.getD j jz).drop[d]! = z:=⟨_,rfl⟩;rw [hz0] at HRC fcc hsm;have HZ0:=hide hz0;clear hz0;have hwr:IntKind.i64.wrap (r0+z)=r0+z:=by rw [IntKind.wrap_i64];omega
              have HST:Hid (IRow ((wr.setCell ⟨nb,d,none⟩ (.int .i64 (r0+z))).drew) nb (.slice (some ⟨nb,0,none⟩) dd dd) (bU p dd V k i (d+1))):=by show IRow _ _ _ _;have h9:=(HQD.out.set d (r0+z)).drewN 1;rw [← eF hdd,HR0.out,HRC.out];exact h9
              go_wp2_with fail
              go_region
              go_wp2_with fail;go_roundw
              case rel=>exact ⟨d+1,by go_num,by omega,HST.out,(HBD.out.setCell (Nat.le_refl _) _).drew⟩
              case measure=>simp [intOf];omega
             ·have z1:¬ (k:Int)≤(i:Int):=by omega
              have HRC:Hid (cT p V k d i=(p.js.getD j jz).pick[d]!):=by show _=_;rw [eV (p:=p) (k:=k) (d:=d) HU.out HTV.out];simp [hki]
              obtain ⟨jb,joff,jcc,x1,x2,xa,he,hjb2,hcs,_,q2,q3⟩:=dM HP.out.j hj;simp only at he;injection he with he1 _ he3;subst he1 he3;obtain ⟨fa,fc,rfl⟩:=q3.shape;have hln:=fW HLW.out HDD.out hj;obtain ⟨fb,foff,rfl,fcc⟩:=fI (d:=d) q3 (by rw [hln.2.1];exact hdd) (HBB.out _ HBD.out);have c3:wr.cell? ⟨jb,joff+j*7+4,none⟩=some (.slice (some ⟨fb,foff,none⟩) dd fc):=by have h9:=((aA (HBB.out _ HBD.out)).1 _ _ hjb2).trans (hcs 4 (by decide));rw [← hln.2.1];exact h9
              have hsm:=hln.2.2.2 d (by rw [hln.2.1];exact hdd);clear hcs hln q2 q3 hjb2;have j5:(j:Int)<(p.js.length:Int):=by omega
              have j6:(0:Int)≤(j:Int):=by omega
              have j7:¬ (p.js.length:Int)≤(j:Int):=by omega
              obtain ⟨z,hz0⟩:∃ z,(p.js.getD j jz).pick[d]! = z:=⟨_,rfl⟩;rw [hz0] at HRC fcc hsm;have HZ0:=hide hz0;clear hz0;have hwr:IntKind.i64.wrap (r0+z)=r0+z:=by rw [IntKind.wrap_i64];omega
              have HST:Hid (IRow ((wr.setCell ⟨nb,d,none⟩ (.int .i64 (r0+z))).drew) nb (.slice (some ⟨nb,0,none⟩) dd dd) (bU p dd V k i (d+1))):=by show IRow _ _ _ _;have h9:=(HQD.out.set d (r0+z)).drewN 1;rw [← eF hdd,HR0.out,HRC.out];exact h9
              go_wp2_with fail
              go_region
              go_wp2_with fail;go_roundw
              case rel=>exact ⟨d+1,by go_num,by omega,HST.out,(HBD.out.setCell (Nat.le_refl _) _).drew⟩
              case measure=>simp [intOf];omega
            ·by_cases hki:i<k
             ·have z1:(i:Int)<(k:Int):=by omega
              have HRC:Hid (cT p V k d i=(p.ss.getD j hz).amt[d]!):=by show _=_;rw [eV (p:=p) (k:=k) (d:=d) HU.out HTV.out];simp [hki]
              obtain ⟨jb,joff,jcc,x1,x2,xa,he,hjb2,hcs,_,_,q3⟩:=cL HP.out.s hj;simp only at he;injection he with he1 _ he3;subst he1 he3;obtain ⟨fa,fc,rfl⟩:=q3.shape;have hln:=iR HLW.out HDD.out hj;obtain ⟨fb,foff,rfl,fcc⟩:=fI (d:=d) q3 (by rw [hln.1];exact hdd) (HBB.out _ HBD.out);have c3:wr.cell? ⟨jb,joff+j*9+6,none⟩=some (.slice (some ⟨fb,foff,none⟩) dd fc):=by have h9:=((aA (HBB.out _ HBD.out)).1 _ _ hjb2).trans (hcs 6 (by decide));rw [← hln.1];exact h9
              have hsm:=hln.2 d (by rw [hln.1];exact hdd);clear hcs hln q3 hjb2;have j5:(j:Int)<(p.ss.length:Int):=by omega
              have j6:(0:Int)≤(j:Int):=by omega
              have j7:¬ (p.ss.length:Int)≤(j:Int):=by omega
              obtain ⟨z,hz0⟩:∃ z,(p.ss.getD j hz).amt[d]! = z:=⟨_,rfl⟩;rw [hz0] at HRC fcc hsm;have HZ0:=hide hz0;clear hz0;have hwr:IntKind.i64.wrap (r0+z)=r0+z:=by rw [IntKind.wrap_i64];omega
              have HST:Hid (IRow ((wr.setCell ⟨nb,d,none⟩ (.int .i64 (r0+z))).drew) nb (.slice (some ⟨nb,0,none⟩) dd dd) (bU p dd V k i (d+1))):=by show IRow _ _ _ _;have h9:=(HQD.out.set d (r0+z)).drewN 1;rw [← eF hdd,HR0.out,HRC.out];exact h9
              go_wp2_with fail
              go_region
              go_wp2_with fail;go_roundw
              case rel=>exact ⟨d+1,by go_num,by omega,HST.out,(HBD.out.setCell (Nat.le_refl _) _).drew⟩
              case measure=>simp [intOf];omega
             ·have z1:¬ (i:Int)<(k:Int):=by omega
              have HRC:Hid (cT p V k d i=0):=by show _=_;rw [eV (p:=p) (k:=k) (d:=d) HU.out HTV.out];simp [hki]
              go_wp2_with fail;go_roundw
              case rel=>exact ⟨d+1,by go_num,by omega,by have h9:=HQD.out;rw [jN HRC.out];exact h9,HBD.out⟩
              case measure=>simp [intOf];omega
            ·by_cases hki:i<k
             ·have z1:(i:Int)<(k:Int):=by omega
              have HRC:Hid (cT p V k d i=-(p.ss.getD j hz).amt[d]!):=by show _=_;rw [eV (p:=p) (k:=k) (d:=d) HU.out HTV.out];simp [hki]
              obtain ⟨jb,joff,jcc,x1,x2,xa,he,hjb2,hcs,_,_,q3⟩:=cL HP.out.s hj;simp only at he;injection he with he1 _ he3;subst he1 he3;obtain ⟨fa,fc,rfl⟩:=q3.shape;have hln:=iR HLW.out HDD.out hj;obtain ⟨fb,foff,rfl,fcc⟩:=fI (d:=d) q3 (by rw [hln.1];exact hdd) (HBB.out _ HBD.out);have c3:wr.cell? ⟨jb,joff+j*9+6,none⟩=some (.slice (some ⟨fb,foff,none⟩) dd fc):=by have h9:=((aA (HBB.out _ HBD.out)).1 _ _ hjb2).trans (hcs 6 (by decide));rw [← hln.1];exact h9
              have hsm:=hln.2 d (by rw [hln.1];exact hdd);clear hcs hln q3 hjb2;have j5:(j:Int)<(p.ss.length:Int):=by omega
              have j6:(0:Int)≤(j:Int):=by omega
              have j7:¬ (p.ss.length:Int)≤(j:Int):=by omega
              obtain ⟨z,hz0⟩:∃ z,(p.ss.getD j hz).amt[d]! = z:=⟨_,rfl⟩;rw [hz0] at HRC fcc hsm;have HZ0:=hide hz0;clear hz0;have hwr:IntKind.i64.wrap (r0-z)=r0-z:=by rw [IntKind.wrap_i64];omega
              have HST:Hid (IRow ((wr.setCell ⟨nb,d,none⟩ (.int .i64 (r0-z))).drew) nb (.slice (some ⟨nb,0,none⟩) dd dd) (bU p dd V k i (d+1))):=by show IRow _ _ _ _;have h9:=(HQD.out.set d (r0-z)).drewN 1;rw [← eF hdd,HR0.out,HRC.out];rw [← Int.sub_eq_add_neg];exact h9
              go_wp2_with fail
              go_region
              go_wp2_with fail;go_roundw
              case rel=>exact ⟨d+1,by go_num,by omega,HST.out,(HBD.out.setCell (Nat.le_refl _) _).drew⟩
              case measure=>simp [intOf];omega
             ·have z1:¬ (i:Int)<(k:Int):=by omega
              have HRC:Hid (cT p V k d i=0):=by show _=_;rw [eV (p:=p) (k:=k) (d:=d) HU.out HTV.out];simp [hki]
              go_wp2_with fail;go_roundw
              case rel=>exact ⟨d+1,by go_num,by omega,by have h9:=HQD.out;rw [jN HRC.out];exact h9,HBD.out⟩
              case measure=>simp [intOf];omega
           ·have j1:¬ (d:Int)<p.dims:=by rw [HDD.out];omega
            have hde:d=dd:=by omega
            go_wp2_with fail;go_roundw
            case rel=>exact ⟨i+1,by go_num,by omega,by have h9:=HQD.out;rw [hde,sO] at h9;exact h9,HBD.out⟩
            case measure=>simp [intOf];omega
        exact AllReadyH.nil
       exact AllReadyH.nil
      refine AllReadyH.cons rfl (fun K hK=>?_) ?_
      ·go_simp
       refine hK.out _ _ ?_ (fun hHeld4=>?_)
       · (try dsimp only);go_keep
       clear hK K;(try simp only [Act.put,Mn.q]);clear hHeld0;refine wpAnyH_ready (rs:=[5]) (by kernel_rfl) (by simp) ?_;refine AllReadyH.cons rfl (fun K hK=>?_) ?_
       ·(refine aG (by rfl) 22 _ _ (by rfl) gH [.agg #[.int .i64 p.dims,.int .i64 p.time.n,.slice ta p.time.cells.length tc,.int .i64 p.dist.n,.slice da p.dist.cells.length dc,.slice va' p.vs.length vc',.slice ja p.js.length jc,.slice sa p.ss.length sc],.agg #[.int .i64 kd,.int .i64 it]] (by rfl) ?_;refine (H22.out _ _ _ (below_on (HBB.out _ HBq.out) (below_on ((Below.refl _ _).drew) Mn.a))).mono ?_;rintro e w2 ⟨y,rfl,Q2,k2⟩;refine ⟨_,rfl,?_⟩;obtain ⟨ya,yc,rfl⟩:=Q2.shape;rw [HTV.out];have K2:=hide (below_on (below_on ((Below.refl _ _).drew) Mn.a) k2);have E2:=hide (HBq.out.trans (K2.out.mono (Nat.le_of_lt HLQ.out)));obtain ⟨sp0,sp1,sp2,sp3,sp4,sp5,sp6,sp7⟩:=Mn.c8 ((HLOW.out _ E2.out).1);have sv0:w2.cell? ⟨b,off+i*2,none⟩=some (.int .i64 kd):=(HLOW.out _ E2.out).2.1;have sv1:w2.cell? ⟨b,off+i*2+1,none⟩=some (.int .i64 it):=(HLOW.out _ E2.out).2.2;have nr0:¬ w.heap.size=w2.heap.size:=(by have:=K2.out.size;have:=HLQ.out;have:=HSR.out;have:=HNB.out;omega);have nr1:¬ b=w2.heap.size:=(by have:=block_lt_of_cell (HLOW.out _ E2.out).2.1;intro e9;rw [e9] at this;exact absurd this (Nat.lt_irrefl _));have HX2:Hid (w2.heap[wq.heap.size]? = some (.cells #[.int .i64 0,.int .i64 0,.slice none 0 0] 45)):=(k2.block _ (by simp)).trans (heap_alloc_new wq.drew _);obtain ⟨gc0,gc1,gc2,gf0,gf1,gf2⟩:=Mn.x3 (HX2.out);clear k2 Q2)
        refine hK.out _ _ ?_ (fun hHeld5=>?_)
        · (try dsimp only);go_keep
        clear hK K;(try simp only [Act.put,Mn.q]);clear hHeld4;refine Mn.t 6 ?_;(try simp only [Act.put,Mn.q]);refine Mn.t 7 ?_;(try simp only [Act.put,Mn.q]);refine Mn.t 8 ?_;(try simp only [Act.put,Mn.q]);refine wpAnyH_ready (rs:=[10]) (by kernel_rfl) (by simp) ?_;refine AllReadyH.cons rfl (fun K hK=>?_) ?_
        ·go_simp
         refine hK.out _ _ ?_ (fun hHeld6=>?_)
         · (try dsimp only);(first | (go_keep;done) | (refine ⟨?_,?_,?_,?_,?_,?_,?_,?_,?_,?_⟩ <;> (refine bB (w:=w2) ?_ (by assumption);(repeat rw [heap_setCell_other _ _ _ _ (by simp;omega)]))))
         clear hK K;(try simp only [Act.put,Mn.q]);clear hHeld5;refine Mn.t 11 ?_;(try simp only [Act.put,Mn.q]);refine wpAnyH_done (by kernel_rfl) ?_ _;clear hHeld6
         generalize hw3:((w2.setCell ⟨wq.heap.size,0,none⟩ (.int .i64 (aS p kd it).place)).setCell ⟨wq.heap.size,1,none⟩ (.int .i64 (aS p kd it).serv)).setCell ⟨wq.heap.size,2,none⟩ (.slice ya (aS p kd it).wins.length yc)=w3
         have K3:Hid (Below wq.heap.size wq w3):=by show Below _ _ _;rw [← hw3];exact ((K2.out.setCell (Nat.le_refl _) _).setCell (Nat.le_refl _) _).setCell (Nat.le_refl _) _
         clear gc0 gf0 gc1 gf1 gc2 gf2 HX2;clear hw3 K2 E2 nr0 nr1 sp0 sp1 sp2 sp3 sp4 sp5 sp6 sp7 sv0 sv1 qp0 qp1 qp2 qp3 qp4 qp5 qp6 qp7 qv0 qv1 nq0 nq1;have E3:=hide (HBq.out.trans (K3.out.mono (Nat.le_of_lt HLQ.out)));have HQ3:=hide (HQ.out.later (Nat.le_refl _) K3.out);have sp0:w3.cell? ⟨w.heap.size,0,none⟩=some (.int .i64 p.dims):=(HLOW.out _ E3.out).1 0 ;have sp1:w3.cell? ⟨w.heap.size,1,none⟩=some (.int .i64 p.time.n):=(HLOW.out _ E3.out).1 1 ;have sp2:w3.cell? ⟨w.heap.size,2,none⟩=some (.slice ta p.time.cells.length tc):=(HLOW.out _ E3.out).1 2 ;have sp3:w3.cell? ⟨w.heap.size,3,none⟩=some (.int .i64 p.dist.n):=(HLOW.out _ E3.out).1 3 ;have sp4:w3.cell? ⟨w.heap.size,4,none⟩=some (.slice da p.dist.cells.length dc):=(HLOW.out _ E3.out).1 4 ;have sp5:w3.cell? ⟨w.heap.size,5,none⟩=some (.slice va' p.vs.length vc'):=(HLOW.out _ E3.out).1 5 ;have sp6:w3.cell? ⟨w.heap.size,6,none⟩=some (.slice ja p.js.length jc):=(HLOW.out _ E3.out).1 6 ;have sp7:w3.cell? ⟨w.heap.size,7,none⟩=some (.slice sa p.ss.length sc):=(HLOW.out _ E3.out).1 7 ;have sv0:w3.cell? ⟨b,off+i*2,none⟩=some (.int .i64 kd):=(HLOW.out _ E3.out).2.1 ;have sv1:w3.cell? ⟨b,off+i*2+1,none⟩=some (.int .i64 it):=(HLOW.out _ E3.out).2.2;go_wp2_with fail
         go_loopw [12] (fun vd wx=>∃ d:Nat,vd=.int .i64 d∧d≤dd∧Hid (IRow wx nb (.slice (some ⟨nb,0,none⟩) dd dd) (bU p dd V k i d))∧Hid (Below nb w0 wx)) (fun vd _=>dd-(intOf vd).toNat)
         case atStart=>exact ⟨0,rfl,Nat.zero_le _,HQ3.out,E3.out⟩
         case round =>
           clear HQ3 E3 K3 sp0 sp1 sp2 sp3 sp4 sp5 sp6 sp7 sv0 sv1;obtain ⟨d,rfl,hd,HQD,HBD⟩:=hrel;obtain ⟨dp0,dp1,dp2,dp3,dp4,dp5,dp6,dp7⟩:=Mn.c8 ((HLOW.out _ HBD.out).1);have dv0:wr.cell? ⟨b,off+i*2,none⟩=some (.int .i64 kd):=(HLOW.out _ HBD.out).2.1;have dv1:wr.cell? ⟨b,off+i*2+1,none⟩=some (.int .i64 it):=(HLOW.out _ HBD.out).2.2
           by_cases hdd:d<dd
           ·have j1:(d:Int)<p.dims:=by rw [HDD.out];omega
            have j2:(d:Int)<(dd:Int):=by omega
            have j3:(0:Int)≤(d:Int):=by omega
            have j4:¬ (dd:Int)≤(d:Int):=by omega
            obtain ⟨r0,hr0⟩:∃ r0,(bU p dd V k i d)[d]! = r0:=⟨_,rfl⟩;have HR0:=hide hr0;have hrb:=wV (V:=V) (k:=k) (i:=i) HLW.out HDD.out hdd (by omega);rw [hr0] at hrb;have cN:wr.cell? ⟨nb,d,none⟩=some (.int .i64 r0):=by rw [← hr0];exact HQD.out.cell d (by rw [oG];exact hdd)
            have fN:wr.frozen? ⟨nb,d,none⟩=false:=HQD.out.frozen d;have htc:=aN HTV.out;clear hr0
            rcases htc with ⟨rfl,j,rfl,hj,-⟩ | ⟨rfl,j,rfl,hj,-⟩ | ⟨rfl,j,rfl,hj,-⟩
            ·by_cases hki:k≤i
             ·have z1:(k:Int)≤(i:Int):=by omega
              have HRC:Hid (cT p V k d i=(p.js.getD j jz).drop[d]!):=by show _=_;rw [eV (p:=p) (k:=k) (d:=d) HU.out HTV.out];simp [hki]
              obtain ⟨jb,joff,jcc,x1,x2,xa,he,hjb2,hcs,_,q2,q3⟩:=dM HP.out.j hj;simp only at he;injection he with he1 _ he3;subst he1 he3;obtain ⟨fa,fc,rfl⟩:=q2.shape;have hln:=fW HLW.out HDD.out hj;obtain ⟨fb,foff,rfl,fcc⟩:=fI (d:=d) q2 (by rw [hln.1];exact hdd) (HBB.out _ HBD.out);have c3:wr.cell? ⟨jb,joff+j*7+3,none⟩=some (.slice (some ⟨fb,foff,none⟩) dd fc):=by have h9:=((aA (HBB.out _ HBD.out)).1 _ _ hjb2).trans (hcs 3 (by decide));rw [← hln.1];exact h9
              have hsm:=hln.2.2.1 d (by rw [hln.1];exact hdd);clear hcs hln q2 q3 hjb2;have j5:(j:Int)<(p.js.length:Int):=by omega
              have j6:(0:Int)≤(j:Int):=by omega
              have j7:¬ (p.js.length:Int)≤(j:Int):=by omega
              obtain ⟨z,hz0⟩:∃ z,(p.js.getD j jz).drop[d]! = z:=⟨_,rfl⟩;rw [hz0] at HRC fcc hsm;have HZ0:=hide hz0;clear hz0;have hwr:IntKind.i64.wrap (r0+z)=r0+z:=by rw [IntKind.wrap_i64];omega
              have HST:Hid (IRow ((wr.setCell ⟨nb,d,none⟩ (.int .i64 (r0+z))).drew) nb (.slice (some ⟨nb,0,none⟩) dd dd) (bU p dd V k i (d+1))):=by show IRow _ _ _ _;have h9:=(HQD.out.set d (r0+z)).drewN 1;rw [← eF hdd,HR0.out,HRC.out];exact h9
              go_wp2_with fail
              go_region
              go_wp2_with fail;go_roundw
              case rel=>exact ⟨d+1,by go_num,by omega,HST.out,(HBD.out.setCell (Nat.le_refl _) _).drew⟩
              case measure=>simp [intOf];omega
             ·have z1:¬ (k:Int)≤(i:Int):=by omega
              have HRC:Hid (cT p V k d i=(p.js.getD j jz).pick[d]!):=by show _=_;rw [eV (p:=p) (k:=k) (d:=d) HU.out HTV.out];simp [hki]
              obtain ⟨jb,joff,jcc,x1,x2,xa,he,hjb2,hcs,_,q2,q3⟩:=dM HP.out.j hj;simp only at he;injection he with he1 _ he3;subst he1 he3;obtain ⟨fa,fc,rfl⟩:=q3.shape;have hln:=fW HLW.out HDD.out hj;obtain ⟨fb,foff,rfl,fcc⟩:=fI (d:=d) q3 (by rw [hln.2.1];exact hdd) (HBB.out _ HBD.out);have c3:wr.cell? ⟨jb,joff+j*7+4,none⟩=some (.slice (some ⟨fb,foff,none⟩) dd fc):=by have h9:=((aA (HBB.out _ HBD.out)).1 _ _ hjb2).trans (hcs 4 (by decide));rw [← hln.2.1];exact h9
              have hsm:=hln.2.2.2 d (by rw [hln.2.1];exact hdd);clear hcs hln q2 q3 hjb2;have j5:(j:Int)<(p.js.length:Int):=by omega
              have j6:(0:Int)≤(j:Int):=by omega
              have j7:¬ (p.js.length:Int)≤(j:Int):=by omega
              obtain ⟨z,hz0⟩:∃ z,(p.js.getD j jz).pick[d]! = z:=⟨_,rfl⟩;rw [hz0] at HRC fcc hsm;have HZ0:=hide hz0;clear hz0;have hwr:IntKind.i64.wrap (r0+z)=r0+z:=by rw [IntKind.wrap_i64];omega
              have HST:Hid (IRow ((wr.setCell ⟨nb,d,none⟩ (.int .i64 (r0+z))).drew) nb (.slice (some ⟨nb,0,none⟩) dd dd) (bU p dd V k i (d+1))):=by show IRow _ _ _ _;have h9:=(HQD.out.set d (r0+z)).drewN 1;rw [← eF hdd,HR0.out,HRC.out];exact h9
              go_wp2_with fail
              go_region
              go_wp2_with fail;go_roundw
              case rel=>exact ⟨d+1,by go_num,by omega,HST.out,(HBD.out.setCell (Nat.le_refl _) _).drew⟩
              case measure=>simp [intOf];omega
            ·by_cases hki:i<k
             ·have z1:(i:Int)<(k:Int):=by omega
              have HRC:Hid (cT p V k d i=(p.ss.getD j hz).amt[d]!):=by show _=_;rw [eV (p:=p) (k:=k) (d:=d) HU.out HTV.out];simp [hki]
              obtain ⟨jb,joff,jcc,x1,x2,xa,he,hjb2,hcs,_,_,q3⟩:=cL HP.out.s hj;simp only at he;injection he with he1 _ he3;subst he1 he3;obtain ⟨fa,fc,rfl⟩:=q3.shape;have hln:=iR HLW.out HDD.out hj;obtain ⟨fb,foff,rfl,fcc⟩:=fI (d:=d) q3 (by rw [hln.1];exact hdd) (HBB.out _ HBD.out);have c3:wr.cell? ⟨jb,joff+j*9+6,none⟩=some (.slice (some ⟨fb,foff,none⟩) dd fc):=by have h9:=((aA (HBB.out _ HBD.out)).1 _ _ hjb2).trans (hcs 6 (by decide));rw [← hln.1];exact h9
              have hsm:=hln.2 d (by rw [hln.1];exact hdd);clear hcs hln q3 hjb2;have j5:(j:Int)<(p.ss.length:Int):=by omega
              have j6:(0:Int)≤(j:Int):=by omega
              have j7:¬ (p.ss.length:Int)≤(j:Int):=by omega
              obtain ⟨z,hz0⟩:∃ z,(p.ss.getD j hz).amt[d]! = z:=⟨_,rfl⟩;rw [hz0] at HRC fcc hsm;have HZ0:=hide hz0;clear hz0;have hwr:IntKind.i64.wrap (r0+z)=r0+z:=by rw [IntKind.wrap_i64];omega
              have HST:Hid (IRow ((wr.setCell ⟨nb,d,none⟩ (.int .i64 (r0+z))).drew) nb (.slice (some ⟨nb,0,none⟩) dd dd) (bU p dd V k i (d+1))):=by show IRow _ _ _ _;have h9:=(HQD.out.set d (r0+z)).drewN 1;rw [← eF hdd,HR0.out,HRC.out];exact h9
              go_wp2_with fail
              go_region
              go_wp2_with fail;go_roundw
              case rel=>exact ⟨d+1,by go_num,by omega,HST.out,(HBD.out.setCell (Nat.le_refl _) _).drew⟩
              case measure=>simp [intOf];omega
             ·have z1:¬ (i:Int)<(k:Int):=by omega
              have HRC:Hid (cT p V k d i=0):=by show _=_;rw [eV (p:=p) (k:=k) (d:=d) HU.out HTV.out];simp [hki]
              go_wp2_with fail;go_roundw
              case rel=>exact ⟨d+1,by go_num,by omega,by have h9:=HQD.out;rw [jN HRC.out];exact h9,HBD.out⟩
              case measure=>simp [intOf];omega
            ·by_cases hki:i<k
             ·have z1:(i:Int)<(k:Int):=by omega
              have HRC:Hid (cT p V k d i=-(p.ss.getD j hz).amt[d]!):=by show _=_;rw [eV (p:=p) (k:=k) (d:=d) HU.out HTV.out];simp [hki]
              obtain ⟨jb,joff,jcc,x1,x2,xa,he,hjb2,hcs,_,_,q3⟩:=cL HP.out.s hj;simp only at he;injection he with he1 _ he3;subst he1 he3;obtain ⟨fa,fc,rfl⟩:=q3.shape;have hln:=iR HLW.out HDD.out hj;obtain ⟨fb,foff,rfl,fcc⟩:=fI (d:=d) q3 (by rw [hln.1];exact hdd) (HBB.out _ HBD.out);have c3:wr.cell? ⟨jb,joff+j*9+6,none⟩=some (.slice (some ⟨fb,foff,none⟩) dd fc):=by have h9:=((aA (HBB.out _ HBD.out)).1 _ _ hjb2).trans (hcs 6 (by decide));rw [← hln.1];exact h9
              have hsm:=hln.2 d (by rw [hln.1];exact hdd);clear hcs hln q3 hjb2;have j5:(j:Int)<(p.ss.length:Int):=by omega
              have j6:(0:Int)≤(j:Int):=by omega
              have j7:¬ (p.ss.length:Int)≤(j:Int):=by omega
              obtain ⟨z,hz0⟩:∃ z,(p.ss.getD j hz).amt[d]! = z:=⟨_,rfl⟩;rw [hz0] at HRC fcc hsm;have HZ0:=hide hz0;clear hz0;have hwr:IntKind.i64.wrap (r0-z)=r0-z:=by rw [IntKind.wrap_i64];omega
              have HST:Hid (IRow ((wr.setCell ⟨nb,d,none⟩ (.int .i64 (r0-z))).drew) nb (.slice (some ⟨nb,0,none⟩) dd dd) (bU p dd V k i (d+1))):=by show IRow _ _ _ _;have h9:=(HQD.out.set d (r0-z)).drewN 1;rw [← eF hdd,HR0.out,HRC.out];rw [← Int.sub_eq_add_neg];exact h9
              go_wp2_with fail
              go_region
              go_wp2_with fail;go_roundw
              case rel=>exact ⟨d+1,by go_num,by omega,HST.out,(HBD.out.setCell (Nat.le_refl _) _).drew⟩
              case measure=>simp [intOf];omega
             ·have z1:¬ (i:Int)<(k:Int):=by omega
              have HRC:Hid (cT p V k d i=0):=by show _=_;rw [eV (p:=p) (k:=k) (d:=d) HU.out HTV.out];simp [hki]
              go_wp2_with fail;go_roundw
              case rel=>exact ⟨d+1,by go_num,by omega,by have h9:=HQD.out;rw [jN HRC.out];exact h9,HBD.out⟩
              case measure=>simp [intOf];omega
           ·have j1:¬ (d:Int)<p.dims:=by rw [HDD.out];omega
            have hde:d=dd:=by omega
            go_wp2_with fail;go_roundw
            case rel=>exact ⟨i+1,by go_num,by omega,by have h9:=HQD.out;rw [hde,sO] at h9;exact h9,HBD.out⟩
            case measure=>simp [intOf];omega
        exact AllReadyH.nil
       exact AllReadyH.nil
      exact AllReadyH.nil
    ·have i2:¬ (i:Int)<(m:Int):=by omega
     have hie:i=m:=by omega
     have HRW:Hid (IRow wq (w.heap.size+1) (.slice (some ⟨nb,0,none⟩) dd dd) (bY p dd V k)):=by have h9:=(HQ.out.mono (show w.heap.size+1≤nb by have:=HSR.out;have:=HNB.out;omega));rw [hie,← HM.out,yb7] at h9;exact h9
     have HBq0:Hid (Below w0.heap.size w0 wq):=by have h9:=HBq.out;rw [HNB.out] at h9;exact h9
     have HRq:=hide (LdS.on HR.out HBq0.out);have HAP:Hid (Apt (.slice aa k ac) (.slice (some ⟨nb,0,none⟩) dd dd)):=fun g hg hg'=>by have h1:=(World.ownsRow.lt HR.out.own g hg).2;have h2:=cF hg';have h3:=HNB.out;omega
     have HLN:Hid (((List.range k).map (bY p dd V)).length=k):=by show _=_;simp
     have HSZ:Hid (w.heap.size+1≤wq.heap.size):=Nat.le_trans HSR.out HBq0.out.size;go_wp2_with (first | (at_builtin;refine vP (wr:=wq) (.tmp 161) (.tmp 163) rfl rfl rfl rfl HRq.out HLN.out (by omega) HSZ.out HRW.out HAP.out ?_;intro g5 cap5 w5 r5 r6 _;have HR5:=hide r5;have B5:=hide r6;clear r5 r6) | fail);go_roundw
     case rel=>exact ⟨k+1,_,_,_,by go_num,rfl,by omega,by have h9:=HR5.out;rw [List.range_succ,List.map_append];exact h9,(HB.out.trans (HBq0.out.mono HSR.out)).trans B5.out⟩
     case measure=>simp [intOf];omega
  ·have i1:¬ (k:Int)≤(m:Int):=by omega
   have hke:k=m+1:=by omega
   have HR9:Hid (LdS w0 w.heap.size (.slice aa (m+1) ac) ((List.range (m+1)).map (bY p dd V)) ys):=by have h9:=HR.out.mono (Nat.le_succ w.heap.size);rw [hke] at h9;exact h9
   subst hke;go_wp2_with fail;go_ret;exact ⟨Value.slice aa (m+1) ac,rfl,⟨_,by have h9:=HR9.out;first | exact h9 | (rw [List.range_succ,List.map_append] at h9;exact h9)⟩,HBwr.out⟩
end Go.Proofs.Ytgjpkpmikbpcnaa
