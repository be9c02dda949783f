import Derived.BigRegion
import Derived.Deep.RegionHeld3
import Derived.Deep.CutRange
import Derived.Test.YtgjpkpmikbpcnaaORof
import Derived.Test.YtgjpkpmikbpcnaaOFitHG
set_option linter.unusedSimpArgs false
set_option maxRecDepth 100000
set_option maxHeartbeats 25600000
namespace Go.Proofs.Ytgjpkpmikbpcnaa
open Go.RowKit
theorem rof_out {w:World} {x:aU} {p:Prb} {vi:Int} {m vc:Nat} {va:Option Addr} (h:PrbV w x p) (ho:eO p vi=false):Calls Try.prog 38 #[.agg (aL p x),.int .i64 vi,.slice va m vc] w (OfQ w 160 planZ):=by
 have hbd:=SlV.bound h.v;obtain ⟨ta,tc,da,dc,va',vc',ja,jc,sa,sc,rfl⟩:=h.open;clear h;obtain ⟨nv,hnv⟩:∃ z,p.vs.length=z:=⟨_,rfl⟩;have HPE:Hid (aL p ⟨.slice ta p.time.cells.length tc,.slice da p.dist.cells.length dc,.slice va' p.vs.length vc',.slice ja p.js.length jc,.slice sa p.ss.length sc⟩=#[.int .i64 p.dims,.int .i64 p.time.n,.slice ta p.time.cells.length tc,.int .i64 p.dist.n,.slice da p.dist.cells.length dc,.slice va' nv vc',.slice ja p.js.length jc,.slice sa p.ss.length sc]):=by show _=_;rw [← hnv];rfl
 unfold eO at ho;rw [hnv] at ho;rw [HPE.out];clear hnv hbd;have HB0:Hid (∀ A B,Below w.heap.size w ((w.alloc A).alloc B)):=fun A B=>((Below.refl _ _).alloc (Nat.le_refl _) A).alloc (by simp) B
 by_cases h0:vi<0
 ·clear ho;go_enter Try.func38,Try.ntmps38;go_wp2_with fail;refine bodyPost_ret (v:=.tuple #[.agg #[.int .i64 0,.slice none 0 0,.int .i64 0,.int .i64 0,.int .i64 0,.int .i64 0,.int .i64 0],.int .i64 160]) ?_ rfl (OfQ.bad ⟨rfl,rfl⟩ ?_)
  ·simp [results,Try.results38,go_sem, *]
  ·repeat (first | (with_reducible exact HB0.out _ _) | (with_reducible refine Below.setCell ?_ (by simp) _) | (with_reducible refine Below.drew ?_))
 ·have h1:(nv:Int)≤vi:=by
   have e:decide (0≤vi)=true:=decide_eq_true (by omega);rw [e,Bool.true_and] at ho;have:=of_decide_eq_false ho
   omega
  have h2:¬ vi<(nv:Int):=by omega
  clear ho;go_enter Try.func38,Try.ntmps38;go_wp2_with fail;refine bodyPost_ret (v:=.tuple #[.agg #[.int .i64 0,.slice none 0 0,.int .i64 0,.int .i64 0,.int .i64 0,.int .i64 0,.int .i64 0],.int .i64 160]) ?_ rfl (OfQ.bad ⟨rfl,rfl⟩ ?_)
  ·simp [results,Try.results38,go_sem, *]
  ·repeat (first | (with_reducible exact HB0.out _ _) | (with_reducible refine Below.setCell ?_ (by simp) _) | (with_reducible refine Below.drew ?_))
theorem yeJ {w:World} {x:aU} {p:Prb} {vi:Int} {m vc:Nat} {va:Option Addr} {V:List Vst} (h:PrbV w x p) (hl:aY p=true) (hV:VsV w (.slice va m vc) V) (hm:V.length=m) (hm2:m≤100):Calls Try.prog 38 #[.agg (aL p x),.int .i64 vi,.slice va m vc] w (OfQ w (ofE p vi V) (ofP p vi V)):=by
 cases ho:eO p vi with
 | false =>
  have e:ofE p vi V=160:=by unfold ofE;rw [p9];unfold eO at ho;rw [ho];rfl
  rw [eX (by rw [e];decide),e];exact rof_out h ho
 | true =>
  obtain ⟨k,rfl,hk⟩:=fU (show (decide (0≤vi) && decide (vi<(p.vs.length:Int)))=true from ho);have e:ofE p (k:Int) V=dI p (p.vs.getD k vz) V:=by unfold ofE;rw [p9];unfold eO at ho;rw [ho];rfl
  have h9:=rof_in h hl hk hV hm hm2;have e2:ofP p (k:Int) V=(bif decide (dI p (p.vs.getD k vz) V=0) then dK p k (p.vs.getD k vz) V else planZ):=by unfold ofP;rw [e];rfl
  rw [e2,e];exact h9
end Go.Proofs.Ytgjpkpmikbpcnaa
namespace Go.Proofs.Ytgjpkpmikbpcnaa
open Go.RowKit
theorem yfD (args:Array Value) (w:World):(callFunc 46 args).run Try.prog w=.ok (.enter 46 args) w:=Go.Proofs.enters_of Try.func46 (by kernel_rfl) rfl args w
theorem zS (args:Array Value) (w:World):(callFunc 38 args).run Try.prog w=.ok (.enter 38 args) w:=Go.Proofs.enters_of Try.func38 (by kernel_rfl) rfl args w
theorem PlanW.mono {w:World} {base base':Nat} {v:Value} {pl:dQ} (h:PlanW w base v pl) (hb:base'≤base):PlanW w base' v pl:=by
 obtain ⟨a,n,c,ys,e,hr,hn⟩:=h;exact ⟨a,n,c,ys,e,hr.mono hb hb,hn⟩
theorem PlanW.set {w w':World} {base r:Nat} {v:Value} {pl:dQ} (h:PlanW w base v pl) (hg:w.grownBy w' (some r)) (hr:r<base):PlanW w' base v pl:=by
 obtain ⟨a,n,c,ys,e,hR,hn⟩:=h;refine ⟨a,n,c,ys,e,gE hR hg (fun g h9=>?_) (fun y hy g h9=>?_),hn⟩
 ·have:=(World.ownsRow.lt hR.own g h9).1;omega
 ·obtain ⟨k,hk⟩:=List.getElem?_of_mem hy;have hl:=(List.getElem?_eq_some_iff.1 hk).1;rw [hR.len] at hl;have:=(World.ownsRow.lt (hR.sat k _ y (List.getElem?_eq_getElem hl) hk).1 g h9).1
  omega
theorem OfQ.mk2 {w w':World} {E c:Int} {P P':dQ} {u:Value} (h:E=c∧P=P') (hp:PlanW w' w.heap.size u P') (hb:Below w.heap.size w w'):OfQ w E P (.returned (.tuple #[u,.int .i64 c])) w':=⟨_,by rw [h.1],by rw [h.2];exact hp,hb⟩
theorem hasB_at {V:List Vst} {q:Nat} {kd it:Int} (h:V[q]? = some (kd,it)) (h4:kd=4):gX V=true:=List.any_eq_true.2 ⟨_,List.mem_of_getElem? h,by simp [h4]⟩
theorem ycR {V:List Vst} (h:∀ j u,j<V.length→V[j]? = some u→u.1≠4):gX V=false:=by
 cases e:gX V with
 | false=>rfl
 | true =>
  obtain ⟨u,hu,h4⟩:=List.any_eq_true.1 e;obtain ⟨j,hj⟩:=List.getElem?_of_mem hu;exact absurd (by simpa using h4) (h j u (List.getElem?_eq_some_iff.1 hj).1 hj)
theorem ycO {w:World} {a:Option Addr} {L:List Int} (h:IntsAt w a L) (n:Nat):IntsAt w a (L.take n):=fun k hk=>by
 rw [List.length_take] at hk;have h9:=h k (by omega);obtain ⟨b,off,e,hc⟩:=h9;refine ⟨b,off,e,?_⟩;rw [hc]
 congr 2
 rw [getElem!_pos L k (by omega),getElem!_pos (L.take n) k (by rw [List.length_take];omega)]
 simp
theorem try_set {V:List Vst} {n i k:Nat} (hik:i≤k) (hk:k≤V.length) (hn:n=1∨n=2):gB V n i k=oZ V (([(i:Int),(k:Int)]).take n)∧(gB V n i k).length=V.length+n:=by
 have hl:(gB V n i k).length=V.length+n:=by
  unfold gB;rw [kN,List.length_map,(mR hik hk hn).2]
 refine ⟨?_,hl⟩;unfold gB
 rcases hn with rfl | rfl
 ·exact set_one V i (by omega)
 ·exact set_two V i k hik hk
theorem yeK {w:World} {x:aU} {p:Prb} {vi:Int} {m vc:Nat} {va:Option Addr} (h:PrbV w x p) (ho:eO p vi=false):Calls Try.prog 41 #[.agg (aL p x),.int .i64 vi,.slice va m vc] w (OfQ w 160 planZ):=by
 obtain ⟨ta,tc,da,dc,va',vc',ja,jc,sa,sc,rfl⟩:=h.open;clear h;obtain ⟨nv,hnv⟩:∃ z,p.vs.length=z:=⟨_,rfl⟩;have HPE:Hid (aL p ⟨.slice ta p.time.cells.length tc,.slice da p.dist.cells.length dc,.slice va' p.vs.length vc',.slice ja p.js.length jc,.slice sa p.ss.length sc⟩=#[.int .i64 p.dims,.int .i64 p.time.n,.slice ta p.time.cells.length tc,.int .i64 p.dist.n,.slice da p.dist.cells.length dc,.slice va' nv vc',.slice ja p.js.length jc,.slice sa p.ss.length sc]):=by show _=_;rw [← hnv];rfl
 unfold eO at ho;rw [hnv] at ho;rw [HPE.out];clear hnv;have HB0:Hid (∀ A B,Below w.heap.size w ((w.alloc A).alloc B)):=fun A B=>((Below.refl _ _).alloc (Nat.le_refl _) A).alloc (by simp) B
 by_cases h0:vi<0
 ·clear ho;go_enter Try.func41,Try.ntmps41;go_wp2_with fail;refine bodyPost_ret (v:=.tuple #[.agg #[.int .i64 0,.slice none 0 0,.int .i64 0,.int .i64 0,.int .i64 0,.int .i64 0,.int .i64 0],.int .i64 160]) ?_ rfl (OfQ.bad ⟨rfl,rfl⟩ ?_)
  ·simp [results,Try.results41,go_sem, *]
  ·repeat (first | (with_reducible exact HB0.out _ _) | (with_reducible refine Below.setCell ?_ (by simp) _) | (with_reducible refine Below.drew ?_))
 ·have h1:(nv:Int)≤vi:=by
   have e:decide (0≤vi)=true:=decide_eq_true (by omega);rw [e,Bool.true_and] at ho;have:=of_decide_eq_false ho
   omega
  have h2:¬ vi<(nv:Int):=by omega
  clear ho;go_enter Try.func41,Try.ntmps41;go_wp2_with fail;refine bodyPost_ret (v:=.tuple #[.agg #[.int .i64 0,.slice none 0 0,.int .i64 0,.int .i64 0,.int .i64 0,.int .i64 0,.int .i64 0],.int .i64 160]) ?_ rfl (OfQ.bad ⟨rfl,rfl⟩ ?_)
  ·simp [results,Try.results41,go_sem, *]
  ·repeat (first | (with_reducible exact HB0.out _ _) | (with_reducible refine Below.setCell ?_ (by simp) _) | (with_reducible refine Below.drew ?_))
theorem rfit_in {w:World} {x:aU} {p:Prb} {k m vc:Nat} {va:Option Addr} {V:List Vst} (h:PrbV w x p) (hl:aY p=true) (hk:k<p.vs.length) (hV:VsV w (.slice va m vc) V) (hm:V.length=m) (hm2:m≤90) :
  Calls Try.prog 41 #[.agg (aL p x),.int .i64 (k:Int),.slice va m vc] w (OfQ w (eD p k V) (dS p k V)):=by
 have HL:=hide hl;have HP:=hide h;have HV:=hide hV;have HM:=hide hm;have HMAN:Hid (eO p (k:Int)=true):=by show _=_;unfold eO;rw [decide_eq_true (by omega),decide_eq_true (by omega)];rfl
 obtain ⟨ca,cc,ba,bc,hcar⟩:=h.car hk;have hvo:=fL (eC hl hk);have hbd:=SlV.bound h.v;obtain ⟨ta,tc,da,dc,va',vc',ja,jc,sa,sc,rfl⟩:=h.open;obtain ⟨_,⟨vb,voff,c9,he,hvb,hcs⟩,_,_⟩:=hcar;simp only at he hbd;injection he with he1 _ he3;subst he1 he3;clear h hV hm hl;obtain ⟨lb,hlb⟩:∃ z,(p.vs.getD k vz).brks.length=z:=⟨_,rfl⟩;have hlb2:lb≤2:=by rw [← hlb];exact hvo.two
 rw [hlb] at hcs;have HLB:Hid ((p.vs.getD ((k:Int)).toNat vz).brks.length=lb):=by show _=_;rw [Int.toNat_natCast];exact hlb
 obtain ⟨nv,hnv⟩:∃ z,p.vs.length=z:=⟨_,rfl⟩;obtain ⟨lt,hlt⟩:∃ z,p.time.cells.length=z:=⟨_,rfl⟩;obtain ⟨ld,hld⟩:∃ z,p.dist.cells.length=z:=⟨_,rfl⟩;obtain ⟨lj,hlj⟩:∃ z,p.js.length=z:=⟨_,rfl⟩;obtain ⟨ls,hls⟩:∃ z,p.ss.length=z:=⟨_,rfl⟩;have HPE:Hid (aL p ⟨.slice ta p.time.cells.length tc,.slice da p.dist.cells.length dc,.slice (some ⟨vb,voff,none⟩) p.vs.length vc',.slice ja p.js.length jc,.slice sa p.ss.length sc⟩=#[.int .i64 p.dims,.int .i64 p.time.n,.slice ta lt tc,.int .i64 p.dist.n,.slice da ld dc,.slice (some ⟨vb,voff,none⟩) nv vc',.slice ja lj jc,.slice sa ls sc]):=by show _=_;rw [hnv,hlt,hld,hlj,hls];rfl
 rw [HPE.out];rw [hnv] at hk hbd;have c10v:w.cell? ⟨vb,voff+k*11+10,none⟩=some (.slice ba lb bc):=hcs 10 (by decide);clear hnv hlt hld hlj hls hlb hcs hvo
 have H38:Hid (∀ W2 a n c U E1 P1,Below w.heap.size w W2→VsV W2 (.slice a n c) U→U.length=n→n≤100→ofE p k U=E1→ofP p k U=P1→Calls Try.prog 38 #[.agg #[.int .i64 p.dims,.int .i64 p.time.n,.slice ta lt tc,.int .i64 p.dist.n,.slice da ld dc,.slice (some ⟨vb,voff,none⟩) nv vc',.slice ja lj jc,.slice sa ls sc],.int .i64 (k:Int),.slice a n c] W2 fun e w'=>∃ pa pn pc,e=.returned (.tuple #[.agg #[.int .i64 P1.veh,.slice pa pn pc,.int .i64 P1.time,.int .i64 P1.dist,.int .i64 P1.wait,.int .i64 P1.serv,.int .i64 P1.cost],.int .i64 E1])∧PlanW w' W2.heap.size (.agg #[.int .i64 P1.veh,.slice pa pn pc,.int .i64 P1.time,.int .i64 P1.dist,.int .i64 P1.wait,.int .i64 P1.serv,.int .i64 P1.cost]) P1∧Below W2.heap.size W2 w'):=fun W2 a n c U E1 P1 hf hv hn hn2 he hp=>by
  have h9:=yeJ (vi:=(k:Int)) (HP.out.on hf) HL.out hv hn hn2;rw [HPE.out,he,hp] at h9;refine h9.mono ?_;rintro e w' ⟨u,rfl,hu,k9⟩;obtain ⟨pa,pn,pc,ys,rfl,_,_⟩:=id hu;exact ⟨pa,pn,pc,rfl,hu,k9⟩
 obtain ⟨W,hW⟩:∃ W,W=(w.alloc (.cells #[.int .i64 p.dims,.int .i64 p.time.n,.slice ta lt tc,.int .i64 p.dist.n,.slice da ld dc,.slice (some ⟨vb,voff,none⟩) nv vc',.slice ja lj jc,.slice sa ls sc] 29)).alloc (.cells #[.int .i64 0,.slice none 0 0,.int .i64 0,.int .i64 0,.int .i64 0,.int .i64 0,.int .i64 0] 71):=⟨_,rfl⟩;have HBW:Hid (Below w.heap.size w W):=by rw [hW];exact Mn.a.alloc (by simp) _
 have HWS:Hid (W.heap.size=w.heap.size+2):=by show _=_;rw [hW];simp
 have HC:Hid (∀ j,W.cell? ⟨w.heap.size,j,none⟩=(#[.int .i64 p.dims,.int .i64 p.time.n,.slice ta lt tc,.int .i64 p.dist.n,.slice da ld dc,.slice (some ⟨vb,voff,none⟩) nv vc',.slice ja lj jc,.slice sa ls sc]:Array Value)[j]?):=fun j=>by
  have e9:W.heap[w.heap.size]? = some (.cells #[.int .i64 p.dims,.int .i64 p.time.n,.slice ta lt tc,.int .i64 p.dist.n,.slice da ld dc,.slice (some ⟨vb,voff,none⟩) nv vc',.slice ja lj jc,.slice sa ls sc] 29):=by rw [hW,heap_alloc_old _ _ (by simp),heap_alloc_new]
  exact cell_of_row _ _ _ _ _ _ e9
 have HX6:Hid (W.heap[w.heap.size+1]? = some (.cells #[.int .i64 0,.slice none 0 0,.int .i64 0,.int .i64 0,.int .i64 0,.int .i64 0,.int .i64 0] 71)):=by
  show _=_;rw [hW];have:=heap_alloc_new (w.alloc (.cells #[.int .i64 p.dims,.int .i64 p.time.n,.slice ta lt tc,.int .i64 p.dist.n,.slice da ld dc,.slice (some ⟨vb,voff,none⟩) nv vc',.slice ja lj jc,.slice sa ls sc] 29)) (.cells #[.int .i64 0,.slice none 0 0,.int .i64 0,.int .i64 0,.int .i64 0,.int .i64 0,.int .i64 0] 71);simp only [World.size_alloc] at this;exact this
 have HX3:Hid (w.heap.size+1<W.heap.size):=by show _<_;rw [HWS.out];omega
 have i1:(0:Int)≤(k:Int):=by omega
 have i2:(k:Int)<(nv:Int):=by omega
 have i3:¬ (nv:Int)≤(k:Int):=by omega
 have i4:¬ (k:Int)<0:=by omega
 go_enter Try.func41,Try.ntmps41;go_wp2_with fail;rw [← hW];clear hW
 go_loopw [8] (fun vq wr=>∃ q:Nat,vq=.int .i64 q∧q≤m∧Hid (∀ j u,j<q→V[j]? = some u→u.1≠4)∧Hid (Below W.heap.size W wr)) (fun vq _=>m-(intOf vq).toNat)
 case atStart=>exact ⟨0,rfl,Nat.zero_le _,fun j u hj=>by omega,Below.refl _ _⟩
 case round =>
  obtain ⟨q,rfl,hq,HN4,HB⟩:=hrel;have HBr:=hide (below_on HBW.out HB.out)
  by_cases hqm:q<m
  ·have j1:(q:Int)<(m:Int):=by omega
   have j2:(0:Int)≤(q:Int):=by omega
   have j3:¬ (m:Int)≤(q:Int):=by omega
   obtain ⟨⟨kd,it⟩,hu⟩:∃ u,V[q]? = some u:=⟨_,List.getElem?_eq_getElem (by rw [HM.out];exact hqm)⟩;obtain ⟨b,off,rfl,hb,c1,c2,_⟩:=bL HV.out hu;simp only at c1 c2;have d1:wr.cell? ⟨b,off+q*2,none⟩=some (.int .i64 kd):=((aA HBr.out).1 _ _ hb).trans c1;have HU:=hide hu;clear c1 c2 hu hb
   by_cases hk4:kd=4
   ·have HE:Hid (eD p k V=162∧dS p k V=planZ):=ya5 HMAN.out (hasB_at HU.out hk4);subst hk4;obtain ⟨ac0,ac1,ac2,ac3,ac4,ac5,ac6⟩:=Mn.c7 ((fJ HX6.out HB.out HX3.out).1);obtain ⟨af0,af1,af2,af3,af4,af5,af6⟩:=Mn.z7 ((fJ HX6.out HB.out HX3.out).2);go_wp2_with fail;refine bodyPost_ret (v:=.tuple #[.agg #[.int .i64 0,.slice none 0 0,.int .i64 0,.int .i64 0,.int .i64 0,.int .i64 0,.int .i64 0],.int .i64 162]) ?_ rfl (OfQ.bad HE.out ?_)
    ·simp [results,Try.results41,go_sem, *]
    ·(have HBE:=HBr.out;repeat (first | (with_reducible exact HBE) | (with_reducible refine Below.setCell ?_ (by simp) _) | (with_reducible refine Below.drew ?_)))
   ·have y4:(kd == 4)=false:=by simpa using hk4
    have HN5:Hid (∀ j u,j<q+1→V[j]? = some u→u.1≠4):=fun j u hj h9=>by
     by_cases e:j<q
     ·exact HN4.out j u e h9
     ·have e2:j=q:=by omega
      rw [e2,HU.out] at h9;injection h9 with h9;rw [← h9];exact hk4
    go_wp2_with fail;go_roundw
    case rel=>exact ⟨q+1,by go_num,by omega,HN5.out,HB.out⟩
    case measure=>simp [intOf];omega
  ·have j1:¬ (q:Int)<(m:Int):=by omega
   have hqe:q=m:=by omega
   have HB4:Hid (gX V=false):=ycR fun j u hj h9=>HN4.out j u (by rw [HM.out] at hj;omega) h9;clear hqe HN4;have cb10:wr.cell? ⟨vb,voff+k*11+10,none⟩=some (.slice ba lb bc):=((aA HBr.out).1 _ _ hvb).trans c10v;obtain ⟨qp0,qp1,qp2,qp3,qp4,qp5,qp6,qp7⟩:=Mn.c8 (fun j=>((aA HB.out).1 _ j (by rw [HWS.out];omega)).trans (HC.out j));have hws:w.heap.size+2≤wr.heap.size:=by have h1:=HB.out.size;have h2:=HWS.out;omega
   by_cases hl0:lb=0
   ·subst hl0;obtain ⟨E1,hE1⟩:∃ z,ofE p (k:Int) V=z:=⟨_,rfl⟩;obtain ⟨P1,hP1⟩:∃ z,ofP p (k:Int) V=z:=⟨_,rfl⟩;have HE:Hid (eD p (k:Int) V=E1∧dS p (k:Int) V=P1):=by have h9:=yfM HMAN.out HB4.out HL.out HLB.out;rw [hE1,hP1] at h9;exact h9
    have HE1:=hide hE1;have HP1:=hide hP1;clear hE1 hP1;have y0:(((0:Nat):Int) == 0)=true:=rfl;go_wp2_with (first | (go_at_call 38;refine (H38.out _ _ _ _ _ E1 P1 HBr.out (PrV.on HV.out HBr.out) HM.out (by omega) HE1.out HP1.out).mono ?_;rintro e w3 ⟨pa,pn,pc,rfl,hp,k3⟩;have HPL:=hide hp;have E3:=hide (below_on HB.out k3);obtain ⟨bc0,bc1,bc2,bc3,bc4,bc5,bc6⟩:=Mn.c7 ((fJ HX6.out E3.out HX3.out).1);obtain ⟨bf0,bf1,bf2,bf3,bf4,bf5,bf6⟩:=Mn.z7 ((fJ HX6.out E3.out HX3.out).2);clear k3 hp) | fail);refine bodyPost_ret (v:=.tuple #[.agg #[.int .i64 P1.veh,.slice pa pn pc,.int .i64 P1.time,.int .i64 P1.dist,.int .i64 P1.wait,.int .i64 P1.serv,.int .i64 P1.cost],.int .i64 E1]) ?_ rfl (OfQ.mk2 HE.out ?_ ?_)
    ·simp [results,Try.results41,go_sem, *]
    ·refine PlanW.mono (HPL.out.set (r:=w.heap.size+1) ?_ (by omega)) (by omega)
     repeat (first | (with_reducible exact cD _ _) | (with_reducible refine aZ ?_ _ _))
    ·have HBE:=below_on HBW.out E3.out
     repeat (first | (with_reducible exact HBE) | (with_reducible refine Below.setCell ?_ (by simp) _) | (with_reducible refine Below.drew ?_))
   ·have h12:lb=1∨lb=2:=by omega
    have y0:((lb:Int) == 0)=false:=by simp;omega
    have hlb1:1≤lb:=by omega
    go_wp2_with fail;clear cb10 qp0 qp1 qp2 qp3 qp4 qp5 qp6 qp7;rename World=>w0
    go_loopw [10] (fun vi wr=>∃ i:Nat,vi=.int .i64 i∧i≤m+1∧Hid (∀ a b,a<i→a≤b→b≤m→ofE p (k:Int) (gB V lb a b)=167)∧Hid (Below W.heap.size W wr)) (fun vi _=>m+1-(intOf vi).toNat)
    case atStart=>exact ⟨0,rfl,by omega,fun a b h=>by omega,HB.out⟩
    case round =>
     obtain ⟨i,rfl,hi,HT0,HBo⟩:=hrel
     by_cases him:i≤m
     ·have k1:(i:Int)≤(m:Int):=by omega
      go_wp2_with fail;rename World=>w9
      go_loopw [11] (fun vk wr=>∃ kk:Nat,vk=.int .i64 kk∧i≤kk∧kk≤m+1∧Hid (∀ b,i≤b→b<kk→ofE p (k:Int) (gB V lb i b)=167)∧Hid (Below W.heap.size W wr)) (fun vk _=>m+1-(intOf vk).toNat)
      case atStart=>exact ⟨i,rfl,Nat.le_refl _,by omega,fun b h1 h2=>by omega,HBo.out⟩
      case round =>
       obtain ⟨kk,rfl,hik,hkm,HT1,HBi⟩:=hrel
       by_cases hkk:kk≤m
       ·have k2:(kk:Int)≤(m:Int):=by omega
        have HTS:=hide (try_set (V:=V) (n:=lb) hik (by rw [HM.out];exact hkk) h12);obtain ⟨U,hU⟩:∃ z,gB V lb i kk=z:=⟨_,rfl⟩;obtain ⟨E1,hE1⟩:∃ z,ofE p (k:Int) U=z:=⟨_,rfl⟩;obtain ⟨P1,hP1⟩:∃ z,ofP p (k:Int) U=z:=⟨_,rfl⟩;have HUU:=hide hU;have HE1:=hide hE1;have HP1:=hide hP1;rw [hU] at HTS;clear hU hE1 hP1;have hul:U.length=m+lb:=by rw [HTS.out.2,HM.out]
        obtain ⟨lu,hlu⟩:∃ z,m+lb=z:=⟨_,rfl⟩;have hlu2:lu≤92:=by omega
        rw [hlu] at hul;have HUL:=hide hul;clear hul hlu
        have H46:Hid (∀ W2 ax,Below w.heap.size w W2→IntsAt W2 ax (([(i:Int),(kk:Int)]).take lb)→Calls Try.prog 46 #[.slice va m vc,.slice ax lb 2] W2 fun e w'=>∃ a c,e=.returned (.slice a lu c)∧VsV w' (.slice a lu c) U∧Below W2.heap.size W2 w'):=fun W2 ax hf hx=>by
         have h9:=yeH (n:=lb) (ac:=2) (PrV.on HV.out hf) HM.out (by omega) hx (by rw [List.length_take];simp;omega) hlb2;rw [← HTS.out.1] at h9;refine h9.mono ?_;rintro e w' ⟨u,rfl,hr,k9⟩;obtain ⟨a,c,rfl,_⟩:=hr.shape;have hvs:=hr.vs (by rw [HUL.out];omega);rw [HUL.out] at hvs ⊢;exact ⟨a,c,rfl,hvs,k9⟩
        obtain ⟨qq0,qq1,qq2,qq3,qq4,qq5,qq6,qq7⟩:=Mn.c8 (fun j=>((aA HBi.out).1 _ j (by rw [HWS.out];omega)).trans (HC.out j));go_wp2_with fail;obtain ⟨w6,hw6⟩:∃ z,z=wr.alloc (.cells #[.int .i64 (i:Int),.int .i64 (kk:Int)] 3):=⟨_,rfl⟩;rw [← hw6];have HA6:Hid (IntsAt w6 (some ⟨wr.heap.size,0,none⟩) (([(i:Int),(kk:Int)]).take lb)):=by show IntsAt _ _ _;rw [hw6];exact ycO ydY lb
        have K6:Hid (Below wr.heap.size wr w6):=by show Below _ _ _;rw [hw6];exact Mn.a
        have E6:Hid (Below W.heap.size W w6):=below_on HBi.out K6.out;have n6:W.heap.size≤w6.heap.size:=E6.out.size;have n60:=HWS.out;have n61:w.heap.size+1<w6.heap.size:=by omega
        clear hw6 n60 qq0 qq1 qq2 qq3 qq4 qq5 qq6 qq7;obtain ⟨cp0,cp1,cp2,cp3,cp4,cp5,cp6,cp7⟩:=Mn.c8 (fun j=>((aA E6.out).1 _ j (by rw [HWS.out];omega)).trans (HC.out j));have yl0:(0:Int)≤(lb:Int):=by omega
        have yl2:(lb:Int)≤2:=by omega
        have yl3:lb≤2:=hlb2
        go_cut [13,14] from 69 to 79 (fun v13 v14 wx=>∃ (x13:Nat) (pa:Option Addr) (pn pc:Nat),v13=.pointer (some ⟨x13,0,none⟩)∧v14=.int .i64 E1∧W.heap.size≤x13∧Hid (wx.heap[x13]? = some (.cells #[.int .i64 P1.veh,.slice pa pn pc,.int .i64 P1.time,.int .i64 P1.dist,.int .i64 P1.wait,.int .i64 P1.serv,.int .i64 P1.cost] 71 (0,0)))∧Hid (PlanW wx W.heap.size (.agg #[.int .i64 P1.veh,.slice pa pn pc,.int .i64 P1.time,.int .i64 P1.dist,.int .i64 P1.wait,.int .i64 P1.serv,.int .i64 P1.cost]) P1)∧Hid (Below W.heap.size W wx))
        case first =>
         refine wp_region_held_drew (S:=(fun w'=>w'.cell? ⟨w.heap.size,0,none⟩=some (.int .i64 p.dims)∧w'.cell? ⟨w.heap.size,1,none⟩=some (.int .i64 p.time.n)∧w'.cell? ⟨w.heap.size,2,none⟩=some (.slice ta lt tc)∧w'.cell? ⟨w.heap.size,3,none⟩=some (.int .i64 p.dist.n)∧w'.cell? ⟨w.heap.size,4,none⟩=some (.slice da ld dc)∧w'.cell? ⟨w.heap.size,5,none⟩=some (.slice (some ⟨vb,voff,none⟩) nv vc')∧w'.cell? ⟨w.heap.size,6,none⟩=some (.slice ja lj jc)∧w'.cell? ⟨w.heap.size,7,none⟩=some (.slice sa ls sc))) (by kernel_rfl) ?_ (fun hHeld0=>?_)
         · (try dsimp only);go_keep
         refine Mn.t 0 ?_;(try simp only [Act.put,Mn.q]);refine Mn.t 1 ?_;(try simp only [Act.put,Mn.q]);refine Mn.t 2 ?_;(try simp only [Act.put,Mn.q]);refine Mn.t 3 ?_;(try simp only [Act.put,Mn.q]);refine Mn.t 4 ?_;(try simp only [Act.put,Mn.q]);refine Mn.t 5 ?_;(try simp only [Act.put,Mn.q]);refine wpAnyH_ready (rs:=[6,11]) (by kernel_rfl) (by simp) ?_;refine AllReadyH.cons rfl (fun K hK=>?_) ?_
         ·(refine aG (by rfl) 46 _ _ (by rfl) yfD [.slice va m vc,.slice (some ⟨wr.heap.size,0,none⟩) lb 2] (by rfl) ?_;refine (H46.out _ _ (below_on HBW.out (below_on E6.out ((Below.refl _ _).drew))) (HA6.out.later ((Below.refl _ _).drew))).mono ?_;rintro e w7 ⟨a7,c7,rfl,hv7,k7⟩;refine ⟨_,rfl,?_⟩;have HV7:=hide hv7;have K7:=hide (below_on ((Below.refl _ _).drew) k7);have E7:=hide (below_on E6.out K7.out);have n7:w6.heap.size≤w7.heap.size:=K7.out.size;obtain ⟨dp0,dp1,dp2,dp3,dp4,dp5,dp6,dp7⟩:=Mn.c8 (fun j=>((aA E7.out).1 _ j (by rw [HWS.out];omega)).trans (HC.out j));clear k7 hv7)
          refine hK.out _ _ ?_ (fun hHeld1=>?_)
          · (try dsimp only);go_keep
          clear hK K;(try simp only [Act.put,Mn.q]);clear hHeld0;refine wpAnyH_ready (rs:=[7,11]) (by kernel_rfl) (by simp) ?_;refine AllReadyH.cons rfl (fun K hK=>?_) ?_
          ·(refine aG (by rfl) 38 _ _ (by rfl) zS [.agg #[.int .i64 p.dims,.int .i64 p.time.n,.slice ta lt tc,.int .i64 p.dist.n,.slice da ld dc,.slice (some ⟨vb,voff,none⟩) nv vc',.slice ja lj jc,.slice sa ls sc],.int .i64 (k:Int),.slice a7 lu c7] (by rfl) ?_;refine (H38.out _ _ _ _ _ E1 P1 (below_on HBW.out (below_on E7.out (Below.refl _ _))) (PrV.on HV7.out (Below.refl _ _)) HUL.out (by omega) HE1.out HP1.out).mono ?_;rintro e w8 ⟨pa,pn,pc,rfl,hp8,k8⟩;refine ⟨_,rfl,?_⟩;have HPL:=hide hp8;have K8:=hide (below_on (Below.refl _ _) k8);have E8:=hide (below_on E7.out K8.out);have n8:w7.heap.size≤w8.heap.size:=K8.out.size;obtain ⟨ep0,ep1,ep2,ep3,ep4,ep5,ep6,ep7⟩:=Mn.c8 (fun j=>((aA E8.out).1 _ j (by rw [HWS.out];omega)).trans (HC.out j));have m80:¬ w.heap.size=w8.heap.size:=(by omega);have m81:¬ w.heap.size+1=w8.heap.size:=(by omega);clear k8 hp8)
           refine hK.out _ _ ?_ (fun hHeld2=>?_)
           · (try dsimp only);go_keep
           clear hK K;(try simp only [Act.put,Mn.q]);clear hHeld1;refine Mn.t 8 ?_;(try simp only [Act.put,Mn.q]);refine Mn.t 9 ?_;(try simp only [Act.put,Mn.q]);refine Mn.t 10 ?_;(try simp only [Act.put,Mn.q]);refine wpAnyH_ready (rs:=[11]) (by kernel_rfl) (by simp) ?_;refine AllReadyH.cons rfl (fun K hK=>?_) ?_
           ·go_simp
            refine hK.out _ _ ?_ (fun hHeld3=>?_)
            · (try dsimp only);go_keep
            clear hK K;(try simp only [Act.put,Mn.q]);clear hHeld2;refine wpAnyH_ready (rs:=[12]) (by kernel_rfl) (by simp) ?_;refine AllReadyH.cons rfl (fun K hK=>?_) ?_
            ·go_simp
             refine hK.out _ _ ?_ (fun hHeld4=>?_)
             · (try dsimp only);(first | (go_keep;done) | (refine ⟨?_,?_,?_,?_,?_,?_,?_,?_⟩ <;> (refine bB (w:=w8) ?_ (by assumption);(repeat rw [heap_setCell_other _ _ _ _ (by simp;omega)]))))
             clear hK K;(try simp only [Act.put,Mn.q]);clear hHeld3;refine Mn.t 13 (oi:=⟨some 14,.assign (.tmp 79),3,"ref.go:202",#[⟨10,.data⟩,⟨12,.chain⟩,⟨0,.phase⟩,⟨1,.phase⟩,⟨2,.phase⟩,⟨3,.phase⟩,⟨4,.phase⟩,⟨5,.phase⟩,⟨6,.phase⟩,⟨7,.phase⟩,⟨8,.phase⟩,⟨9,.phase⟩,⟨10,.phase⟩,⟨11,.phase⟩,⟨12,.phase⟩],none⟩) ?_;(try simp only [Act.put,Mn.q]);refine wpAnyH_done (by kernel_rfl) ?_ _;clear hHeld4;go_wp2_with fail;go_meet
             case rel=>exact ⟨w8.heap.size,pa,pn,pc,rfl,rfl,by omega,aF w8 _,PlanW.mono (HPL.out.on Mn.a) (by omega),below_on E8.out Mn.a⟩
            exact AllReadyH.nil
           exact AllReadyH.nil
          refine AllReadyH.cons rfl (fun K hK=>?_) ?_
          ·go_simp
           refine hK.out _ _ ?_ (fun hHeld5=>?_)
           · (try dsimp only);go_keep
           clear hK K;(try simp only [Act.put,Mn.q]);clear hHeld1;refine wpAnyH_ready (rs:=[7]) (by kernel_rfl) (by simp) ?_;refine AllReadyH.cons rfl (fun K hK=>?_) ?_
           ·(refine aG (by rfl) 38 _ _ (by rfl) zS [.agg #[.int .i64 p.dims,.int .i64 p.time.n,.slice ta lt tc,.int .i64 p.dist.n,.slice da ld dc,.slice (some ⟨vb,voff,none⟩) nv vc',.slice ja lj jc,.slice sa ls sc],.int .i64 (k:Int),.slice a7 lu c7] (by rfl) ?_;refine (H38.out _ _ _ _ _ E1 P1 (below_on HBW.out (below_on E7.out Mn.a)) (PrV.on HV7.out Mn.a) HUL.out (by omega) HE1.out HP1.out).mono ?_;rintro e w8 ⟨pa,pn,pc,rfl,hp8,k8⟩;refine ⟨_,rfl,?_⟩;have HPL:=hide hp8;have K8:=hide (below_on Mn.a k8);have E8:=hide (below_on E7.out K8.out);have n8:w7.heap.size≤w8.heap.size:=K8.out.size;obtain ⟨ep0,ep1,ep2,ep3,ep4,ep5,ep6,ep7⟩:=Mn.c8 (fun j=>((aA E8.out).1 _ j (by rw [HWS.out];omega)).trans (HC.out j));have HX8:Hid (w8.heap[w7.heap.size]? = some (.cells #[.int .i64 0,.slice none 0 0,.int .i64 0,.int .i64 0,.int .i64 0,.int .i64 0,.int .i64 0] 71)):=(k8.block _ (by simp)).trans (heap_alloc_new w7 _);have n81:w7.heap.size<w8.heap.size:=(by have:=k8.size;simp at this;omega);have m80:¬ w.heap.size=w7.heap.size:=(by omega);have m81:¬ w.heap.size+1=w7.heap.size:=(by omega);obtain ⟨gc0,gc1,gc2,gc3,gc4,gc5,gc6,gf0,gf1,gf2,gf3,gf4,gf5,gf6⟩:=Mn.x7 (HX8.out);clear k8 hp8)
            refine hK.out _ _ ?_ (fun hHeld6=>?_)
            · (try dsimp only);go_keep
            clear hK K;(try simp only [Act.put,Mn.q]);clear hHeld5;refine Mn.t 8 ?_;(try simp only [Act.put,Mn.q]);refine Mn.t 9 ?_;(try simp only [Act.put,Mn.q]);refine Mn.t 10 ?_;(try simp only [Act.put,Mn.q]);refine wpAnyH_ready (rs:=[12]) (by kernel_rfl) (by simp) ?_;refine AllReadyH.cons rfl (fun K hK=>?_) ?_
            ·go_simp
             refine hK.out _ _ ?_ (fun hHeld7=>?_)
             · (try dsimp only);(first | (go_keep;done) | (refine ⟨?_,?_,?_,?_,?_,?_,?_,?_⟩ <;> (refine bB (w:=w8) ?_ (by assumption);(repeat rw [heap_setCell_other _ _ _ _ (by simp;omega)]))))
             clear hK K;(try simp only [Act.put,Mn.q]);clear hHeld6;refine Mn.t 13 (oi:=⟨some 14,.assign (.tmp 79),3,"ref.go:202",#[⟨10,.data⟩,⟨12,.chain⟩,⟨0,.phase⟩,⟨1,.phase⟩,⟨2,.phase⟩,⟨3,.phase⟩,⟨4,.phase⟩,⟨5,.phase⟩,⟨6,.phase⟩,⟨7,.phase⟩,⟨8,.phase⟩,⟨9,.phase⟩,⟨10,.phase⟩,⟨11,.phase⟩,⟨12,.phase⟩],none⟩) ?_;(try simp only [Act.put,Mn.q]);refine wpAnyH_done (by kernel_rfl) ?_ _;clear hHeld7;go_wp2_with fail;go_meet
             case rel =>
              obtain ⟨wz,hwz,hz1,hz2⟩:=put7 (.int .i64 P1.veh) (.slice pa pn pc) (.int .i64 P1.time) (.int .i64 P1.dist) (.int .i64 P1.wait) (.int .i64 P1.serv) (.int .i64 P1.cost) HX8.out;rw [← hwz];refine ⟨w7.heap.size,pa,pn,pc,rfl,rfl,by omega,hz1,?_,E8.out.trans (bD hz2 (by omega) E8.out.size)⟩;exact PlanW.mono (HPL.out.set (r:=w7.heap.size) hz2 (by (try simp);(try omega))) (by (try simp);(try omega))
            exact AllReadyH.nil
           exact AllReadyH.nil
          exact AllReadyH.nil
         refine AllReadyH.cons rfl (fun K hK=>?_) ?_
         ·go_simp
          refine hK.out _ _ ?_ (fun hHeld8=>?_)
          · (try dsimp only);go_keep
          clear hK K;(try simp only [Act.put,Mn.q]);clear hHeld0;refine wpAnyH_ready (rs:=[6]) (by kernel_rfl) (by simp) ?_;refine AllReadyH.cons rfl (fun K hK=>?_) ?_
          ·(refine aG (by rfl) 46 _ _ (by rfl) yfD [.slice va m vc,.slice (some ⟨wr.heap.size,0,none⟩) lb 2] (by rfl) ?_;refine (H46.out _ _ (below_on HBW.out (below_on E6.out (below_on ((Below.refl _ _).drew) Mn.a))) (HA6.out.later (below_on ((Below.refl _ _).drew) Mn.a))).mono ?_;rintro e w7 ⟨a7,c7,rfl,hv7,k7⟩;refine ⟨_,rfl,?_⟩;have HV7:=hide hv7;have K7:=hide (below_on (below_on ((Below.refl _ _).drew) Mn.a) k7);have E7:=hide (below_on E6.out K7.out);have n7:w6.heap.size≤w7.heap.size:=K7.out.size;obtain ⟨dp0,dp1,dp2,dp3,dp4,dp5,dp6,dp7⟩:=Mn.c8 (fun j=>((aA E7.out).1 _ j (by rw [HWS.out];omega)).trans (HC.out j));have HX7:Hid (w7.heap[w6.heap.size]? = some (.cells #[.int .i64 0,.slice none 0 0,.int .i64 0,.int .i64 0,.int .i64 0,.int .i64 0,.int .i64 0] 71)):=(k7.block _ (by simp)).trans (heap_alloc_new w6.drew _);have n71:w6.heap.size<w7.heap.size:=(by have:=k7.size;simp at this;omega);clear k7 hv7)
           refine hK.out _ _ ?_ (fun hHeld9=>?_)
           · (try dsimp only);go_keep
           clear hK K;(try simp only [Act.put,Mn.q]);clear hHeld8;refine wpAnyH_ready (rs:=[7]) (by kernel_rfl) (by simp) ?_;refine AllReadyH.cons rfl (fun K hK=>?_) ?_
           ·(refine aG (by rfl) 38 _ _ (by rfl) zS [.agg #[.int .i64 p.dims,.int .i64 p.time.n,.slice ta lt tc,.int .i64 p.dist.n,.slice da ld dc,.slice (some ⟨vb,voff,none⟩) nv vc',.slice ja lj jc,.slice sa ls sc],.int .i64 (k:Int),.slice a7 lu c7] (by rfl) ?_;refine (H38.out _ _ _ _ _ E1 P1 (below_on HBW.out (below_on E7.out (Below.refl _ _))) (PrV.on HV7.out (Below.refl _ _)) HUL.out (by omega) HE1.out HP1.out).mono ?_;rintro e w8 ⟨pa,pn,pc,rfl,hp8,k8⟩;refine ⟨_,rfl,?_⟩;have HPL:=hide hp8;have K8:=hide (below_on (Below.refl _ _) k8);have E8:=hide (below_on E7.out K8.out);have n8:w7.heap.size≤w8.heap.size:=K8.out.size;obtain ⟨ep0,ep1,ep2,ep3,ep4,ep5,ep6,ep7⟩:=Mn.c8 (fun j=>((aA E8.out).1 _ j (by rw [HWS.out];omega)).trans (HC.out j));have HX8:Hid (w8.heap[w6.heap.size]? = some (.cells #[.int .i64 0,.slice none 0 0,.int .i64 0,.int .i64 0,.int .i64 0,.int .i64 0,.int .i64 0] 71)):=(K8.out.block _ n71).trans HX7.out;have m80:¬ w.heap.size=w6.heap.size:=(by omega);have m81:¬ w.heap.size+1=w6.heap.size:=(by omega);obtain ⟨gc0,gc1,gc2,gc3,gc4,gc5,gc6,gf0,gf1,gf2,gf3,gf4,gf5,gf6⟩:=Mn.x7 (HX8.out);clear k8 hp8)
            refine hK.out _ _ ?_ (fun hHeld10=>?_)
            · (try dsimp only);go_keep
            clear hK K;(try simp only [Act.put,Mn.q]);clear hHeld9;refine Mn.t 8 ?_;(try simp only [Act.put,Mn.q]);refine Mn.t 9 ?_;(try simp only [Act.put,Mn.q]);refine Mn.t 10 ?_;(try simp only [Act.put,Mn.q]);refine wpAnyH_ready (rs:=[12]) (by kernel_rfl) (by simp) ?_;refine AllReadyH.cons rfl (fun K hK=>?_) ?_
            ·go_simp
             refine hK.out _ _ ?_ (fun hHeld11=>?_)
             · (try dsimp only);(first | (go_keep;done) | (refine ⟨?_,?_,?_,?_,?_,?_,?_,?_⟩ <;> (refine bB (w:=w8) ?_ (by assumption);(repeat rw [heap_setCell_other _ _ _ _ (by simp;omega)]))))
             clear hK K;(try simp only [Act.put,Mn.q]);clear hHeld10;refine Mn.t 13 (oi:=⟨some 14,.assign (.tmp 79),3,"ref.go:202",#[⟨10,.data⟩,⟨12,.chain⟩,⟨0,.phase⟩,⟨1,.phase⟩,⟨2,.phase⟩,⟨3,.phase⟩,⟨4,.phase⟩,⟨5,.phase⟩,⟨6,.phase⟩,⟨7,.phase⟩,⟨8,.phase⟩,⟨9,.phase⟩,⟨10,.phase⟩,⟨11,.phase⟩,⟨12,.phase⟩],none⟩) ?_;(try simp only [Act.put,Mn.q]);refine wpAnyH_done (by kernel_rfl) ?_ _;clear hHeld11;go_wp2_with fail;go_meet
             case rel =>
              obtain ⟨wz,hwz,hz1,hz2⟩:=put7 (.int .i64 P1.veh) (.slice pa pn pc) (.int .i64 P1.time) (.int .i64 P1.dist) (.int .i64 P1.wait) (.int .i64 P1.serv) (.int .i64 P1.cost) HX8.out;rw [← hwz];refine ⟨w6.heap.size,pa,pn,pc,rfl,rfl,by omega,hz1,?_,E8.out.trans (bD hz2 (by omega) E8.out.size)⟩;exact PlanW.mono (HPL.out.set (r:=w6.heap.size) hz2 (by (try simp);(try omega))) (by (try simp);(try omega))
            exact AllReadyH.nil
           exact AllReadyH.nil
          exact AllReadyH.nil
         exact AllReadyH.nil
        case rest =>
         obtain ⟨x13,pa,pn,pc,rfl,rfl,hx13,BX,HPX,HBX⟩:=hcut;clear yl0 yl2 yl3 cp0 cp1 cp2 cp3 cp4 cp5 cp6 cp7;rename World=>z;have zx0:z.cell? ⟨x13,0,none⟩=some (.int .i64 P1.veh):=cell_of_row _ _ _ _ _ _ BX.out;have zx1:z.cell? ⟨x13,1,none⟩=some (.slice pa pn pc):=cell_of_row _ _ _ _ _ _ BX.out;have zx2:z.cell? ⟨x13,2,none⟩=some (.int .i64 P1.time):=cell_of_row _ _ _ _ _ _ BX.out;have zx3:z.cell? ⟨x13,3,none⟩=some (.int .i64 P1.dist):=cell_of_row _ _ _ _ _ _ BX.out;have zx4:z.cell? ⟨x13,4,none⟩=some (.int .i64 P1.wait):=cell_of_row _ _ _ _ _ _ BX.out;have zx5:z.cell? ⟨x13,5,none⟩=some (.int .i64 P1.serv):=cell_of_row _ _ _ _ _ _ BX.out;have zx6:z.cell? ⟨x13,6,none⟩=some (.int .i64 P1.cost):=cell_of_row _ _ _ _ _ _ BX.out;have hn0:=HWS.out;have nx1:¬ x13=w.heap.size+1:=by omega
         have nx1':¬ w.heap.size+1=x13:=by omega
         clear hn0
         by_cases he7:E1=167
         · subst he7;have y7:((167:Int) != 167)=false:=rfl;clear zx0 zx1 zx2 zx3 zx4 zx5 zx6
           by_cases hl1:lb=1
           · have y8:((lb:Int) == 1)=true:=by simp;omega
             have HT2:Hid (∀ a b,a<i+1→a≤b→b≤m→ofE p (k:Int) (gB V lb a b)=167):=fun a b ha hab hb=>by
               by_cases e:a<i
               ·exact HT0.out a b e hab hb
               ·have e2:a=i:=by omega
                rw [e2,hl1,try_one V i b kk,← hl1,HUU.out,HE1.out]
             go_wp2_with fail;go_roundw
             case rel=>exact ⟨i+1,by go_num,by omega,HT2.out,HBX.out⟩
             case measure=>simp [intOf];omega
           · have y8:((lb:Int) == 1)=false:=by simp;omega
             have HT2:Hid (∀ b,i≤b→b<kk+1→ofE p (k:Int) (gB V lb i b)=167):=fun b hb1 hb2=>by
               by_cases e:b<kk
               ·exact HT1.out b hb1 e
               ·have e2:b=kk:=by omega
                rw [e2,HUU.out,HE1.out]
             go_wp2_with fail;go_roundw
             case rel=>exact ⟨kk+1,by go_num,by omega,by omega,HT2.out,HBX.out⟩
             case measure=>simp [intOf];omega
         · have y7:(E1 != 167)=true:=by simpa using he7
           have HE:Hid (eD p (k:Int) V=E1∧dS p (k:Int) V=P1):=by have h9:=ycZ HL.out HMAN.out HB4.out HLB.out h12 hik (by rw [HM.out];exact hkk) (fun a b h1 h2 h3=>HT0.out a b h1 h2 (by rw [HM.out] at h3;exact h3)) HT1.out (by rw [HUU.out,HE1.out];exact he7);rw [HUU.out,HE1.out,HP1.out] at h9;exact h9
           obtain ⟨bc0,bc1,bc2,bc3,bc4,bc5,bc6⟩:=Mn.c7 ((fJ HX6.out HBX.out HX3.out).1);obtain ⟨bf0,bf1,bf2,bf3,bf4,bf5,bf6⟩:=Mn.z7 ((fJ HX6.out HBX.out HX3.out).2);go_wp2_with fail;have hn0:=HWS.out;refine bodyPost_ret (v:=.tuple #[.agg #[.int .i64 P1.veh,.slice pa pn pc,.int .i64 P1.time,.int .i64 P1.dist,.int .i64 P1.wait,.int .i64 P1.serv,.int .i64 P1.cost],.int .i64 E1]) ?_ rfl (OfQ.mk2 HE.out ?_ ?_)
           · simp [results,Try.results41,go_sem, *]
           · refine PlanW.mono (HPX.out.set (r:=w.heap.size+1) ?_ (by omega)) (by omega)
             repeat (first | (with_reducible exact cD _ _) | (with_reducible refine aZ ?_ _ _))
           · have HBE:=below_on HBW.out HBX.out
             repeat (first | (with_reducible exact HBE) | (with_reducible refine Below.setCell ?_ (by simp) _) | (with_reducible refine Below.drew ?_))
       ·have k2:¬ (kk:Int)≤(m:Int):=by omega
        have HT2:Hid (∀ a b,a<i+1→a≤b→b≤m→ofE p (k:Int) (gB V lb a b)=167):=fun a b ha hab hb=>by
         by_cases e:a<i
         · exact HT0.out a b e hab hb
         · have e2:a=i:=by omega
           rw [e2];exact HT1.out b (by omega) (by omega)
        go_wp2_with fail;go_roundw
        case rel=>exact ⟨i+1,by go_num,by omega,HT2.out,HBi.out⟩
        case measure=>simp [intOf];omega
     ·have k1:¬ (i:Int)≤(m:Int):=by omega
      have HE:Hid (eD p (k:Int) V=167∧dS p (k:Int) V=planZ):=ycY HL.out HMAN.out HB4.out HLB.out h12 fun a b h1 h2=>HT0.out a b (by rw [HM.out] at h2;omega) h1 (by rw [HM.out] at h2;exact h2);obtain ⟨bc0,bc1,bc2,bc3,bc4,bc5,bc6⟩:=Mn.c7 ((fJ HX6.out HBo.out HX3.out).1);obtain ⟨bf0,bf1,bf2,bf3,bf4,bf5,bf6⟩:=Mn.z7 ((fJ HX6.out HBo.out HX3.out).2);go_wp2_with fail;refine bodyPost_ret (v:=.tuple #[.agg #[.int .i64 0,.slice none 0 0,.int .i64 0,.int .i64 0,.int .i64 0,.int .i64 0,.int .i64 0],.int .i64 167]) ?_ rfl (OfQ.bad HE.out ?_)
      ·simp [results,Try.results41,go_sem, *]
      ·have HBE:=below_on HBW.out HBo.out
       repeat (first | (with_reducible exact HBE) | (with_reducible refine Below.setCell ?_ (by simp) _) | (with_reducible refine Below.drew ?_))
theorem ycA {w:World} {x:aU} {p:Prb} {vi:Int} {m vc:Nat} {va:Option Addr} {V:List Vst} (h:PrbV w x p) (hl:aY p=true) (hV:VsV w (.slice va m vc) V) (hm:V.length=m) (hm2:m≤90):Calls Try.prog 41 #[.agg (aL p x),.int .i64 vi,.slice va m vc] w (OfQ w (eD p vi V) (dS p vi V)):=by
 cases ho:eO p vi with
 | false =>
  rw [(vH ho).1,(vH ho).2];exact yeK h ho
 | true =>
  obtain ⟨k,rfl,hk⟩:=fU (show (decide (0≤vi) && decide (vi<(p.vs.length:Int)))=true from ho);exact rfit_in h hl hk hV hm hm2
end Go.Proofs.Ytgjpkpmikbpcnaa
