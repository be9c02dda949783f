import Derived.BigRegion
import Derived.Deep.RegionHeld3
import Derived.Deep.CutRange
import Derived.Test.YtgjpkpmikbpcnaaOFst
import Derived.Test.YtgjpkpmikbpcnaaOSamW
import Derived.Test.YtgjpkpmikbpcnaaORStO
import Derived.Test.YtgjpkpmikbpcnaaOFitPG
set_option linter.unusedSimpArgs false
namespace Go.Proofs.Ytgjpkpmikbpcnaa
open Go.RowKit
def OfQ (w:World) (E:Int) (P:dQ) (e:Ending) (w':World):Prop:=∃ u,e=.returned (.tuple #[u,.int .i64 E])∧PlanW w' w.heap.size u P∧Below w.heap.size w w'
theorem OfQ.bad {w w':World} {E c:Int} {P:dQ} (h:E=c∧P=planZ) (hb:Below w.heap.size w w'):OfQ w E P (.returned (.tuple #[.agg #[.int .i64 0,.slice none 0 0,.int .i64 0,.int .i64 0,.int .i64 0,.int .i64 0,.int .i64 0],.int .i64 c])) w':=⟨_,by rw [h.1],by rw [h.2];exact planZ_w _ _,hb⟩
theorem fJ {w w':World} {b:Nat} (h:w.heap[b]? = some (.cells #[.int .i64 0,.slice none 0 0,.int .i64 0,.int .i64 0,.int .i64 0,.int .i64 0,.int .i64 0] 71)) (f:Below w.heap.size w w') (hb:b<w.heap.size):(∀ j,w'.cell? ⟨b,j,none⟩=(#[.int .i64 0,.slice none 0 0,.int .i64 0,.int .i64 0,.int .i64 0,.int .i64 0,.int .i64 0]:Array Value)[j]?)∧∀ j,w'.frozen? ⟨b,j,none⟩=false :=
 have e:=(f.block b hb).trans h
 ⟨fun _=>cell_of_row _ _ _ _ _ _ e,fun _=>yfG e⟩
theorem ycF {p:Prb} {v:Veh} {V:List Vst} {k:Int} {fm:Int} (h:cQ p v V=fm) (h0:fm≠0):dI p v V=fm∧(bif decide (dI p v V=0) then dK p k v V else planZ)=planZ:=by
 have e:dI p v V=fm:=by rw [mL,h,decide_eq_false h0];rfl
 exact ⟨e,by rw [e,decide_eq_false h0];rfl⟩
theorem xS {p:Prb} {v:Veh} {V:List Vst} (h:cQ p v V=0):aQ p V=true∧cO V v.brks.length=true∧bN p (aB p v V)=true:=by
 unfold cQ at h
 revert h
 cases aQ p V <;> cases cO V v.brks.length <;> cases dH p v V <;> cases cG v V <;> cases cA p p.dims.toNat v V <;> cases bN p (aB p v V) <;> simp
theorem xC {p:Prb} {v:Veh} {V:List Vst} {k:Int} (h:cQ p v V=0) (ht:cR p.time (aB p v V) v.shift.1=false):dI p v V=167∧(bif decide (dI p v V=0) then dK p k v V else planZ)=planZ:=by
 have e:dI p v V=167:=by rw [mL,h,ht];rfl
 exact ⟨e,by rw [e];rfl⟩
theorem yeW {p:Prb} {v:Veh} {V:List Vst} {k:Int} (h:cQ p v V=0) (ht:cR p.time (aB p v V) v.shift.1=true):dI p v V=0∧(bif decide (dI p v V=0) then dK p k v V else planZ)=dK p k v V:=by
 have e:dI p v V=0:=by rw [mL,h,ht];rfl
 exact ⟨e,by rw [e];rfl⟩
theorem OfQ.good {w w':World} {E:Int} {P P':dQ} {u:Value} (h:E=0∧P=P') (hp:PlanW w' w.heap.size u P') (hb:Below w.heap.size w w'):OfQ w E P (.returned (.tuple #[u,.int .i64 0])) w':=⟨_,by rw [h.1],by rw [h.2];exact hp,hb⟩
theorem qF {Z X:World} {base b2:Nat} {la:Option Addr} {ln lcp:Nat} {st:gA} {cells:Array Value} {ops:Array Oper} {o:Oper} {a:Act} {K:Act→World→Prop} {Q:Exit→Act→World→Prop} {E:Prop} (s xo:Operand) (hgd:o.guard=none)
  (ho:o.op=.call { callee:=.builtin .append,args:=#[s,xo],argTypes:=#[69,69] }) (hs:a.eval s=.slice none 0 0) (hx:a.eval xo=.slice (some ⟨Z.heap.size,0,none⟩) 1 1)
  (BZ:Below Z.heap.size Z X) (hblk:X.heap[Z.heap.size]? = some (.cells cells 88)) (hcs:cells.toList=oO st (.slice la ln lcp)) (hb:b2≤Z.heap.size) (hu:IRow Z base (.slice la ln lcp) st.load)
  (h:∀ g3 cp3 wA,StpR wA base b2 (.slice (some ⟨g3,0,none⟩) 1 cp3) [st] [.slice la ln lcp]→(∀ b,b<Z.heap.size→wA.heap[b]? = Z.heap[b]?)→Z.heap.size≤g3→Below b2 Z wA→K (a.put o.dst (.slice (some ⟨g3,0,none⟩) 1 cp3)) wA):if Region.wanted o (yielded ops a.tmps)=true then Oper.wp Try.prog o a X K Q else E:=by
 refine jK (e:=88) (z:=9) (t:=69) (enc:=oO) (Sat:=SatS base) (L:=[]) (ys:=[]) (k:=0) (vc:=0) (va:=none) (base:=b2) (fun _ _=>rfl) (by decide) (eJ _) zQ rfl Try.underlying69 s xo hgd ho hs hx hblk (RowS.nil (World.ownsRow_nil X b2 88 9)) rfl (by omega) (by omega) (Nat.le_trans hb BZ.size) hcs (by intro u hu;simp [oO] at hu;rcases hu with rfl | rfl | rfl | rfl | rfl | rfl | rfl | rfl | rfl <;> rfl) (hu.later (Nat.le_refl _) BZ) (InH.on (jQ hu) BZ) (fun g hg=>by cases hg) ?_;intro g3 cp3 wA r1 r2 r3
 have hg:g3=X.heap.size:=by
  rcases r3 with e | ⟨e,_⟩
  ·have e:some g3=none:=e
   cases e
  ·exact e
 have hbl:∀ b,b<Z.heap.size→wA.heap[b]? = Z.heap[b]?:=fun b hb9=>(r2.block b (Nat.lt_of_lt_of_le hb9 BZ.size) (fun e=>by cases e)).trans (BZ.block b hb9);refine h g3 cp3 wA r1 hbl (by rw [hg];exact BZ.size) ((BZ.mono hb).grown r2 (Nat.le_trans hb BZ.size) fun q' h9=>by cases h9)
theorem m4 (p:Prb) (dd:Nat) (V:List Vst) (k:Nat):(bY p dd V k).length=dd:=by simp [bY]
theorem kR (args:Array Value) (w:World):(callFunc 48 args).run Try.prog w=.ok (.enter 48 args) w:=Go.Proofs.enters_of Try.func48 (by kernel_rfl) rfl args w
set_option maxRecDepth 100000 in
set_option maxHeartbeats 25600000 in
theorem rof_in {w:World} {x:aU} {p:Prb} {k m vc:Nat} {va:Option Addr} {V:List Vst} (h:PrbV w x p) (hl:aY p=true) (hk:k<p.vs.length) (hV:VsV w (.slice va m vc) V) (hm:V.length=m) (hm2:m≤100) :
  Calls Try.prog 38 #[.agg (aL p x),.int .i64 (k:Int),.slice va m vc] w (OfQ w (dI p (p.vs.getD k vz) V) (bif decide (dI p (p.vs.getD k vz) V=0) then dK p k (p.vs.getD k vz) V else planZ)):=by
 have HL:=hide hl;have HP:=hide h;have HV:=hide hV;have HM:=hide hm;have HW:=hide (bF hl);obtain ⟨ca,cc,ba,bc,hcar⟩:=h.car hk;have hvo:=fL (eC hl hk);have hwd:=ydV h hk;have hbd:=SlV.bound h.v;obtain ⟨ta,tc,da,dc,va',vc',ja,jc,sa,sc,rfl⟩:=h.open;obtain ⟨_,⟨vb,voff,c9,he,hvb,hcs⟩,hcap,hbrk⟩:=hcar;simp only at he hbd;injection he with he1 _ he3;subst he1 he3;clear h hV hm hl;obtain ⟨v,hv⟩:∃ v,p.vs.getD k vz=v:=⟨_,rfl⟩;rw [hv] at hcs hcap hbrk hvo hwd ⊢;clear hv;obtain ⟨nv,hnv⟩:∃ z,p.vs.length=z:=⟨_,rfl⟩;obtain ⟨lt,hlt⟩:∃ z,p.time.cells.length=z:=⟨_,rfl⟩;obtain ⟨ld,hld⟩:∃ z,p.dist.cells.length=z:=⟨_,rfl⟩;obtain ⟨lj,hlj⟩:∃ z,p.js.length=z:=⟨_,rfl⟩;obtain ⟨ls,hls⟩:∃ z,p.ss.length=z:=⟨_,rfl⟩;obtain ⟨lc,hlc⟩:∃ z,v.cap.length=z:=⟨_,rfl⟩;obtain ⟨lb,hlb⟩:∃ z,v.brks.length=z:=⟨_,rfl⟩;have HPE:Hid (aL p ⟨.slice ta p.time.cells.length tc,.slice da p.dist.cells.length dc,.slice (some ⟨vb,voff,none⟩) p.vs.length vc',.slice ja p.js.length jc,.slice sa p.ss.length sc⟩=#[.int .i64 p.dims,.int .i64 p.time.n,.slice ta lt tc,.int .i64 p.dist.n,.slice da ld dc,.slice (some ⟨vb,voff,none⟩) nv vc',.slice ja lj jc,.slice sa ls sc]):=by show _=_;rw [hnv,hlt,hld,hlj,hls];rfl
 rw [HPE.out];rw [hlc,hlb] at hcs;rw [hnv] at hk hbd;have HLC:=hide hlc;have HLB:=hide hlb;have HLT:=hide hlt;have HLD:=hide hld;have HNV:=hide hnv;clear hnv hlt hld hlj hls hlc hlb;have HVO:=hide hvo;have HBK:=hide hbrk;have c0v:w.cell? ⟨vb,voff+k*11,none⟩=some (.int .i64 v.start):=hcs 0 (by decide);have c1v:w.cell? ⟨vb,voff+k*11+1,none⟩=some (.int .i64 v.stop):=hcs 1 (by decide);have c2v:w.cell? ⟨vb,voff+k*11+2,none⟩=some (.slice ca lc cc):=hcs 2 (by decide);have c3v:w.cell? ⟨vb,voff+k*11+3,none⟩=some (.int .u64 v.skills):=hcs 3 (by decide);have c4v:w.cell? ⟨vb,voff+k*11+4,none⟩=some (.int .i64 v.shift.1):=hcs 4 (by decide);have c5v:w.cell? ⟨vb,voff+k*11+5,none⟩=some (.int .i64 v.shift.2):=hcs 5 (by decide);have c6v:w.cell? ⟨vb,voff+k*11+6,none⟩=some (.int .i64 v.fixed):=hcs 6 (by decide);have c7v:w.cell? ⟨vb,voff+k*11+7,none⟩=some (.int .i64 v.perT):=hcs 7 (by decide);have c8v:w.cell? ⟨vb,voff+k*11+8,none⟩=some (.int .i64 v.perD):=hcs 8 (by decide);have c9v:w.cell? ⟨vb,voff+k*11+9,none⟩=some (.int .i64 v.maxT):=hcs 9 (by decide);have c10v:w.cell? ⟨vb,voff+k*11+10,none⟩=some (.slice ba lb bc):=hcs 10 (by decide);clear hcs
 have H70:Hid (∀ W2,Below w.heap.size w W2→Calls Try.prog 70 #[.agg #[.int .i64 p.dims,.int .i64 p.time.n,.slice ta lt tc,.int .i64 p.dist.n,.slice da ld dc,.slice (some ⟨vb,voff,none⟩) nv vc',.slice ja lj jc,.slice sa ls sc],.agg #[.int .i64 v.start,.int .i64 v.stop,.slice ca lc cc,.int .u64 v.skills,.int .i64 v.shift.1,.int .i64 v.shift.2,.int .i64 v.fixed,.int .i64 v.perT,.int .i64 v.perD,.int .i64 v.maxT,.slice ba lb bc],.slice va m vc] W2 fun e w'=>e=.returned (.int .i64 (cQ p v V))∧Below W2.heap.size W2 w'):=fun W2 hf=>by
  have h9:=zE (ba:=ba) (bc:=bc) (HP.out.on hf) HL.out HVO.out (hcap.on hf) hwd (PrV.on HV.out hf) HM.out hm2;rw [HPE.out,HLC.out,HLB.out] at h9;exact h9
 obtain ⟨dd,hdd⟩:∃ dd:Nat,p.dims=dd:=⟨p.dims.toNat,by have:=HW.out.dim;omega⟩;have HDD:=hide hdd;have HDT:Hid (p.dims.toNat=dd):=by show _=_;rw [hdd];simp
 have hdd3:dd≤3:=by have:=HW.out.dim;omega
 clear hdd;obtain ⟨M,hM⟩:∃ M,m+1=M:=⟨_,rfl⟩;have HMM:=hide hM
 have H43:Hid (∀ W2,Below w.heap.size w W2→Calls Try.prog 43 #[.agg #[.int .i64 p.dims,.int .i64 p.time.n,.slice ta lt tc,.int .i64 p.dist.n,.slice da ld dc,.slice (some ⟨vb,voff,none⟩) nv vc',.slice ja lj jc,.slice sa ls sc],.slice va m vc] W2 fun e w'=>∃ ag ac ys,e=.returned (.slice (some ⟨ag,0,none⟩) M ac)∧LdS w' W2.heap.size (.slice (some ⟨ag,0,none⟩) M ac) ((List.range M).map (bY p dd V)) ys∧Below W2.heap.size W2 w'):=fun W2 hf=>by
  have h9:=qM (HP.out.on hf) HL.out (PrV.on HV.out hf) HM.out (by omega);rw [HPE.out,HDT.out,HMM.out] at h9;refine h9.mono ?_;rintro e w' ⟨u,ys,rfl,hr,k9⟩;obtain ⟨a,c,rfl⟩:=RowS.shape hr;have hx:((List.range M).map (bY p dd V))[0]? = some (bY p dd V 0):=by rw [← HMM.out];simp
  obtain ⟨g,y,rfl,_⟩:=iJ hr hx;have hln:((List.range M).map (bY p dd V)).length=M:=by simp
  rw [hln] at hr ⊢;exact ⟨g,c,ys,rfl,hr,k9⟩
 obtain ⟨W,hW⟩:∃ W,W=((w.alloc (.cells #[.int .i64 p.dims,.int .i64 p.time.n,.slice ta lt tc,.int .i64 p.dist.n,.slice da ld dc,.slice (some ⟨vb,voff,none⟩) nv vc',.slice ja lj jc,.slice sa ls sc] 29)).alloc (.cells #[.int .i64 0,.slice none 0 0,.int .i64 0,.int .i64 0,.int .i64 0,.int .i64 0,.int .i64 0] 71)).alloc (.cells #[.int .i64 v.start,.int .i64 v.stop,.slice ca lc cc,.int .u64 v.skills,.int .i64 v.shift.1,.int .i64 v.shift.2,.int .i64 v.fixed,.int .i64 v.perT,.int .i64 v.perD,.int .i64 v.maxT,.slice ba lb bc] 86):=⟨_,rfl⟩;have HBW:Hid (Below w.heap.size w W):=by rw [hW];exact (Mn.a.alloc (by simp) _).alloc (by simp;omega) _
 have HWS:Hid (W.heap.size=w.heap.size+3):=by show _=_;rw [hW];simp
 have HC:Hid (∀ j,W.cell? ⟨w.heap.size,j,none⟩=(#[.int .i64 p.dims,.int .i64 p.time.n,.slice ta lt tc,.int .i64 p.dist.n,.slice da ld dc,.slice (some ⟨vb,voff,none⟩) nv vc',.slice ja lj jc,.slice sa ls sc]:Array Value)[j]?):=fun j=>by
  have e9:W.heap[w.heap.size]? = some (.cells #[.int .i64 p.dims,.int .i64 p.time.n,.slice ta lt tc,.int .i64 p.dist.n,.slice da ld dc,.slice (some ⟨vb,voff,none⟩) nv vc',.slice ja lj jc,.slice sa ls sc] 29):=by rw [hW,heap_alloc_old _ _ (by simp;omega),heap_alloc_old _ _ (by simp),heap_alloc_new]
  exact cell_of_row _ _ _ _ _ _ e9
 have HX6:Hid (W.heap[w.heap.size+1]? = some (.cells #[.int .i64 0,.slice none 0 0,.int .i64 0,.int .i64 0,.int .i64 0,.int .i64 0,.int .i64 0] 71)):=by
  show _=_;rw [hW,heap_alloc_old _ _ (by simp)];have:=heap_alloc_new (w.alloc (.cells #[.int .i64 p.dims,.int .i64 p.time.n,.slice ta lt tc,.int .i64 p.dist.n,.slice da ld dc,.slice (some ⟨vb,voff,none⟩) nv vc',.slice ja lj jc,.slice sa ls sc] 29)) (.cells #[.int .i64 0,.slice none 0 0,.int .i64 0,.int .i64 0,.int .i64 0,.int .i64 0,.int .i64 0] 71);simp only [World.size_alloc] at this;exact this
 have HCV:Hid (∀ j,W.cell? ⟨w.heap.size+1+1,j,none⟩=(#[.int .i64 v.start,.int .i64 v.stop,.slice ca lc cc,.int .u64 v.skills,.int .i64 v.shift.1,.int .i64 v.shift.2,.int .i64 v.fixed,.int .i64 v.perT,.int .i64 v.perD,.int .i64 v.maxT,.slice ba lb bc]:Array Value)[j]?):=fun j=>by
  have:=heap_alloc_new ((w.alloc (.cells #[.int .i64 p.dims,.int .i64 p.time.n,.slice ta lt tc,.int .i64 p.dist.n,.slice da ld dc,.slice (some ⟨vb,voff,none⟩) nv vc',.slice ja lj jc,.slice sa ls sc] 29)).alloc (.cells #[.int .i64 0,.slice none 0 0,.int .i64 0,.int .i64 0,.int .i64 0,.int .i64 0,.int .i64 0] 71)) (.cells #[.int .i64 v.start,.int .i64 v.stop,.slice ca lc cc,.int .u64 v.skills,.int .i64 v.shift.1,.int .i64 v.shift.2,.int .i64 v.fixed,.int .i64 v.perT,.int .i64 v.perD,.int .i64 v.maxT,.slice ba lb bc] 86);rw [← hW] at this;simp only [World.size_alloc] at this;exact cell_of_row _ _ _ _ _ _ this
 have HX3:Hid (w.heap.size+1<W.heap.size):=by show _<_;rw [HWS.out];omega
 have i1:(0:Int)≤(k:Int):=by omega
 have i2:(k:Int)<(nv:Int):=by omega
 have i3:¬ (nv:Int)≤(k:Int):=by omega
 have i4:¬ (k:Int)<0:=by omega
 have n0:¬ vb=w.heap.size:=by omega
 have n1:¬ vb=w.heap.size+1:=by omega
 have n2:¬ vb=w.heap.size+1+1:=by omega
 obtain ⟨fm,hfm⟩:∃ z,cQ p v V=z:=⟨_,rfl⟩;have HFM:=hide hfm;clear hM hfm hbrk hcap hvo
 by_cases hf0:fm=0
 ·subst hf0;have y1:((0:Int) != 0)=false:=rfl;have HF0:=hide (xS HFM.out);have hsh:=HVO.out.shift;have hfx:=HVO.out.fixed;have hpt:=HVO.out.perT;have hpd:=HVO.out.perD;have HSO:=hide (fP HL.out HVO.out V);have HSH:Hid (v.shift.1≤v.shift.2):=hsh.2.1;have HSF:Hid (0≤v.shift.1∧v.shift.1≤1000000):=⟨hsh.1,by omega⟩;go_enter Try.func38,Try.ntmps38;go_wp2_with (first | (go_at_call 43;refine (H43.out _ (below_on HBW.out E1.out)).mono ?_;rintro e w2 ⟨ag,ac,ys,rfl,R2,k2⟩;have HR2:=hide R2;have E2:=hide (below_on E1.out k2);have HK2:=hide k2.size;obtain ⟨va0,va1,va2,va3,va4,va5,va6,va7,va8,va9,va10⟩:=Mn.c11 (fun j=>((aA E2.out).1 _ j (by rw [HWS.out];omega)).trans (HCV.out j));clear k2 R2 pa0 pa1 pa2 pa3 pa4 pa5 pa6 pa7 ac0 af0 ac1 af1 ac2 af2 ac3 af3 ac4 af4 ac5 af5 ac6 af6) | (go_at_call 70;rw [← hW];refine (H70.out _ HBW.out).mono ?_;rintro e w1 ⟨rfl,k1⟩;rw [HFM.out];have E1:=hide k1;obtain ⟨pa0,pa1,pa2,pa3,pa4,pa5,pa6,pa7⟩:=Mn.c8 (fun j=>((aA k1).1 _ j (by rw [HWS.out];omega)).trans (HC.out j));obtain ⟨ac0,ac1,ac2,ac3,ac4,ac5,ac6⟩:=Mn.c7 ((fJ HX6.out k1 HX3.out).1);obtain ⟨af0,af1,af2,af3,af4,af5,af6⟩:=Mn.z7 ((fJ HX6.out k1 HX3.out).2);clear k1) | fail);clear hW i1 i2 i3 i4 n0 n1 n2 c0v c1v c2v c3v c4v c5v c6v c7v c8v c9v c10v;obtain ⟨X0,hX0⟩:∃ X,X=w2.alloc (.cells #[.int .i64 (k:Int),.slice none 0 0,.int .i64 0,.int .i64 0,.int .i64 0,.int .i64 0,.int .i64 0] 71):=⟨_,rfl⟩;rw [← hX0];have HX0B:Hid (X0.heap[w2.heap.size]? = some (.cells #[.int .i64 (k:Int),.slice none 0 0,.int .i64 0,.int .i64 0,.int .i64 0,.int .i64 0,.int .i64 0] 71)):=by show _=_;rw [hX0];exact aF _ _
  have E0:Hid (Below w2.heap.size w2 X0):=by rw [hX0];exact Mn.a
  clear hX0 va1 va2 va3 va5 va6 va7 va8 va9 va10;have vb4:X0.cell? ⟨w.heap.size+1+1,4,none⟩=some (.int .i64 v.shift.1):=((aA (below_on E2.out E0.out)).1 _ 4 (by rw [HWS.out];omega)).trans (HCV.out 4);have vb0:X0.cell? ⟨w.heap.size+1+1,0,none⟩=some (.int .i64 v.start):=((aA (below_on E2.out E0.out)).1 _ 0 (by rw [HWS.out];omega)).trans (HCV.out 0)
  first | (go_region_held3 (fun w'=>w'.cell? ⟨w.heap.size+1+1,4,none⟩=some (.int .i64 v.shift.1)∧w'.cell? ⟨w.heap.size+1+1,0,none⟩=some (.int .i64 v.start)) (go_keep) (fail)) | fail
  rename_i hHeld;clear hHeld vb4 vb0 va4 va0;go_wp2_with fail;obtain ⟨Y,hY⟩:∃ Y,Y=X0.drew:=⟨_,rfl⟩;rw [← hY];have BY:Hid (Y.heap[w2.heap.size]? = some (.cells #[.int .i64 (k:Int),.slice none 0 0,.int .i64 0,.int .i64 0,.int .i64 0,.int .i64 0,.int .i64 0] 71)):=by rw [hY];exact HX0B.out
  have LY:Hid (Below w2.heap.size w2 Y):=by rw [hY];exact E0.out.drew
  clear hY;have hx0:((List.range M).map (bY p dd V))[0]? = some (bY p dd V 0):=by rw [← HMM.out];simp
  obtain ⟨g0,y0,he0,hg0,hy0,hc0,hr0⟩:=iJ HR2.out hx0;injection he0 with he0;injection he0 with he0;subst he0;obtain ⟨la,lcp,rfl⟩:=IRow.shape hr0;rw [m4] at hy0 hc0 hr0;have HLA:Hid (IRow Y w1.heap.size (.slice la dd lcp) (bY p dd V 0)):=hr0.later (Nat.le_refl _) LY.out;have HY0:=hide hy0;have zl0:Y.cell? ⟨ag,0,none⟩=some (.slice la dd lcp):=((aA LY.out).1 _ _ hg0).trans hc0;have HAG:=hide hg0;have HLI:Hid (∀ g,(Value.slice la dd lcp).ownBlock=some g→g<w2.heap.size):=fun g h9=>jQ hr0 g h9;clear hc0 hr0 hy0 hx0;have hxY:w2.heap.size<Y.heap.size:=aD BY.out;have yx1:Y.cell? ⟨w2.heap.size,1,none⟩=some (.slice none 0 0):=cell_of_row _ w2.heap.size 1 _ _ _ BY.out;have nl1:¬ ag=w2.heap.size:=by omega
  have nl1':¬ w2.heap.size=ag:=by omega
  have j0:(0:Int)<(M:Int):=by have:=HMM.out;omega
  have j0n:0<M:=by omega
  have j0':¬ (M:Int)≤0:=by omega
  go_cut [] from 54 to 65 (fun wx=>Hid (PlnS w2 w1.heap.size w2.heap.size k [.slice la dd lcp] [⟨5,0,v.start,v.shift.1,0,0,bY p dd V 0,0,0⟩] 0 0 0 0 1 wx))
  case first =>
   refine wp_region_held_drew (S:=(fun w'=>w'.cell? ⟨ag,0,none⟩=some (.slice la dd lcp))) (by kernel_rfl) ?_ (fun hHeld0=>?_)
   · (try dsimp only);go_keep
   refine Mn.t 0 ?_;(try simp only [Act.put,Mn.q]);refine Mn.t 2 ?_;(try simp only [Act.put,Mn.q]);refine Mn.t 3 ?_;(try simp only [Act.put,Mn.q]);refine Mn.t 4 ?_;(try simp only [Act.put,Mn.q]);refine Mn.t 5 ?_;(try simp only [Act.put,Mn.q]);refine Mn.t 6 ?_;(try simp only [Act.put,Mn.q]);refine Mn.t 7 ?_;(try simp only [Act.put,Mn.q]);refine Mn.t 8 ?_;(try simp only [Act.put,Mn.q]);refine wpAnyH_ready (rs:=[1,9]) (by kernel_rfl) (by simp) ?_;refine AllReadyH.cons rfl (fun K hK=>?_) ?_
   ·go_simp
    refine hK.out _ _ ?_ (fun hHeld1=>?_)
    · (try dsimp only);go_keep
    clear hK K;(try simp only [Act.put,Mn.q]);clear hHeld0;refine wpAnyH_ready (rs:=[9]) (by kernel_rfl) (by simp) ?_;refine AllReadyH.cons rfl (fun K hK=>?_) ?_
    ·go_simp
     refine hK.out _ _ ?_ (fun hHeld2=>?_)
     · (try dsimp only);go_keep
     clear hK K;(try simp only [Act.put,Mn.q]);clear hHeld1;refine wpAnyH_ready (rs:=[10]) (by kernel_rfl) (by simp) ?_;refine AllReadyH.cons rfl (fun K hK=>?_) ?_
     ·(refine qF (Z:=Y) (X:=(Y.alloc (.cells #[.int .i64 5,.int .i64 0,.int .i64 v.start,.int .i64 v.shift.1,.int .i64 0,.int .i64 0,.slice la dd lcp,.int .i64 0,.int .i64 0] 88)).drew) (cells:=#[.int .i64 5,.int .i64 0,.int .i64 v.start,.int .i64 v.shift.1,.int .i64 0,.int .i64 0,.slice la dd lcp,.int .i64 0,.int .i64 0]) (base:=w1.heap.size) (b2:=w2.heap.size) (.tmp 55) (.tmp 63) rfl rfl rfl rfl (((Below.refl Y.heap.size Y).alloc (Nat.le_refl _) _).drew) (aF Y _) (st:=⟨5,0,v.start,v.shift.1,0,0,bY p dd V 0,0,0⟩) rfl (Nat.le_of_lt hxY) HLA.out ?_;intro g3 cp3 wA r1 hgb r3 r4;have al0:wA.cell? ⟨ag,0,none⟩=some (.slice la dd lcp):=(World.cell?_of_block (a:=⟨ag,0,none⟩) (hgb ag (by omega))).trans zl0;have HBA:=hide ((hgb _ hxY).trans BY.out);have ax1:wA.cell? ⟨w2.heap.size,1,none⟩=some (.slice none 0 0):=cell_of_row _ w2.heap.size 1 _ _ _ HBA.out;have af1:=frozen_of_row wA w2.heap.size 1 _ _ HBA.out;have HRA:=hide r1;have HG3:Hid (g3≠w2.heap.size):=(by show _≠_;omega);have LA:Hid (Below w2.heap.size w2 wA):=LY.out.trans r4;clear r1 r3 r4 hgb)
      refine hK.out _ _ ?_ (fun hHeld3=>?_)
      · (try dsimp only);go_keep
      clear hK K;(try simp only [Act.put,Mn.q]);clear hHeld2;refine Mn.t 11 ?_;(try simp only [Act.put,Mn.q]);refine wpAnyH_ready (rs:=[12]) (by kernel_rfl) (by simp) ?_;refine AllReadyH.cons rfl (fun K hK=>?_) ?_
      ·go_simp
       refine hK.out _ _ ?_ (fun hHeld4=>?_)
       · (try dsimp only);go_keep
       clear hK K;(try simp only [Act.put,Mn.q]);clear hHeld3;refine wpAnyH_done (by kernel_rfl) ?_ _;clear hHeld4;clear al0 ax1 af1;go_wp2_with fail;go_meet
       case rel=>exact fG LA.out (Nat.le_refl _) rfl HBA.out HRA.out HG3.out (fun y hy=>by rw [List.mem_singleton] at hy;subst hy;intro g h9;have:=HLI.out g h9;omega)
      exact AllReadyH.nil
     exact AllReadyH.nil
    exact AllReadyH.nil
   refine AllReadyH.cons rfl (fun K hK=>?_) ?_
   ·go_simp
    refine hK.out _ _ ?_ (fun hHeld5=>?_)
    · (try dsimp only);go_keep
    clear hK K;(try simp only [Act.put,Mn.q]);clear hHeld0;refine wpAnyH_ready (rs:=[1]) (by kernel_rfl) (by simp) ?_;refine AllReadyH.cons rfl (fun K hK=>?_) ?_
    ·go_simp
     refine hK.out _ _ ?_ (fun hHeld6=>?_)
     · (try dsimp only);go_keep
     clear hK K;(try simp only [Act.put,Mn.q]);clear hHeld5;refine wpAnyH_ready (rs:=[10]) (by kernel_rfl) (by simp) ?_;refine AllReadyH.cons rfl (fun K hK=>?_) ?_
     ·(refine qF (Z:=Y) (X:=(Y.alloc (.cells #[.int .i64 5,.int .i64 0,.int .i64 v.start,.int .i64 v.shift.1,.int .i64 0,.int .i64 0,.slice la dd lcp,.int .i64 0,.int .i64 0] 88)).drew) (cells:=#[.int .i64 5,.int .i64 0,.int .i64 v.start,.int .i64 v.shift.1,.int .i64 0,.int .i64 0,.slice la dd lcp,.int .i64 0,.int .i64 0]) (base:=w1.heap.size) (b2:=w2.heap.size) (.tmp 55) (.tmp 63) rfl rfl rfl rfl (((Below.refl Y.heap.size Y).alloc (Nat.le_refl _) _).drew) (aF Y _) (st:=⟨5,0,v.start,v.shift.1,0,0,bY p dd V 0,0,0⟩) rfl (Nat.le_of_lt hxY) HLA.out ?_;intro g3 cp3 wA r1 hgb r3 r4;have al0:wA.cell? ⟨ag,0,none⟩=some (.slice la dd lcp):=(World.cell?_of_block (a:=⟨ag,0,none⟩) (hgb ag (by omega))).trans zl0;have HBA:=hide ((hgb _ hxY).trans BY.out);have ax1:wA.cell? ⟨w2.heap.size,1,none⟩=some (.slice none 0 0):=cell_of_row _ w2.heap.size 1 _ _ _ HBA.out;have af1:=frozen_of_row wA w2.heap.size 1 _ _ HBA.out;have HRA:=hide r1;have HG3:Hid (g3≠w2.heap.size):=(by show _≠_;omega);have LA:Hid (Below w2.heap.size w2 wA):=LY.out.trans r4;clear r1 r3 r4 hgb)
      refine hK.out _ _ ?_ (fun hHeld7=>?_)
      · (try dsimp only);go_keep
      clear hK K;(try simp only [Act.put,Mn.q]);clear hHeld6;refine Mn.t 11 ?_;(try simp only [Act.put,Mn.q]);refine wpAnyH_ready (rs:=[12]) (by kernel_rfl) (by simp) ?_;refine AllReadyH.cons rfl (fun K hK=>?_) ?_
      ·go_simp
       refine hK.out _ _ ?_ (fun hHeld8=>?_)
       · (try dsimp only);go_keep
       clear hK K;(try simp only [Act.put,Mn.q]);clear hHeld7;refine wpAnyH_done (by kernel_rfl) ?_ _;clear hHeld8;clear al0 ax1 af1;go_wp2_with fail;go_meet
       case rel=>exact fG LA.out (Nat.le_refl _) rfl HBA.out HRA.out HG3.out (fun y hy=>by rw [List.mem_singleton] at hy;subst hy;intro g h9;have:=HLI.out g h9;omega)
      exact AllReadyH.nil
     exact AllReadyH.nil
    exact AllReadyH.nil
   exact AllReadyH.nil
  case rest =>
   have HPS:=hcut;clear hcut zl0 LY BY HLA hxY yx1;rename World=>z0;have HSO1:=hide (yd0 (p:=p) (v:=v) (V:=V) HSH.out)
   have HPS1:Hid (PlnS w2 w1.heap.size w2.heap.size k (ys.take (0+1)) ((List.range (0+1)).map (bG p dd v.shift.1 V (aB p v V))) (aH (aE p.time (aB p v V)) (0+1)) (aH (aE p.dist (aB p v V)) (0+1)) (aH (bW p.time (aB p v V) v.shift.1) (0+1)) (aH (fR (aB p v V)) (0+1)) (0+1) z0):=by
     have e1:(List.range (0+1)).map (bG p dd v.shift.1 V (aB p v V))=[⟨5,0,v.start,v.shift.1,0,0,bY p dd V 0,0,0⟩]:=by rw [fD,oE HL.out HDD.out HSH.out];rfl
     have e2:ys.take (0+1)=[.slice la dd lcp]:=by rw [jB HY0.out];rfl
     show PlnS _ _ _ _ _ _ _ _ _ _ _ _;rw [e1,e2,HSO1.out.1,HSO1.out.2.1,HSO1.out.2.2.1,HSO1.out.2.2.2];exact HPS.out
   clear HPS HSO1;have HE2w:Hid (Below w.heap.size w w2):=below_on HBW.out E2.out;have H22:Hid (∀ W2 (kd it:Int),Below w2.heap.size w2 W2→Calls Try.prog 22 #[.agg #[.int .i64 p.dims,.int .i64 p.time.n,.slice ta lt tc,.int .i64 p.dist.n,.slice da ld dc,.slice (some ⟨vb,voff,none⟩) nv vc',.slice ja lj jc,.slice sa ls sc],.agg #[.int .i64 kd,.int .i64 it]] W2 fun e w'=>∃ y,e=.returned (.tuple #[.agg #[.int .i64 (aS p kd it).place,.int .i64 (aS p kd it).serv,y],.bool (aI p kd it)])∧WinsV w2 y (aS p kd it).wins∧Below W2.heap.size W2 w'):=fun W2 kd it hf=>by have h9:=zB (HP.out.on HE2w.out) hf kd it;rw [HPE.out] at h9;exact h9
   have H48t:Hid (∀ W2 (f t:Int),Below w.heap.size w W2→Calls Try.prog 48 #[.agg #[.int .i64 p.time.n,.slice ta lt tc],.int .i64 f,.int .i64 t] W2 fun e w'=>e=.returned (.int .i64 (aK p.time f t))∧Below W2.heap.size W2 w'):=fun W2 f t hf=>by have h9:=iA (HP.out.on hf).t HW.out.st f t;simp only at h9;rw [HLT.out] at h9;exact h9
   have H48d:Hid (∀ W2 (f t:Int),Below w.heap.size w W2→Calls Try.prog 48 #[.agg #[.int .i64 p.dist.n,.slice da ld dc],.int .i64 f,.int .i64 t] W2 fun e w'=>e=.returned (.int .i64 (aK p.dist f t))∧Below W2.heap.size W2 w'):=fun W2 f t hf=>by have h9:=iA (HP.out.on hf).d HW.out.sd f t;simp only at h9;rw [HLD.out] at h9;exact h9
   go_wp2_with fail
   go_loopw [14,12,13] (fun vi vl va wr=>∃ (q:Nat) (lf pa:Int),vi=.int .i64 q∧vl=.int .i64 lf∧va=.int .i64 pa∧q≤m∧Hid (lfM p.time (aB p v V) v.shift.1 (q+1)=lf)∧Hid (((aB p v V).getD q sz).place=pa)∧Hid (∀ j,j<q+1→(dR p.time (aB p v V) v.shift.1 j).2=true)∧Hid (PlnS w2 w1.heap.size w2.heap.size k (ys.take (q+1)) ((List.range (q+1)).map (bG p dd v.shift.1 V (aB p v V))) (aH (aE p.time (aB p v V)) (q+1)) (aH (aE p.dist (aB p v V)) (q+1)) (aH (bW p.time (aB p v V) v.shift.1) (q+1)) (aH (fR (aB p v V)) (q+1)) (q+1) wr)) (fun vi _ _ _=>m-(intOf vi).toNat)
   case atStart=>exact ⟨0,v.shift.1,v.start,rfl,rfl,rfl,Nat.zero_le _,lf_one HSH.out,by rw [cK];rfl,fun j hj=>by have e:j=0:=(by omega);subst e;rw [l7 HSH.out],HPS1.out⟩
   case round =>
     clear HPS1;obtain ⟨q,lf,pa,rfl,rfl,rfl,hq,HLF,HPA,HTB,HPS⟩:=hrel;have EC:Hid (Below w2.heap.size w2 wr):=HPS.out.low
     by_cases hqm:q<m
     · have i1:(q:Int)<(m:Int):=by omega
       have i2:(0:Int)≤(q:Int):=by omega
       have i3:¬ (m:Int)≤(q:Int):=by omega
       obtain ⟨⟨kd,it⟩,hu⟩:∃ u,V[q]? = some u:=⟨_,List.getElem?_eq_getElem (by rw [HM.out];exact hqm)⟩;obtain ⟨b,off,rfl,hb,c1,c2,_⟩:=bL HV.out hu;simp only at c1 c2;have HU:=hide hu;have HLO:Hid (∀ X,Below w2.heap.size w2 X→X.cell? ⟨b,off+q*2,none⟩=some (.int .i64 kd)∧X.cell? ⟨b,off+q*2+1,none⟩=some (.int .i64 it)):=fun X hx=>⟨((aA (below_on HE2w.out hx)).1 _ _ hb).trans c1,((aA (below_on HE2w.out hx)).1 _ _ hb).trans c2⟩;have HBB:Hid (b<w.heap.size):=hb;have HSZ:Hid (w.heap.size+3≤w2.heap.size):=by have h1:=HWS.out;have h2:=E2.out.size;show _≤_;omega
       obtain ⟨tv,htv⟩:∃ z,aI p kd it=z:=⟨_,rfl⟩;obtain ⟨st0,hst0⟩:∃ z,aS p kd it=z:=⟨_,rfl⟩;obtain ⟨s,hs⟩:∃ z,(aB p v V).getD (q+1) sz=z:=⟨_,rfl⟩;have hsw:s=aM p v pa (kd,it):=by rw [← hs,gD hu,HPA.out]
       have HT1:Hid (tv=true→s=st0):=fun e=>by
         rw [hsw,← hst0];unfold aM;rw [if_neg (fun e4=>by simp only at e4;rw [e4,nY] at htv;rw [← htv] at e;cases e)]
       have HT0:Hid (tv=false→kd=4∧∃ j:Nat,it=j∧j<v.brks.length∧s=⟨pa,(v.brks.getD j bz).serv,(v.brks.getD j bz).wins⟩):=fun e=>by
         have h4:kd=4:=by
           by_cases h4:kd=4
           · exact h4
           · have h9:=(((dE p V).1 HF0.out.1).1 q _ hu h4).1;simp only at h9;rw [htv,e] at h9
             cases h9
         obtain ⟨j,hj,hjl⟩:=(pT V 0 _ (of_decide_eq_true HF0.out.2.1)).2 _ (List.mem_of_getElem? hu) h4;refine ⟨h4,j,hj,hjl,?_⟩;simp only at hj;rw [hsw];unfold aM;rw [if_pos h4];simp only [hj,Int.toNat_natCast]
       obtain ⟨pl0,hpl0⟩:∃ z,st0.place=z:=⟨_,rfl⟩;obtain ⟨sv0,hsv0⟩:∃ z,st0.serv=z:=⟨_,rfl⟩;obtain ⟨nw0,hnw0⟩:∃ z,st0.wins.length=z:=⟨_,rfl⟩;obtain ⟨pl,hpl⟩:∃ z,s.place=z:=⟨_,rfl⟩;obtain ⟨sv,hsv⟩:∃ z,s.serv=z:=⟨_,rfl⟩;obtain ⟨nw,hnw⟩:∃ z,s.wins.length=z:=⟨_,rfl⟩;have HQ1:Hid (tv=true→pl0=pl∧sv0=sv∧nw0=nw∧st0.wins=s.wins):=fun e=>by have e1:=HT1.out e;rw [← hpl0,← hsv0,← hnw0,← hpl,← hsv,← hnw,e1];exact ⟨rfl,rfl,rfl,rfl⟩
       have HTV:=hide htv;have HSG:=hide hs;have HPL:=hide hpl;have HSV:=hide hsv;have HNW:=hide hnw
       have H22b:Hid (∀ W2,Below w2.heap.size w2 W2→Calls Try.prog 22 #[.agg #[.int .i64 p.dims,.int .i64 p.time.n,.slice ta lt tc,.int .i64 p.dist.n,.slice da ld dc,.slice (some ⟨vb,voff,none⟩) nv vc',.slice ja lj jc,.slice sa ls sc],.agg #[.int .i64 kd,.int .i64 it]] W2 fun e w'=>∃ ya yc,e=.returned (.tuple #[.agg #[.int .i64 pl0,.int .i64 sv0,.slice ya nw0 yc],.bool tv])∧WinsV w2 (.slice ya nw0 yc) st0.wins∧Below W2.heap.size W2 w'):=fun W2 hf=>by
         have h9:=H22.out W2 kd it hf;rw [htv,hst0,hpl0,hsv0] at h9;refine h9.mono ?_;rintro e w' ⟨y,rfl,hy,k9⟩;obtain ⟨ya,yc,rfl⟩:=hy.shape;rw [hnw0] at hy ⊢;exact ⟨ya,yc,rfl,hy,k9⟩
       have HNW0:=hide hnw0;clear hu hb c1 c2 htv hst0 hs hsw hpl0 hsv0 hnw0 hpl hsv hnw;have nq0:¬ w.heap.size=wr.heap.size:=by have h1:=EC.out.size;have h2:=HSZ.out;omega
       have nq1:¬ b=wr.heap.size:=by have h1:=EC.out.size;have h2:=HSZ.out;have h3:=HBB.out;omega
       obtain ⟨qp0,qp1,qp2,qp3,qp4,qp5,qp6,qp7⟩:=Mn.c8 (fun j=>((aA (below_on E2.out EC.out)).1 _ j (by rw [HWS.out];omega)).trans (HC.out j));have qv0:wr.cell? ⟨b,off+q*2,none⟩=some (.int .i64 kd):=(HLO.out _ EC.out).1;have qv1:wr.cell? ⟨b,off+q*2+1,none⟩=some (.int .i64 it):=(HLO.out _ EC.out).2;go_wp2_with fail
       go_cut [15,16] from 72 to 80 (fun v15 v16 wx=>∃ (x15:Nat) (ya:Option Addr) (yc:Nat),v15=.pointer (some ⟨x15,0,none⟩)∧v16=.bool tv∧wr.heap.size≤x15∧Hid (Below wr.heap.size wr wx)∧Hid (wx.heap[x15]? = some (.cells #[.int .i64 pl0,.int .i64 sv0,.slice ya nw0 yc] 45))∧Hid (WinsV w2 (.slice ya nw0 yc) st0.wins))
       case first =>
         refine wp_region_held_drew (S:=(fun w'=>w'.cell? ⟨w.heap.size,0,none⟩=some (.int .i64 p.dims)∧w'.cell? ⟨w.heap.size,1,none⟩=some (.int .i64 p.time.n)∧w'.cell? ⟨w.heap.size,2,none⟩=some (.slice ta lt tc)∧w'.cell? ⟨w.heap.size,3,none⟩=some (.int .i64 p.dist.n)∧w'.cell? ⟨w.heap.size,4,none⟩=some (.slice da ld dc)∧w'.cell? ⟨w.heap.size,5,none⟩=some (.slice (some ⟨vb,voff,none⟩) nv vc')∧w'.cell? ⟨w.heap.size,6,none⟩=some (.slice ja lj jc)∧w'.cell? ⟨w.heap.size,7,none⟩=some (.slice sa ls sc)∧w'.cell? ⟨b,off+q*2,none⟩=some (.int .i64 kd)∧w'.cell? ⟨b,off+q*2+1,none⟩=some (.int .i64 it))) (by kernel_rfl) ?_ (fun hHeld0=>?_)
         · (try dsimp only);go_keep
         refine Mn.t 0 ?_;(try simp only [Act.put,Mn.q]);refine Mn.t 1 ?_;(try simp only [Act.put,Mn.q]);refine Mn.t 2 ?_;(try simp only [Act.put,Mn.q]);refine Mn.t 3 ?_;(try simp only [Act.put,Mn.q]);refine Mn.t 4 ?_;(try simp only [Act.put,Mn.q]);refine wpAnyH_ready (rs:=[5,9]) (by kernel_rfl) (by simp) ?_;refine AllReadyH.cons rfl (fun K hK=>?_) ?_
         ·(refine aG (by rfl) 22 _ _ (by rfl) gH [.agg #[.int .i64 p.dims,.int .i64 p.time.n,.slice ta lt tc,.int .i64 p.dist.n,.slice da ld dc,.slice (some ⟨vb,voff,none⟩) nv vc',.slice ja lj jc,.slice sa ls sc],.agg #[.int .i64 kd,.int .i64 it]] (by rfl) ?_;refine (H22b.out _ (below_on EC.out ((Below.refl _ _).drew))).mono ?_;rintro e w5 ⟨ya,yc,rfl,Q5,k5⟩;refine ⟨_,rfl,?_⟩;have HQ5:=hide Q5;have K5:=hide (below_on ((Below.refl _ _).drew) k5);have E5:=hide (below_on EC.out K5.out);obtain ⟨czp0,czp1,czp2,czp3,czp4,czp5,czp6,czp7⟩:=Mn.c8 (fun j=>((aA (below_on E2.out E5.out)).1 _ j (by rw [HWS.out];omega)).trans (HC.out j));have czv0:w5.cell? ⟨b,off+q*2,none⟩=some (.int .i64 kd):=(HLO.out _ E5.out).1;have czv1:w5.cell? ⟨b,off+q*2+1,none⟩=some (.int .i64 it):=(HLO.out _ E5.out).2;have nr0:¬ w.heap.size=w5.heap.size:=(by have h1:=E5.out.size;have h2:=HSZ.out;omega);have nr1:¬ b=w5.heap.size:=(by have h1:=E5.out.size;have h2:=HSZ.out;have h3:=HBB.out;omega);clear k5 Q5)
          refine hK.out _ _ ?_ (fun hHeld1=>?_)
          · (try dsimp only);go_keep
          clear hK K;(try simp only [Act.put,Mn.q]);clear hHeld0;refine Mn.t 6 ?_;(try simp only [Act.put,Mn.q]);refine Mn.t 7 ?_;(try simp only [Act.put,Mn.q]);refine Mn.t 8 ?_;(try simp only [Act.put,Mn.q]);refine wpAnyH_ready (rs:=[9]) (by kernel_rfl) (by simp) ?_;refine AllReadyH.cons rfl (fun K hK=>?_) ?_
          ·go_simp
           refine hK.out _ _ ?_ (fun hHeld2=>?_)
           · (try dsimp only);go_keep
           clear hK K;(try simp only [Act.put,Mn.q]);clear hHeld1;refine wpAnyH_ready (rs:=[10]) (by kernel_rfl) (by simp) ?_;refine AllReadyH.cons rfl (fun K hK=>?_) ?_
           ·go_simp
            refine hK.out _ _ ?_ (fun hHeld3=>?_)
            · (try dsimp only);(first | (go_keep;done) | (refine ⟨?_,?_,?_,?_,?_,?_,?_,?_,?_,?_⟩ <;> (refine bB (w:=w5) ?_ (by assumption);(repeat rw [heap_setCell_other _ _ _ _ (by simp;omega)]))))
            clear hK K;(try simp only [Act.put,Mn.q]);clear hHeld2;refine Mn.t 11 (oi:=⟨some 16,.assign (.tmp 80),4,"ref.go:142",#[⟨8,.data⟩,⟨10,.chain⟩,⟨0,.phase⟩,⟨1,.phase⟩,⟨2,.phase⟩,⟨3,.phase⟩,⟨4,.phase⟩,⟨5,.phase⟩,⟨6,.phase⟩,⟨7,.phase⟩,⟨8,.phase⟩,⟨9,.phase⟩,⟨10,.phase⟩],none⟩) ?_;(try simp only [Act.put,Mn.q]);refine wpAnyH_done (by kernel_rfl) ?_ _;clear hHeld3;go_wp2_with fail;go_meet
            case rel=>exact ⟨w5.heap.size,ya,yc,rfl,rfl,K5.out.size,below_on K5.out Mn.a,aF w5 _,HQ5.out⟩
           exact AllReadyH.nil
          exact AllReadyH.nil
         refine AllReadyH.cons rfl (fun K hK=>?_) ?_
         ·go_simp
          refine hK.out _ _ ?_ (fun hHeld4=>?_)
          · (try dsimp only);go_keep
          clear hK K;(try simp only [Act.put,Mn.q]);clear hHeld0;refine wpAnyH_ready (rs:=[5]) (by kernel_rfl) (by simp) ?_;refine AllReadyH.cons rfl (fun K hK=>?_) ?_
          ·(refine aG (by rfl) 22 _ _ (by rfl) gH [.agg #[.int .i64 p.dims,.int .i64 p.time.n,.slice ta lt tc,.int .i64 p.dist.n,.slice da ld dc,.slice (some ⟨vb,voff,none⟩) nv vc',.slice ja lj jc,.slice sa ls sc],.agg #[.int .i64 kd,.int .i64 it]] (by rfl) ?_;refine (H22b.out _ (below_on EC.out (below_on ((Below.refl _ _).drew) Mn.a))).mono ?_;rintro e w5 ⟨ya,yc,rfl,Q5,k5⟩;refine ⟨_,rfl,?_⟩;have HQ5:=hide Q5;have K5:=hide (below_on (below_on ((Below.refl _ _).drew) Mn.a) k5);have E5:=hide (below_on EC.out K5.out);obtain ⟨czp0,czp1,czp2,czp3,czp4,czp5,czp6,czp7⟩:=Mn.c8 (fun j=>((aA (below_on E2.out E5.out)).1 _ j (by rw [HWS.out];omega)).trans (HC.out j));have czv0:w5.cell? ⟨b,off+q*2,none⟩=some (.int .i64 kd):=(HLO.out _ E5.out).1;have czv1:w5.cell? ⟨b,off+q*2+1,none⟩=some (.int .i64 it):=(HLO.out _ E5.out).2;have nr0:¬ w.heap.size=w5.heap.size:=(by have h1:=E5.out.size;have h2:=HSZ.out;omega);have nr1:¬ b=w5.heap.size:=(by have h1:=E5.out.size;have h2:=HSZ.out;have h3:=HBB.out;omega);have HX2:Hid (w5.heap[wr.heap.size]? = some (.cells #[.int .i64 0,.int .i64 0,.slice none 0 0] 45)):=(k5.block _ (by simp)).trans (heap_alloc_new wr.drew _);obtain ⟨gc0,gc1,gc2,gf0,gf1,gf2⟩:=Mn.x3 (HX2.out);clear k5 Q5)
           refine hK.out _ _ ?_ (fun hHeld5=>?_)
           · (try dsimp only);go_keep
           clear hK K;(try simp only [Act.put,Mn.q]);clear hHeld4;refine Mn.t 6 ?_;(try simp only [Act.put,Mn.q]);refine Mn.t 7 ?_;(try simp only [Act.put,Mn.q]);refine Mn.t 8 ?_;(try simp only [Act.put,Mn.q]);refine wpAnyH_ready (rs:=[10]) (by kernel_rfl) (by simp) ?_;refine AllReadyH.cons rfl (fun K hK=>?_) ?_
           ·go_simp
            refine hK.out _ _ ?_ (fun hHeld6=>?_)
            · (try dsimp only);(first | (go_keep;done) | (refine ⟨?_,?_,?_,?_,?_,?_,?_,?_,?_,?_⟩ <;> (refine bB (w:=w5) ?_ (by assumption);(repeat rw [heap_setCell_other _ _ _ _ (by simp;omega)]))))
            clear hK K;(try simp only [Act.put,Mn.q]);clear hHeld5;refine Mn.t 11 (oi:=⟨some 16,.assign (.tmp 80),4,"ref.go:142",#[⟨8,.data⟩,⟨10,.chain⟩,⟨0,.phase⟩,⟨1,.phase⟩,⟨2,.phase⟩,⟨3,.phase⟩,⟨4,.phase⟩,⟨5,.phase⟩,⟨6,.phase⟩,⟨7,.phase⟩,⟨8,.phase⟩,⟨9,.phase⟩,⟨10,.phase⟩],none⟩) ?_;(try simp only [Act.put,Mn.q]);refine wpAnyH_done (by kernel_rfl) ?_ _;clear hHeld6;go_wp2_with fail;go_meet
            case rel =>
             have h0:=heap_setCell_same w5 wr.heap.size 0 _ _ (.int .i64 pl0) HX2.out;have h1:=heap_setCell_same _ wr.heap.size 1 _ _ (.int .i64 sv0) h0;have h2:=heap_setCell_same _ wr.heap.size 2 _ _ (.slice ya nw0 yc) h1;exact ⟨wr.heap.size,ya,yc,rfl,rfl,Nat.le_refl _,((K5.out.setCell (Nat.le_refl _) _).setCell (Nat.le_refl _) _).setCell (Nat.le_refl _) _,by show _=_;simpa using h2,HQ5.out⟩
           exact AllReadyH.nil
          exact AllReadyH.nil
         exact AllReadyH.nil
       case rest =>
         obtain ⟨x15,ya,yc,rfl,rfl,hx15,K1,BX,HWN⟩:=hcut;clear qp0 qp1 qp2 qp3 qp4 qp5 qp6 qp7 qv0 qv1 nq0 nq1;rename World=>z1;have L1:Hid (Below w2.heap.size w2 z1):=below_on EC.out K1.out;have HXL:Hid (w2.heap.size<wr.heap.size):=HPS.out.lt;have HXX:Hid (x15<z1.heap.size):=aD BX.out
         go_upto_if 82 with (fail)
         go_cut [] from 81 to 104 (fun wx=>∃ (ya:Option Addr) (yc:Nat),Hid (Below wr.heap.size wr wx)∧Hid (wx.heap[x15]? = some (.cells #[.int .i64 pl,.int .i64 sv,.slice ya nw yc] 45))∧Hid (WinsV w2 (.slice ya nw yc) s.wins))
         case first =>
           cases tv with
           | true =>
             have HQ2:=hide (HQ1.out rfl);clear HQ1 HT1 HT0;go_wp2_with fail;go_meet
             case rel =>
              obtain ⟨q1,q2,q3,q4⟩:=HQ2.out;exact ⟨ya,yc,K1.out,by rw [← q1,← q2,← q3];exact BX.out,by rw [← q3,← q4];exact HWN.out⟩
           | false =>
             obtain ⟨h4,j,hj,hjl,hse⟩:=HT0.out rfl;subst hj;obtain ⟨bb,boff,y,rfl,_,hbb,cb0,cb1,hy⟩:=l8 HBK.out hjl;obtain ⟨yb,yd,rfl⟩:=hy.shape;have e1:pl=pa:=by rw [← HPL.out,hse]
             have e2:(v.brks.getD j bz).serv=sv:=by rw [← HSV.out,hse]
             have e3:(v.brks.getD j bz).wins.length=nw:=by rw [← HNW.out,hse]
             have e4:s.wins=(v.brks.getD j bz).wins:=by rw [hse]
             have HWB:Hid (WinsV w2 (.slice yb nw yd) s.wins):=by rw [e4,← e3];exact hy.on HE2w.out
             rw [e2] at cb1;rw [e3] at cb0;have HE1:=hide e1;have f1:(0:Int)≤(j:Int):=by omega
             have f2:(j:Int)<(lb:Int):=by have:=HLB.out;omega
             have f3:¬ (lb:Int)≤(j:Int):=by omega
             have ka10:z1.cell? ⟨w.heap.size+1+1,10,none⟩=some (.slice (some ⟨bb,boff,none⟩) lb bc):=((aA (below_on E2.out L1.out)).1 _ 10 (by rw [HWS.out];omega)).trans (HCV.out 10);have kv1:z1.cell? ⟨b,off+q*2+1,none⟩=some (.int .i64 (j:Int)):=(HLO.out _ L1.out).2;have kb0:z1.cell? ⟨bb,boff+j*2,none⟩=some (.slice yb nw yd):=((aA (below_on HE2w.out L1.out)).1 _ _ hbb).trans cb0;have kb1:z1.cell? ⟨bb,boff+j*2+1,none⟩=some (.int .i64 sv):=((aA (below_on HE2w.out L1.out)).1 _ _ hbb).trans cb1;have kx0:=cell_of_row _ x15 0 _ _ _ BX.out;have kf0:=frozen_of_row z1 x15 0 _ _ BX.out;have kx1:=cell_of_row _ x15 1 _ _ _ BX.out;have kf1:=frozen_of_row z1 x15 1 _ _ BX.out;have kx2:=cell_of_row _ x15 2 _ _ _ BX.out;have kf2:=frozen_of_row z1 x15 2 _ _ BX.out;simp only [List.getElem?_toArray,List.getElem?_cons_succ,List.getElem?_cons_zero] at kx0 kx1 kx2;have m1:¬ w.heap.size+1+1=x15:=by have h1:=HXL.out;have h2:=HSZ.out;omega
             have m2:¬ b=x15:=by have h1:=HXL.out;have h2:=HSZ.out;have h3:=HBB.out;omega
             have m3:¬ bb=x15:=by have h1:=HXL.out;have h2:=HSZ.out;omega
             have m1':¬ x15=w.heap.size+1+1:=fun e=>m1 e.symm;have m2':¬ x15=b:=fun e=>m2 e.symm;have m3':¬ x15=bb:=fun e=>m3 e.symm;clear e1 e2 e3 e4 hse hy hbb cb0 cb1 hjl h4;go_wp2_with fail
             first | (go_region_held3 (fun w'=>w'.cell? ⟨w.heap.size+1+1,10,none⟩=some (.slice (some ⟨bb,boff,none⟩) lb bc)∧w'.cell? ⟨b,off+q*2+1,none⟩=some (.int .i64 (j:Int))∧w'.cell? ⟨bb,boff+j*2,none⟩=some (.slice yb nw yd)∧w'.cell? ⟨bb,boff+j*2+1,none⟩=some (.int .i64 sv)) (go_keep) (fail)) | fail
             rename_i hHeld;clear hHeld;go_wp2_with fail;go_meet
             case rel =>
              have h0:=heap_setCell_same z1 x15 0 _ _ (.int .i64 pa) BX.out;have h1:=heap_setCell_same _ x15 1 _ _ (.int .i64 sv) h0;have h2:=heap_setCell_same _ x15 2 _ _ (.slice yb nw yd) h1;refine ⟨yb,yd,?_,?_,HWB.out⟩
              · show Below _ _ _
                repeat (first | (with_reducible exact K1.out) | (with_reducible refine Below.setCell ?_ hx15 _) | (with_reducible refine Below.drew ?_))
              · show _=_;rw [HE1.out];have h3:(((z1.setCell ⟨x15,0,none⟩ (.int .i64 pa)).setCell ⟨x15,1,none⟩ (.int .i64 sv)).setCell ⟨x15,2,none⟩ (.slice yb nw yd)).heap[x15]? = some (.cells #[.int .i64 pa,.int .i64 sv,.slice yb nw yd] 45):=by simpa using h2
                exact h3
         case rest =>
           obtain ⟨ya,yc,K2,BX2,HWN2⟩:=hcut;rename World=>z2;clear L1 HXX BX HWN K1 HQ1 HT1 HT0 H22b HNW0;have HPS2:=hide (HPS.out.on K2.out);have L2:Hid (Below w2.heap.size w2 z2):=HPS2.out.low;obtain ⟨g,gc,hbox,hgx,hrow⟩:=HPS2.out.box;have hlb:=tF (m:=p.time) HSO.out HSF.out (q+1);have htb:=dD HW.out.mt (aB p v V) (q+1);have hdb:=dD HW.out.md (aB p v V) (q+1);have hso:=HSO.out (q+1);have hs1:=eA (S:=(aB p v V)) HW.out.mt (q+1) (by omega);have hs2:=eA (S:=(aB p v V)) HW.out.md (q+1) (by omega);have hs3:=pK HW.out.mt HSO.out HSF.out (q+1) (by omega);have hs4:=pL HSO.out (q+1) (by omega);obtain ⟨tt,htt⟩:∃ z,aE p.time (aB p v V) (q+1)=z:=⟨_,rfl⟩;obtain ⟨td,htd⟩:∃ z,aE p.dist (aB p v V) (q+1)=z:=⟨_,rfl⟩;obtain ⟨T0,hT0⟩:∃ z,aH (aE p.time (aB p v V)) (q+1)=z:=⟨_,rfl⟩;obtain ⟨D0,hD0⟩:∃ z,aH (aE p.dist (aB p v V)) (q+1)=z:=⟨_,rfl⟩;obtain ⟨W0,hW0⟩:∃ z,aH (bW p.time (aB p v V) v.shift.1) (q+1)=z:=⟨_,rfl⟩;obtain ⟨S0,hS0⟩:∃ z,aH (fR (aB p v V)) (q+1)=z:=⟨_,rfl⟩;rw [hT0,hD0,hW0,hS0] at hbox;rw [hT0] at hs1;rw [hD0] at hs2;rw [hW0] at hs3;rw [hS0] at hs4;rw [HLF.out] at hlb;rw [htt] at htb;rw [htd] at hdb;rw [HSG.out] at hso;have HC1:Hid (aK p.time pa pl=tt):=by show _=_;rw [← htt,aJ,HPA.out,HSG.out,HPL.out]
           have HC2:Hid (aK p.dist pa pl=td):=by show _=_;rw [← htd,aJ,HPA.out,HSG.out,HPL.out]
           obtain ⟨bs,bo,hbg⟩:∃ bs bo,Hr.startM (lf+tt) s.wins=(bs,bo):=⟨_,_,rfl⟩;have hstk:=iF hso.1 (lf+tt);rw [hbg] at hstk;simp only at hstk;have hsb:=hso.2;rw [HSV.out] at hsb;have HAR:Hid (eQ p.time (aB p v V) v.shift.1 (q+1)=lf+tt):=by show _=_;unfold eQ;rw [HLF.out,htt]
           have HBG:Hid (dR p.time (aB p v V) v.shift.1 (q+1)=(bs,bo)):=by show _=_;unfold dR;rw [HAR.out,HSG.out,hbg]
           have HLS:Hid (lfM p.time (aB p v V) v.shift.1 (q+1+1)=bs+sv):=by show _=_;rw [eP,HBG.out,HSG.out,HSV.out]
           have HWT:Hid (bW p.time (aB p v V) v.shift.1 (q+1)=bs-(lf+tt)):=by show _=_;unfold bW;rw [HBG.out,HAR.out]
           have HSM:Hid (aH (aE p.time (aB p v V)) (q+1+1)=T0+tt∧aH (aE p.dist (aB p v V)) (q+1+1)=D0+td∧aH (bW p.time (aB p v V) v.shift.1) (q+1+1)=W0+bs-(lf+tt)∧aH (fR (aB p v V)) (q+1+1)=S0+sv):=by
             refine ⟨?_,?_,?_,?_⟩
             · show aH _ (q+1)+aE p.time (aB p v V) (q+1)=_;rw [hT0,htt]
             · show aH _ (q+1)+aE p.dist (aB p v V) (q+1)=_;rw [hD0,htd]
             · show aH _ (q+1)+bW p.time (aB p v V) v.shift.1 (q+1)=_;rw [hW0,HWT.out];omega
             · show aH _ (q+1)+((aB p v V).getD (q+1) sz).serv=_;rw [hS0,HSG.out,HSV.out]
           have H49:Hid (∀ W2,Below w2.heap.size w2 W2→Calls Try.prog 49 #[.slice ya nw yc,.int .i64 (lf+tt)] W2 fun e w'=>e=.returned (.tuple #[.int .i64 bs,.bool bo])∧w'=W2):=fun W2 hf=>by
             obtain ⟨a9,c9,e9,_,hA⟩:=HWN2.out.on hf;rw [HNW.out] at e9 hA;injection e9 with e91 _ e93;subst e91 e93;have h9:=Hr.rstart_any (c:=yc) (lf+tt) (u9 hA);rw [← Hr.rst_eq hso.1,hbg] at h9;exact h9
           have hwr:IntKind.i64.wrap (lf+tt)=lf+tt:=by rw [IntKind.wrap_i64];omega
           have hw2:IntKind.i64.wrap (T0+tt)=T0+tt:=by rw [IntKind.wrap_i64];omega
           have hw3:IntKind.i64.wrap (D0+td)=D0+td:=by rw [IntKind.wrap_i64];omega
           have hw4:IntKind.i64.wrap (W0+bs)=W0+bs:=by rw [IntKind.wrap_i64];omega
           have hw5:IntKind.i64.wrap (W0+bs-(lf+tt))=W0+bs-(lf+tt):=by rw [IntKind.wrap_i64];omega
           have hw6:IntKind.i64.wrap (S0+sv)=S0+sv:=by rw [IntKind.wrap_i64];omega
           have hw7:IntKind.i64.wrap (bs-(lf+tt))=bs-(lf+tt):=by rw [IntKind.wrap_i64];omega
           have hw8:IntKind.i64.wrap (bs+sv)=bs+sv:=by rw [IntKind.wrap_i64];omega
           have HSQ:Hid (True):=trivial;have HBOX:=hide hbox;have HROW:=hide hrow;have HGX:Hid (g≠w2.heap.size):=hgx;have HSOW:=hide hso.1;have HX15:Hid (w2.heap.size<x15):=by have h1:=HXL.out;show _<_;omega
           clear hbox hrow hgx htt htd hT0 hD0 hW0 hS0 hlb htb hdb hs1 hs2 hs3 hs4 hsb hstk hso hbg HSQ;have da1:z2.cell? ⟨w.heap.size,1,none⟩=some (.int .i64 p.time.n):=((aA (below_on E2.out L2.out)).1 _ 1 (by rw [HWS.out];omega)).trans (HC.out 1);have da2:z2.cell? ⟨w.heap.size,2,none⟩=some (.slice ta lt tc):=((aA (below_on E2.out L2.out)).1 _ 2 (by rw [HWS.out];omega)).trans (HC.out 2);have dx0:z2.cell? ⟨x15,0,none⟩=some (.int .i64 pl):=cell_of_row _ x15 0 _ _ _ BX2.out;go_wp2_with (first | (go_at_call 48;refine (H48t.out _ _ _ (below_on HE2w.out L2.out)).mono ?_;rintro e z3 ⟨rfl,k3⟩;rw [HC1.out];have K3:=hide k3;clear k3) | fail);clear da1 da2 dx0;have L3:Hid (Below w2.heap.size w2 z3):=below_on L2.out K3.out;have HXZ:Hid (x15<z2.heap.size):=aD BX2.out;have BX3:Hid (z3.heap[x15]? = some (.cells #[.int .i64 pl,.int .i64 sv,.slice ya nw yc] 45)):=(K3.out.block _ HXZ.out).trans BX2.out;have BO3:Hid (z3.heap[w2.heap.size]? = some (.cells (bV k (.slice (some ⟨g,0,none⟩) (q+1) gc) T0 D0 W0 S0 0) 71 (0,0))):=(K3.out.block _ HPS2.out.lt).trans HBOX.out;have ea1:z3.cell? ⟨w.heap.size,1,none⟩=some (.int .i64 p.time.n):=((aA (below_on E2.out L3.out)).1 _ 1 (by rw [HWS.out];omega)).trans (HC.out 1);have ea2:z3.cell? ⟨w.heap.size,2,none⟩=some (.slice ta lt tc):=((aA (below_on E2.out L3.out)).1 _ 2 (by rw [HWS.out];omega)).trans (HC.out 2);have ex0:z3.cell? ⟨x15,0,none⟩=some (.int .i64 pl):=cell_of_row _ x15 0 _ _ _ BX3.out;have eo:z3.cell? ⟨w2.heap.size,2,none⟩=some (.int .i64 T0):=cell_of_row _ w2.heap.size 2 _ _ _ BO3.out;have ef:=frozen_of_row z3 w2.heap.size 2 _ _ BO3.out;have hl1:w2.heap.size<z3.heap.size:=aD BO3.out;have hl2:x15<z3.heap.size:=aD BX3.out
           go_cut [] from 113 to 122 (fun wx=>Hid (z3.grownBy wx (some w2.heap.size))∧Hid (wx.heap[w2.heap.size]? = some (.cells (bV k (.slice (some ⟨g,0,none⟩) (q+1) gc) (T0+tt) D0 W0 S0 0) 71 (0,0))))
           case first =>
             refine wp_region_held_drew (S:=(fun w'=>w'.cell? ⟨w.heap.size,1,none⟩=some (.int .i64 p.time.n)∧w'.cell? ⟨w.heap.size,2,none⟩=some (.slice ta lt tc)∧w'.cell? ⟨x15,0,none⟩=some (.int .i64 pl))) (by kernel_rfl) ?_ (fun hHeld0=>?_)
             · (try dsimp only);go_keep
             refine Mn.t 0 ?_;(try simp only [Act.put,Mn.q]);refine Mn.t 2 ?_;(try simp only [Act.put,Mn.q]);refine Mn.t 3 ?_;(try simp only [Act.put,Mn.q]);refine Mn.t 4 ?_;(try simp only [Act.put,Mn.q]);refine Mn.t 5 ?_;(try simp only [Act.put,Mn.q]);refine Mn.t 6 ?_;(try simp only [Act.put,Mn.q]);refine wpAnyH_ready (rs:=[1,7]) (by kernel_rfl) (by simp) ?_;refine AllReadyH.cons rfl (fun K hK=>?_) ?_
             ·go_simp
              refine hK.out _ _ ?_ (fun hHeld1=>?_)
              · (try dsimp only);go_keep
              clear hK K;(try simp only [Act.put,Mn.q]);clear hHeld0;refine wpAnyH_ready (rs:=[7]) (by kernel_rfl) (by simp) ?_;refine AllReadyH.cons rfl (fun K hK=>?_) ?_
              ·(refine aG (by rfl) 48 _ _ (by rfl) kR [.agg #[.int .i64 p.time.n,.slice ta lt tc],.int .i64 pa,.int .i64 pl] (by rfl) ?_;refine (H48t.out _ _ _ (below_on HE2w.out (below_on L3.out ((Below.refl _ _).drew)))).mono ?_;rintro e z4 ⟨rfl,kc⟩;refine ⟨_,rfl,?_⟩;rw [HC1.out];have KC:=hide (below_on ((Below.refl _ _).drew) kc);have LC:=hide (below_on L3.out KC.out);have fa1:z4.cell? ⟨w.heap.size,1,none⟩=some (.int .i64 p.time.n):=((aA (below_on E2.out LC.out)).1 _ 1 (by rw [HWS.out];omega)).trans (HC.out 1);have fa2:z4.cell? ⟨w.heap.size,2,none⟩=some (.slice ta lt tc):=((aA (below_on E2.out LC.out)).1 _ 2 (by rw [HWS.out];omega)).trans (HC.out 2);have BXC:=hide ((KC.out.block _ hl2).trans BX3.out);have fx0:z4.cell? ⟨x15,0,none⟩=some (.int .i64 pl):=cell_of_row _ x15 0 _ _ _ BXC.out;have BOC:=hide ((KC.out.block _ hl1).trans BO3.out);have fo:z4.cell? ⟨w2.heap.size,2,none⟩=some (.int .i64 T0):=cell_of_row _ w2.heap.size 2 _ _ _ BOC.out;have ff:=frozen_of_row z4 w2.heap.size 2 _ _ BOC.out;have nx0:¬ w.heap.size=w2.heap.size:=(by have:=HSZ.out;omega);have nx1:¬ w2.heap.size=w.heap.size:=(by omega);have nx2:¬ x15=w2.heap.size:=(by have:=HX15.out;omega);have nx3:¬ w2.heap.size=x15:=(by omega);clear kc)
               refine hK.out _ _ ?_ (fun hHeld2=>?_)
               · (try dsimp only);go_keep
               clear hK K;(try simp only [Act.put,Mn.q]);clear hHeld1;refine Mn.t 8 ?_;(try simp only [Act.put,Mn.q]);refine Mn.t 9 ?_;(try simp only [Act.put,Mn.q]);refine wpAnyH_ready (rs:=[10]) (by kernel_rfl) (by simp) ?_;refine AllReadyH.cons rfl (fun K hK=>?_) ?_
               ·go_simp
                refine hK.out _ _ ?_ (fun hHeld3=>?_)
                · (try dsimp only);go_keep
                clear hK K;(try simp only [Act.put,Mn.q]);clear hHeld2;refine wpAnyH_done (by kernel_rfl) ?_ _;clear hHeld3;go_wp2_with fail;go_meet
                case rel=>exact ⟨aZ (bQ KC.out) _ _,heap_setCell_same z4 w2.heap.size 2 _ _ _ BOC.out⟩
               exact AllReadyH.nil
              exact AllReadyH.nil
             refine AllReadyH.cons rfl (fun K hK=>?_) ?_
             ·(refine aG (by rfl) 48 _ _ (by rfl) kR [.agg #[.int .i64 p.time.n,.slice ta lt tc],.int .i64 pa,.int .i64 pl] (by rfl) ?_;refine (H48t.out _ _ _ (below_on HE2w.out (below_on L3.out ((Below.refl _ _).drew)))).mono ?_;rintro e z4 ⟨rfl,kc⟩;refine ⟨_,rfl,?_⟩;rw [HC1.out];have KC:=hide (below_on ((Below.refl _ _).drew) kc);have LC:=hide (below_on L3.out KC.out);have fa1:z4.cell? ⟨w.heap.size,1,none⟩=some (.int .i64 p.time.n):=((aA (below_on E2.out LC.out)).1 _ 1 (by rw [HWS.out];omega)).trans (HC.out 1);have fa2:z4.cell? ⟨w.heap.size,2,none⟩=some (.slice ta lt tc):=((aA (below_on E2.out LC.out)).1 _ 2 (by rw [HWS.out];omega)).trans (HC.out 2);have BXC:=hide ((KC.out.block _ hl2).trans BX3.out);have fx0:z4.cell? ⟨x15,0,none⟩=some (.int .i64 pl):=cell_of_row _ x15 0 _ _ _ BXC.out;have BOC:=hide ((KC.out.block _ hl1).trans BO3.out);have fo:z4.cell? ⟨w2.heap.size,2,none⟩=some (.int .i64 T0):=cell_of_row _ w2.heap.size 2 _ _ _ BOC.out;have ff:=frozen_of_row z4 w2.heap.size 2 _ _ BOC.out;have nx0:¬ w.heap.size=w2.heap.size:=(by have:=HSZ.out;omega);have nx1:¬ w2.heap.size=w.heap.size:=(by omega);have nx2:¬ x15=w2.heap.size:=(by have:=HX15.out;omega);have nx3:¬ w2.heap.size=x15:=(by omega);clear kc)
              refine hK.out _ _ ?_ (fun hHeld4=>?_)
              · (try dsimp only);go_keep
              clear hK K;(try simp only [Act.put,Mn.q]);clear hHeld0;refine wpAnyH_ready (rs:=[1]) (by kernel_rfl) (by simp) ?_;refine AllReadyH.cons rfl (fun K hK=>?_) ?_
              ·go_simp
               refine hK.out _ _ ?_ (fun hHeld5=>?_)
               · (try dsimp only);go_keep
               clear hK K;(try simp only [Act.put,Mn.q]);clear hHeld4;refine Mn.t 8 ?_;(try simp only [Act.put,Mn.q]);refine Mn.t 9 ?_;(try simp only [Act.put,Mn.q]);refine wpAnyH_ready (rs:=[10]) (by kernel_rfl) (by simp) ?_;refine AllReadyH.cons rfl (fun K hK=>?_) ?_
               ·go_simp
                refine hK.out _ _ ?_ (fun hHeld6=>?_)
                · (try dsimp only);go_keep
                clear hK K;(try simp only [Act.put,Mn.q]);clear hHeld5;refine wpAnyH_done (by kernel_rfl) ?_ _;clear hHeld6;go_wp2_with fail;go_meet
                case rel=>exact ⟨aZ (bQ KC.out) _ _,heap_setCell_same z4 w2.heap.size 2 _ _ _ BOC.out⟩
               exact AllReadyH.nil
              exact AllReadyH.nil
             exact AllReadyH.nil
           case rest =>
             obtain ⟨G5,BO5⟩:=hcut;clear ea1 ea2 ex0 eo ef hl1 hl2;rename World=>z5;have L5:Hid (Below w2.heap.size w2 z5):=L3.out.trans (bD G5.out (Nat.le_refl _) L3.out.size);have BX5:Hid (z5.heap[x15]? = some (.cells #[.int .i64 pl,.int .i64 sv,.slice ya nw yc] 45)):=(G5.out.block _ (aD BX3.out) (fun e=>by injection e with e;have:=HX15.out;omega)).trans BX3.out;go_wp2_with fail;have ea3:z5.cell? ⟨w.heap.size,3,none⟩=some (.int .i64 p.dist.n):=((aA (below_on E2.out L5.out)).1 _ 3 (by rw [HWS.out];omega)).trans (HC.out 3);have ea4:z5.cell? ⟨w.heap.size,4,none⟩=some (.slice da ld dc):=((aA (below_on E2.out L5.out)).1 _ 4 (by rw [HWS.out];omega)).trans (HC.out 4);have ex0:z5.cell? ⟨x15,0,none⟩=some (.int .i64 pl):=cell_of_row _ x15 0 _ _ _ BX5.out;have eo:z5.cell? ⟨w2.heap.size,3,none⟩=some (.int .i64 D0):=cell_of_row _ w2.heap.size 3 _ _ _ BO5.out;have ef:=frozen_of_row z5 w2.heap.size 3 _ _ BO5.out;have hl1:w2.heap.size<z5.heap.size:=aD BO5.out;have hl2:x15<z5.heap.size:=aD BX5.out
             go_cut [] from 123 to 132 (fun wx=>Hid (z5.grownBy wx (some w2.heap.size))∧Hid (wx.heap[w2.heap.size]? = some (.cells (bV k (.slice (some ⟨g,0,none⟩) (q+1) gc) (T0+tt) (D0+td) W0 S0 0) 71 (0,0))))
             case first =>
               refine wp_region_held_drew (S:=(fun w'=>w'.cell? ⟨w.heap.size,3,none⟩=some (.int .i64 p.dist.n)∧w'.cell? ⟨w.heap.size,4,none⟩=some (.slice da ld dc)∧w'.cell? ⟨x15,0,none⟩=some (.int .i64 pl))) (by kernel_rfl) ?_ (fun hHeld0=>?_)
               · (try dsimp only);go_keep
               refine Mn.t 0 ?_;(try simp only [Act.put,Mn.q]);refine Mn.t 2 ?_;(try simp only [Act.put,Mn.q]);refine Mn.t 3 ?_;(try simp only [Act.put,Mn.q]);refine Mn.t 4 ?_;(try simp only [Act.put,Mn.q]);refine Mn.t 5 ?_;(try simp only [Act.put,Mn.q]);refine Mn.t 6 ?_;(try simp only [Act.put,Mn.q]);refine wpAnyH_ready (rs:=[1,7]) (by kernel_rfl) (by simp) ?_;refine AllReadyH.cons rfl (fun K hK=>?_) ?_
               ·go_simp
                refine hK.out _ _ ?_ (fun hHeld1=>?_)
                · (try dsimp only);go_keep
                clear hK K;(try simp only [Act.put,Mn.q]);clear hHeld0;refine wpAnyH_ready (rs:=[7]) (by kernel_rfl) (by simp) ?_;refine AllReadyH.cons rfl (fun K hK=>?_) ?_
                ·(refine aG (by rfl) 48 _ _ (by rfl) kR [.agg #[.int .i64 p.dist.n,.slice da ld dc],.int .i64 pa,.int .i64 pl] (by rfl) ?_;refine (H48d.out _ _ _ (below_on HE2w.out (below_on L5.out ((Below.refl _ _).drew)))).mono ?_;rintro e z6 ⟨rfl,kc⟩;refine ⟨_,rfl,?_⟩;rw [HC2.out];have KC:=hide (below_on ((Below.refl _ _).drew) kc);have LC:=hide (below_on L5.out KC.out);have fa3:z6.cell? ⟨w.heap.size,3,none⟩=some (.int .i64 p.dist.n):=((aA (below_on E2.out LC.out)).1 _ 3 (by rw [HWS.out];omega)).trans (HC.out 3);have fa4:z6.cell? ⟨w.heap.size,4,none⟩=some (.slice da ld dc):=((aA (below_on E2.out LC.out)).1 _ 4 (by rw [HWS.out];omega)).trans (HC.out 4);have BXC:=hide ((KC.out.block _ hl2).trans BX5.out);have fx0:z6.cell? ⟨x15,0,none⟩=some (.int .i64 pl):=cell_of_row _ x15 0 _ _ _ BXC.out;have BOC:=hide ((KC.out.block _ hl1).trans BO5.out);have fo:z6.cell? ⟨w2.heap.size,3,none⟩=some (.int .i64 D0):=cell_of_row _ w2.heap.size 3 _ _ _ BOC.out;have ff:=frozen_of_row z6 w2.heap.size 3 _ _ BOC.out;have nx0:¬ w.heap.size=w2.heap.size:=(by have:=HSZ.out;omega);have nx1:¬ w2.heap.size=w.heap.size:=(by omega);have nx2:¬ x15=w2.heap.size:=(by have:=HX15.out;omega);have nx3:¬ w2.heap.size=x15:=(by omega);clear kc)
                 refine hK.out _ _ ?_ (fun hHeld2=>?_)
                 · (try dsimp only);go_keep
                 clear hK K;(try simp only [Act.put,Mn.q]);clear hHeld1;refine Mn.t 8 ?_;(try simp only [Act.put,Mn.q]);refine Mn.t 9 ?_;(try simp only [Act.put,Mn.q]);refine wpAnyH_ready (rs:=[10]) (by kernel_rfl) (by simp) ?_;refine AllReadyH.cons rfl (fun K hK=>?_) ?_
                 ·go_simp
                  refine hK.out _ _ ?_ (fun hHeld3=>?_)
                  · (try dsimp only);go_keep
                  clear hK K;(try simp only [Act.put,Mn.q]);clear hHeld2;refine wpAnyH_done (by kernel_rfl) ?_ _;clear hHeld3;go_wp2_with fail;go_meet
                  case rel=>exact ⟨aZ (bQ KC.out) _ _,heap_setCell_same z6 w2.heap.size 3 _ _ _ BOC.out⟩
                 exact AllReadyH.nil
                exact AllReadyH.nil
               refine AllReadyH.cons rfl (fun K hK=>?_) ?_
               ·(refine aG (by rfl) 48 _ _ (by rfl) kR [.agg #[.int .i64 p.dist.n,.slice da ld dc],.int .i64 pa,.int .i64 pl] (by rfl) ?_;refine (H48d.out _ _ _ (below_on HE2w.out (below_on L5.out ((Below.refl _ _).drew)))).mono ?_;rintro e z6 ⟨rfl,kc⟩;refine ⟨_,rfl,?_⟩;rw [HC2.out];have KC:=hide (below_on ((Below.refl _ _).drew) kc);have LC:=hide (below_on L5.out KC.out);have fa3:z6.cell? ⟨w.heap.size,3,none⟩=some (.int .i64 p.dist.n):=((aA (below_on E2.out LC.out)).1 _ 3 (by rw [HWS.out];omega)).trans (HC.out 3);have fa4:z6.cell? ⟨w.heap.size,4,none⟩=some (.slice da ld dc):=((aA (below_on E2.out LC.out)).1 _ 4 (by rw [HWS.out];omega)).trans (HC.out 4);have BXC:=hide ((KC.out.block _ hl2).trans BX5.out);have fx0:z6.cell? ⟨x15,0,none⟩=some (.int .i64 pl):=cell_of_row _ x15 0 _ _ _ BXC.out;have BOC:=hide ((KC.out.block _ hl1).trans BO5.out);have fo:z6.cell? ⟨w2.heap.size,3,none⟩=some (.int .i64 D0):=cell_of_row _ w2.heap.size 3 _ _ _ BOC.out;have ff:=frozen_of_row z6 w2.heap.size 3 _ _ BOC.out;have nx0:¬ w.heap.size=w2.heap.size:=(by have:=HSZ.out;omega);have nx1:¬ w2.heap.size=w.heap.size:=(by omega);have nx2:¬ x15=w2.heap.size:=(by have:=HX15.out;omega);have nx3:¬ w2.heap.size=x15:=(by omega);clear kc)
                refine hK.out _ _ ?_ (fun hHeld4=>?_)
                · (try dsimp only);go_keep
                clear hK K;(try simp only [Act.put,Mn.q]);clear hHeld0;refine wpAnyH_ready (rs:=[1]) (by kernel_rfl) (by simp) ?_;refine AllReadyH.cons rfl (fun K hK=>?_) ?_
                ·go_simp
                 refine hK.out _ _ ?_ (fun hHeld5=>?_)
                 · (try dsimp only);go_keep
                 clear hK K;(try simp only [Act.put,Mn.q]);clear hHeld4;refine Mn.t 8 ?_;(try simp only [Act.put,Mn.q]);refine Mn.t 9 ?_;(try simp only [Act.put,Mn.q]);refine wpAnyH_ready (rs:=[10]) (by kernel_rfl) (by simp) ?_;refine AllReadyH.cons rfl (fun K hK=>?_) ?_
                 ·go_simp
                  refine hK.out _ _ ?_ (fun hHeld6=>?_)
                  · (try dsimp only);go_keep
                  clear hK K;(try simp only [Act.put,Mn.q]);clear hHeld5;refine wpAnyH_done (by kernel_rfl) ?_ _;clear hHeld6;go_wp2_with fail;go_meet
                  case rel=>exact ⟨aZ (bQ KC.out) _ _,heap_setCell_same z6 w2.heap.size 3 _ _ _ BOC.out⟩
                 exact AllReadyH.nil
                exact AllReadyH.nil
               exact AllReadyH.nil
             case rest =>
               obtain ⟨G7,BO7⟩:=hcut;clear ea3 ea4 ex0 eo ef hl1 hl2;rename World=>z7;have L7:Hid (Below w2.heap.size w2 z7):=L5.out.trans (bD G7.out (Nat.le_refl _) L5.out.size);have BX7:Hid (z7.heap[x15]? = some (.cells #[.int .i64 pl,.int .i64 sv,.slice ya nw yc] 45)):=(G7.out.block _ (aD BX5.out) (fun e=>by injection e with e;have:=HX15.out;omega)).trans BX5.out;have dx2:z7.cell? ⟨x15,2,none⟩=some (.slice ya nw yc):=cell_of_row _ x15 2 _ _ _ BX7.out
               cases bo with
               | false =>
                 have HE:Hid (dI p v V=167∧(bif decide (dI p v V=0) then dK p k v V else planZ)=planZ):=xC HFM.out (sG (j:=q+1) (by rw [HM.out];omega) (by rw [HBG.out]));obtain ⟨ac0,ac1,ac2,ac3,ac4,ac5,ac6⟩:=Mn.c7 ((fJ HX6.out (below_on E2.out L7.out) HX3.out).1);obtain ⟨af0,af1,af2,af3,af4,af5,af6⟩:=Mn.z7 ((fJ HX6.out (below_on E2.out L7.out) HX3.out).2);go_wp2_with (first | (go_at_call 49;refine (H49.out _ L7.out).mono ?_;rintro e z8 ⟨rfl,hz8⟩;rw [hz8];clear hz8) | fail);refine bodyPost_ret (v:=.tuple #[.agg #[.int .i64 0,.slice none 0 0,.int .i64 0,.int .i64 0,.int .i64 0,.int .i64 0,.int .i64 0],.int .i64 167]) ?_ rfl (OfQ.bad HE.out ?_)
                 · simp [results,Try.results38,go_sem, *]
                 · (have HBE:=below_on HBW.out (below_on E2.out L7.out);repeat (first | (with_reducible exact HBE) | (with_reducible refine Below.setCell ?_ (by simp) _) | (with_reducible refine Below.drew ?_)))
               | true =>
                 have x4:z7.cell? ⟨w2.heap.size,4,none⟩=some (.int .i64 W0):=cell_of_row _ w2.heap.size 4 _ _ _ BO7.out;have xf4:=frozen_of_row z7 w2.heap.size 4 _ _ BO7.out;have x5:z7.cell? ⟨w2.heap.size,5,none⟩=some (.int .i64 S0):=cell_of_row _ w2.heap.size 5 _ _ _ BO7.out;have xf5:=frozen_of_row z7 w2.heap.size 5 _ _ BO7.out;have dx1:z7.cell? ⟨x15,1,none⟩=some (.int .i64 sv):=cell_of_row _ x15 1 _ _ _ BX7.out;have ny:¬ x15=w2.heap.size:=by have:=HX15.out;omega
                 have ny':¬ w2.heap.size=x15:=by have:=HX15.out;omega
                 go_wp2_with (first | (go_at_call 49;refine (H49.out _ L7.out).mono ?_;rintro e z8 ⟨rfl,hz8⟩;rw [hz8];clear hz8) | fail);obtain ⟨Z,hZ⟩:∃ Z,Z=(z7.setCell ⟨w2.heap.size,4,none⟩ (.int .i64 (W0+bs-(lf+tt)))).setCell ⟨w2.heap.size,5,none⟩ (.int .i64 (S0+sv)):=⟨_,rfl⟩;rw [← hZ];have G77:Hid (z7.grownBy Z (some w2.heap.size)):=by rw [hZ];exact aZ (aZ (cD _ _) _ _) _ _
                 have GZ:Hid (z2.grownBy Z (some w2.heap.size)):=dX (dX (dX (bQ K3.out) G5.out) G7.out) G77.out;have BOZ:Hid (Z.heap[w2.heap.size]? = some (.cells (bV k (.slice (some ⟨g,0,none⟩) (q+1) gc) (T0+tt) (D0+td) (W0+bs-(lf+tt)) (S0+sv) 0) 71 (0,0))):=by rw [hZ];exact heap_setCell_same _ w2.heap.size 5 _ _ _ (heap_setCell_same z7 w2.heap.size 4 _ _ _ BO7.out)
                 have BXZ:Hid (Z.heap[x15]? = some (.cells #[.int .i64 pl,.int .i64 sv,.slice ya nw yc] 45)):=(G77.out.block _ (aD BX7.out) (fun e=>by injection e with e;have:=HX15.out;omega)).trans BX7.out;have LZ:Hid (Below w2.heap.size w2 Z):=L7.out.trans (bD G77.out (Nat.le_refl _) L7.out.size);clear hZ x4 x5 xf4 xf5 dx1 dx2;have hxq:((List.range M).map (bY p dd V))[q+1]? = some (bY p dd V (q+1)):=by rw [List.getElem?_map,List.getElem?_range (show q+1<M by have:=HMM.out;omega)];rfl
                 obtain ⟨g1,y1v,he1,hg1,hy1,hc1,hr1⟩:=iJ HR2.out hxq;injection he1 with he1;injection he1 with he1;subst he1;obtain ⟨lb1,lcp1,rfl⟩:=IRow.shape hr1;rw [m4] at hy1 hc1 hr1;have HLZ:Hid (IRow Z w1.heap.size (.slice lb1 dd lcp1) (bY p dd V (q+1))):=hr1.later (Nat.le_refl _) LZ.out;have HY1:=hide hy1;have HLI1:Hid (∀ g,(Value.slice lb1 dd lcp1).ownBlock=some g→g<w2.heap.size):=fun g h9=>jQ hr1 g h9;have HYB:Hid (∀ y ∈ ys,∀ g,y.ownBlock=some g→g≠w2.heap.size):=fun y hy g hg=>by have h1:=RowS.inH HR2.out y hy g hg;omega
                 have HRZ:Hid (StpR Z w1.heap.size w2.heap.size (.slice (some ⟨g,0,none⟩) (q+1) gc) ((List.range (q+1)).map (bG p dd v.shift.1 V (aB p v V))) (ys.take (q+1))):=gE HROW.out GZ.out (fun g2 h9=>by rw [← cF h9];exact HGX.out) (fun y hy=>HYB.out y (List.mem_of_mem_take hy));have HGA:Hid (w2.heap.size≤g):=(World.ownsRow.lt HROW.out.own g rfl).1;have zX1:Z.cell? ⟨w2.heap.size,1,none⟩=some (.slice (some ⟨g,0,none⟩) (q+1) gc):=cell_of_row _ w2.heap.size 1 _ _ _ BOZ.out;have zX2:Z.cell? ⟨w2.heap.size,2,none⟩=some (.int .i64 (T0+tt)):=cell_of_row _ w2.heap.size 2 _ _ _ BOZ.out;have zX3:Z.cell? ⟨w2.heap.size,3,none⟩=some (.int .i64 (D0+td)):=cell_of_row _ w2.heap.size 3 _ _ _ BOZ.out;have zY0:Z.cell? ⟨x15,0,none⟩=some (.int .i64 pl):=cell_of_row _ x15 0 _ _ _ BXZ.out;have zY1:Z.cell? ⟨x15,1,none⟩=some (.int .i64 sv):=cell_of_row _ x15 1 _ _ _ BXZ.out;have zP0:Z.cell? ⟨b,off+q*2,none⟩=some (.int .i64 kd):=(HLO.out _ LZ.out).1;have zP1:Z.cell? ⟨b,off+q*2+1,none⟩=some (.int .i64 it):=(HLO.out _ LZ.out).2;have zL0:Z.cell? ⟨ag,q+1,none⟩=some (.slice lb1 dd lcp1):=((aA LZ.out).1 _ _ hg1).trans hc1;have lX2:w2.heap.size<Z.heap.size:=aD BOZ.out;have lY0:x15<Z.heap.size:=aD BXZ.out;have lP0:b<Z.heap.size:=by have:=HBB.out;have:=HSZ.out;omega
                 have lL0:ag<Z.heap.size:=by omega
                 have hgl:g<z2.heap.size:=(World.ownsRow.lt HROW.out.own g rfl).2;have np6:¬ b=w2.heap.size:=by have:=HBB.out;have:=HSZ.out;omega
                 have np6':¬ w2.heap.size=b:=fun e=>np6 e.symm;have nl6:¬ ag=w2.heap.size:=by omega
                 have nl6':¬ w2.heap.size=ag:=by omega
                 have HGW:Hid (g<wr.heap.size):=by
                   obtain ⟨g9,gc9,hb9,_,hr9⟩:=HPS.out.box;have h8:=K2.out.block w2.heap.size HPS.out.lt;rw [hb9] at h8;have h7:=(K3.out.block _ HPS2.out.lt).symm.trans BO3.out;rw [h8] at h7;injection h7 with h7;injection h7 with h7;unfold bV at h7;simp at h7;have h6:=h7.1.1;have h5:=(World.ownsRow.lt hr9.own g9 rfl).2;show g<_
                   omega
                 have HNG:Hid (w2.heap.size≠g∧x15≠g∧b≠g∧ag≠g):=⟨fun e=>HGX.out e.symm,by have:=HGW.out;omega,by have:=HGA.out;have:=HBB.out;have:=HSZ.out;omega,by have:=HGA.out;omega⟩;have HAPT:Hid (Apt (.slice (some ⟨g,0,none⟩) (q+1) gc) (.slice lb1 dd lcp1)):=fun g2 h8 h9=>by have h1:=cF h8;have h2:=HLI1.out g2 h9;have h3:=HGA.out;omega
                 have HQB:Hid (((List.range (q+1)).map (bG p dd v.shift.1 V (aB p v V))).length=q+1):=by show _=_;simp
                 have HSTP:Hid (bG p dd v.shift.1 V (aB p v V) (q+1)=⟨kd,it,pl,lf+tt,bs-(lf+tt),sv,bY p dd V (q+1),T0+tt,D0+td⟩):=by show _=_;rw [step_at HL.out HDD.out HU.out,HAR.out,HWT.out,HSG.out,HPL.out,HSV.out,HSM.out.1,HSM.out.2.1]
                 have iq1:(q:Int)+1<(M:Int):=by have:=HMM.out;omega
                 have iq2:q+1<M:=by omega
                 have iq3:(0:Int)≤(q:Int)+1:=by omega
                 have iq4:¬ (M:Int)≤(q:Int)+1:=by omega
                 have hwq:IntKind.i64.wrap ((q:Int)+1)=(q:Int)+1:=by rw [IntKind.wrap_i64];omega
                 clear hy1 hc1 hr1 hxq hwr hw2 hw3 hw4 hw5 hw6 hsh hfx hpt hpd
                 go_cut [] from 156 to 182 (fun wx=>Hid (PlnS w2 w1.heap.size w2.heap.size k (ys.take (q+1+1)) ((List.range (q+1+1)).map (bG p dd v.shift.1 V (aB p v V))) (T0+tt) (D0+td) (W0+bs-(lf+tt)) (S0+sv) (q+1+1) wx)∧Hid (wx.heap[x15]? = some (.cells #[.int .i64 pl,.int .i64 sv,.slice ya nw yc] 45)))
                 case first =>
                   refine wp_region_held_drew (S:=(fun w'=>w'.cell? ⟨b,off+q*2,none⟩=some (.int .i64 kd)∧w'.cell? ⟨b,off+q*2+1,none⟩=some (.int .i64 it)∧w'.cell? ⟨x15,0,none⟩=some (.int .i64 pl)∧w'.cell? ⟨x15,1,none⟩=some (.int .i64 sv)∧w'.cell? ⟨ag,q+1,none⟩=some (.slice lb1 dd lcp1)∧w'.cell? ⟨w2.heap.size,2,none⟩=some (.int .i64 (T0+tt))∧w'.cell? ⟨w2.heap.size,3,none⟩=some (.int .i64 (D0+td)))) (by kernel_rfl) ?_ (fun hHeld0=>?_)
                   · (try dsimp only);go_keep
                   refine Mn.t 0 ?_;(try simp only [Act.put,Mn.q]);refine Mn.t 2 ?_;(try simp only [Act.put,Mn.q]);refine Mn.t 3 ?_;(try simp only [Act.put,Mn.q]);refine Mn.t 4 ?_;(try simp only [Act.put,Mn.q]);refine Mn.t 5 ?_;(try simp only [Act.put,Mn.q]);refine Mn.t 6 ?_;(try simp only [Act.put,Mn.q]);refine Mn.t 7 ?_;(try simp only [Act.put,Mn.q]);refine Mn.t 8 ?_;(try simp only [Act.put,Mn.q]);refine Mn.t 9 ?_;(try simp only [Act.put,Mn.q]);refine Mn.t 10 ?_;(try simp only [Act.put,Mn.q]);refine Mn.t 11 ?_;(try simp only [Act.put,Mn.q]);refine Mn.t 12 ?_;(try simp only [Act.put,Mn.q]);refine Mn.t 13 ?_;(try simp only [Act.put,Mn.q]);refine Mn.t 14 ?_;(try simp only [Act.put,Mn.q]);refine Mn.t 15 ?_;(try simp only [Act.put,Mn.q]);refine Mn.t 16 ?_;(try simp only [Act.put,Mn.q]);refine Mn.t 17 ?_;(try simp only [Act.put,Mn.q]);refine Mn.t 18 ?_;(try simp only [Act.put,Mn.q]);refine Mn.t 19 ?_;(try simp only [Act.put,Mn.q]);refine Mn.t 20 ?_;(try simp only [Act.put,Mn.q]);refine Mn.t 21 ?_;(try simp only [Act.put,Mn.q]);refine Mn.t 22 ?_;(try simp only [Act.put,Mn.q]);refine Mn.t 23 ?_;(try simp only [Act.put,Mn.q]);refine wpAnyH_ready (rs:=[1,24]) (by kernel_rfl) (by simp) ?_;refine AllReadyH.cons rfl (fun K hK=>?_) ?_
                   ·go_simp
                    refine hK.out _ _ ?_ (fun hHeld1=>?_)
                    · (try dsimp only);go_keep
                    clear hK K;(try simp only [Act.put,Mn.q]);clear hHeld0;refine wpAnyH_ready (rs:=[24]) (by kernel_rfl) (by simp) ?_;refine AllReadyH.cons rfl (fun K hK=>?_) ?_
                    ·go_simp
                     refine hK.out _ _ ?_ (fun hHeld2=>?_)
                     · (try dsimp only);go_keep
                     clear hK K;(try simp only [Act.put,Mn.q]);clear hHeld1;refine wpAnyH_ready (rs:=[25]) (by kernel_rfl) (by simp) ?_;refine AllReadyH.cons rfl (fun K hK=>?_) ?_
                     ·(refine g7 (Z:=Z) (X:=(Z.alloc (.cells #[.int .i64 kd,.int .i64 it,.int .i64 pl,.int .i64 (lf+tt),.int .i64 (bs-(lf+tt)),.int .i64 sv,.slice lb1 dd lcp1,.int .i64 (T0+tt),.int .i64 (D0+td)] 88)).drew) (cells:=#[.int .i64 kd,.int .i64 it,.int .i64 pl,.int .i64 (lf+tt),.int .i64 (bs-(lf+tt)),.int .i64 sv,.slice lb1 dd lcp1,.int .i64 (T0+tt),.int .i64 (D0+td)]) (L:=(List.range (q+1)).map (bG p dd v.shift.1 V (aB p v V))) (ys:=ys.take (q+1)) (base:=w1.heap.size) (b2:=w2.heap.size) (.tmp 157) (.tmp 180) rfl rfl rfl rfl (((Below.refl Z.heap.size Z).alloc (Nat.le_refl _) _).drew) (aF Z _) (st:=⟨kd,it,pl,lf+tt,bs-(lf+tt),sv,bY p dd V (q+1),T0+tt,D0+td⟩) rfl HRZ.out HQB.out (by omega) (Nat.le_of_lt lX2) HLZ.out HAPT.out ?_;intro g3 cp3 wA r1 hgb r3 r4;have aP0:wA.cell? ⟨b,off+q*2,none⟩=some (.int .i64 kd):=(World.cell?_of_block (a:=⟨b,off+q*2,none⟩) (hgb b lP0 HNG.out.2.2.1)).trans zP0;have aP1:wA.cell? ⟨b,off+q*2+1,none⟩=some (.int .i64 it):=(World.cell?_of_block (a:=⟨b,off+q*2+1,none⟩) (hgb b lP0 HNG.out.2.2.1)).trans zP1;have aY0:wA.cell? ⟨x15,0,none⟩=some (.int .i64 pl):=(World.cell?_of_block (a:=⟨x15,0,none⟩) (hgb x15 lY0 HNG.out.2.1)).trans zY0;have aY1:wA.cell? ⟨x15,1,none⟩=some (.int .i64 sv):=(World.cell?_of_block (a:=⟨x15,1,none⟩) (hgb x15 lY0 HNG.out.2.1)).trans zY1;have aL0:wA.cell? ⟨ag,q+1,none⟩=some (.slice lb1 dd lcp1):=(World.cell?_of_block (a:=⟨ag,q+1,none⟩) (hgb ag lL0 HNG.out.2.2.2)).trans zL0;have aX2:wA.cell? ⟨w2.heap.size,2,none⟩=some (.int .i64 (T0+tt)):=(World.cell?_of_block (a:=⟨w2.heap.size,2,none⟩) (hgb w2.heap.size lX2 HNG.out.1)).trans zX2;have aX3:wA.cell? ⟨w2.heap.size,3,none⟩=some (.int .i64 (D0+td)):=(World.cell?_of_block (a:=⟨w2.heap.size,3,none⟩) (hgb w2.heap.size lX2 HNG.out.1)).trans zX3;have aX1:wA.cell? ⟨w2.heap.size,1,none⟩=some (.slice (some ⟨g,0,none⟩) (q+1) gc):=(World.cell?_of_block (a:=⟨w2.heap.size,1,none⟩) (hgb w2.heap.size lX2 HNG.out.1)).trans zX1;have HBA:=hide ((hgb w2.heap.size lX2 HNG.out.1).trans BOZ.out);have HBXA:=hide ((hgb x15 lY0 HNG.out.2.1).trans BXZ.out);have aF1:=frozen_of_row wA w2.heap.size 1 _ _ HBA.out;have aW2:∀ v,(wA.setCell ⟨w2.heap.size,1,none⟩ v).cell? ⟨w2.heap.size,2,none⟩=some (.int .i64 (T0+tt)):=(fun v=>cell_of_row _ w2.heap.size 2 _ _ _ (heap_setCell_same wA w2.heap.size 1 _ _ _ HBA.out));have aW3:∀ v,(wA.setCell ⟨w2.heap.size,1,none⟩ v).cell? ⟨w2.heap.size,3,none⟩=some (.int .i64 (D0+td)):=(fun v=>cell_of_row _ w2.heap.size 3 _ _ _ (heap_setCell_same wA w2.heap.size 1 _ _ _ HBA.out));have HRA:=hide r1;have HG3:Hid (g3≠w2.heap.size):=(by rcases r3 with e | e;rw [e];exact HGX.out;show _≠_;omega);have LA:Hid (Below w2.heap.size w2 wA):=LZ.out.trans r4;clear r1 r3 r4 hgb)
                      refine hK.out _ _ ?_ (fun hHeld3=>?_)
                      · (try dsimp only);go_keep
                      clear hK K;(try simp only [Act.put,Mn.q]);clear hHeld2;refine Mn.t 26 ?_;(try simp only [Act.put,Mn.q]);refine wpAnyH_ready (rs:=[27]) (by kernel_rfl) (by simp) ?_;refine AllReadyH.cons rfl (fun K hK=>?_) ?_
                      ·go_simp
                       refine hK.out _ _ ?_ (fun hHeld4=>?_)
                       · (try dsimp only);go_keep
                       clear hK K;(try simp only [Act.put,Mn.q]);clear hHeld3;refine wpAnyH_done (by kernel_rfl) ?_ _;clear hHeld4;clear aP0 aP1 aY0 aY1 aL0 aX2 aX3 aX1 aW2 aW3 aF1;go_wp2_with fail;go_meet
                       case rel =>
                        refine ⟨?_,(heap_setCell_other _ _ _ _ (fun e=>ny e)).trans HBXA.out⟩;show PlnS _ _ _ _ _ _ _ _ _ _ _ _;rw [jB HY1.out,fD,HSTP.out];exact fG LA.out (Nat.le_refl _) (by simp) HBA.out HRA.out HG3.out (fun y hy=>by rcases List.mem_append.1 hy with h9 | h9;exact HYB.out y (List.mem_of_mem_take h9);rw [List.mem_singleton] at h9;rw [h9];exact HYB.out _ (List.mem_of_getElem? HY1.out))
                      exact AllReadyH.nil
                     exact AllReadyH.nil
                    exact AllReadyH.nil
                   refine AllReadyH.cons rfl (fun K hK=>?_) ?_
                   ·go_simp
                    refine hK.out _ _ ?_ (fun hHeld5=>?_)
                    · (try dsimp only);go_keep
                    clear hK K;(try simp only [Act.put,Mn.q]);clear hHeld0;refine wpAnyH_ready (rs:=[1]) (by kernel_rfl) (by simp) ?_;refine AllReadyH.cons rfl (fun K hK=>?_) ?_
                    ·go_simp
                     refine hK.out _ _ ?_ (fun hHeld6=>?_)
                     · (try dsimp only);go_keep
                     clear hK K;(try simp only [Act.put,Mn.q]);clear hHeld5;refine wpAnyH_ready (rs:=[25]) (by kernel_rfl) (by simp) ?_;refine AllReadyH.cons rfl (fun K hK=>?_) ?_
                     ·(refine g7 (Z:=Z) (X:=(Z.alloc (.cells #[.int .i64 kd,.int .i64 it,.int .i64 pl,.int .i64 (lf+tt),.int .i64 (bs-(lf+tt)),.int .i64 sv,.slice lb1 dd lcp1,.int .i64 (T0+tt),.int .i64 (D0+td)] 88)).drew) (cells:=#[.int .i64 kd,.int .i64 it,.int .i64 pl,.int .i64 (lf+tt),.int .i64 (bs-(lf+tt)),.int .i64 sv,.slice lb1 dd lcp1,.int .i64 (T0+tt),.int .i64 (D0+td)]) (L:=(List.range (q+1)).map (bG p dd v.shift.1 V (aB p v V))) (ys:=ys.take (q+1)) (base:=w1.heap.size) (b2:=w2.heap.size) (.tmp 157) (.tmp 180) rfl rfl rfl rfl (((Below.refl Z.heap.size Z).alloc (Nat.le_refl _) _).drew) (aF Z _) (st:=⟨kd,it,pl,lf+tt,bs-(lf+tt),sv,bY p dd V (q+1),T0+tt,D0+td⟩) rfl HRZ.out HQB.out (by omega) (Nat.le_of_lt lX2) HLZ.out HAPT.out ?_;intro g3 cp3 wA r1 hgb r3 r4;have aP0:wA.cell? ⟨b,off+q*2,none⟩=some (.int .i64 kd):=(World.cell?_of_block (a:=⟨b,off+q*2,none⟩) (hgb b lP0 HNG.out.2.2.1)).trans zP0;have aP1:wA.cell? ⟨b,off+q*2+1,none⟩=some (.int .i64 it):=(World.cell?_of_block (a:=⟨b,off+q*2+1,none⟩) (hgb b lP0 HNG.out.2.2.1)).trans zP1;have aY0:wA.cell? ⟨x15,0,none⟩=some (.int .i64 pl):=(World.cell?_of_block (a:=⟨x15,0,none⟩) (hgb x15 lY0 HNG.out.2.1)).trans zY0;have aY1:wA.cell? ⟨x15,1,none⟩=some (.int .i64 sv):=(World.cell?_of_block (a:=⟨x15,1,none⟩) (hgb x15 lY0 HNG.out.2.1)).trans zY1;have aL0:wA.cell? ⟨ag,q+1,none⟩=some (.slice lb1 dd lcp1):=(World.cell?_of_block (a:=⟨ag,q+1,none⟩) (hgb ag lL0 HNG.out.2.2.2)).trans zL0;have aX2:wA.cell? ⟨w2.heap.size,2,none⟩=some (.int .i64 (T0+tt)):=(World.cell?_of_block (a:=⟨w2.heap.size,2,none⟩) (hgb w2.heap.size lX2 HNG.out.1)).trans zX2;have aX3:wA.cell? ⟨w2.heap.size,3,none⟩=some (.int .i64 (D0+td)):=(World.cell?_of_block (a:=⟨w2.heap.size,3,none⟩) (hgb w2.heap.size lX2 HNG.out.1)).trans zX3;have aX1:wA.cell? ⟨w2.heap.size,1,none⟩=some (.slice (some ⟨g,0,none⟩) (q+1) gc):=(World.cell?_of_block (a:=⟨w2.heap.size,1,none⟩) (hgb w2.heap.size lX2 HNG.out.1)).trans zX1;have HBA:=hide ((hgb w2.heap.size lX2 HNG.out.1).trans BOZ.out);have HBXA:=hide ((hgb x15 lY0 HNG.out.2.1).trans BXZ.out);have aF1:=frozen_of_row wA w2.heap.size 1 _ _ HBA.out;have aW2:∀ v,(wA.setCell ⟨w2.heap.size,1,none⟩ v).cell? ⟨w2.heap.size,2,none⟩=some (.int .i64 (T0+tt)):=(fun v=>cell_of_row _ w2.heap.size 2 _ _ _ (heap_setCell_same wA w2.heap.size 1 _ _ _ HBA.out));have aW3:∀ v,(wA.setCell ⟨w2.heap.size,1,none⟩ v).cell? ⟨w2.heap.size,3,none⟩=some (.int .i64 (D0+td)):=(fun v=>cell_of_row _ w2.heap.size 3 _ _ _ (heap_setCell_same wA w2.heap.size 1 _ _ _ HBA.out));have HRA:=hide r1;have HG3:Hid (g3≠w2.heap.size):=(by rcases r3 with e | e;rw [e];exact HGX.out;show _≠_;omega);have LA:Hid (Below w2.heap.size w2 wA):=LZ.out.trans r4;clear r1 r3 r4 hgb)
                      refine hK.out _ _ ?_ (fun hHeld7=>?_)
                      · (try dsimp only);go_keep
                      clear hK K;(try simp only [Act.put,Mn.q]);clear hHeld6;refine Mn.t 26 ?_;(try simp only [Act.put,Mn.q]);refine wpAnyH_ready (rs:=[27]) (by kernel_rfl) (by simp) ?_;refine AllReadyH.cons rfl (fun K hK=>?_) ?_
                      ·go_simp
                       refine hK.out _ _ ?_ (fun hHeld8=>?_)
                       · (try dsimp only);go_keep
                       clear hK K;(try simp only [Act.put,Mn.q]);clear hHeld7;refine wpAnyH_done (by kernel_rfl) ?_ _;clear hHeld8;clear aP0 aP1 aY0 aY1 aL0 aX2 aX3 aX1 aW2 aW3 aF1;go_wp2_with fail;go_meet
                       case rel =>
                        refine ⟨?_,(heap_setCell_other _ _ _ _ (fun e=>ny e)).trans HBXA.out⟩;show PlnS _ _ _ _ _ _ _ _ _ _ _ _;rw [jB HY1.out,fD,HSTP.out];exact fG LA.out (Nat.le_refl _) (by simp) HBA.out HRA.out HG3.out (fun y hy=>by rcases List.mem_append.1 hy with h9 | h9;exact HYB.out y (List.mem_of_mem_take h9);rw [List.mem_singleton] at h9;rw [h9];exact HYB.out _ (List.mem_of_getElem? HY1.out))
                      exact AllReadyH.nil
                     exact AllReadyH.nil
                    exact AllReadyH.nil
                   exact AllReadyH.nil
                 case rest =>
                   obtain ⟨HPS9,BX9⟩:=hcut;clear zX1 zX2 zX3 zY0 zY1 zP0 zP1 zL0 lX2 lY0 lP0 lL0 np6 np6' nl6 nl6';rename World=>z9;have dy1:z9.cell? ⟨x15,1,none⟩=some (.int .i64 sv):=cell_of_row _ x15 1 _ _ _ BX9.out;have dy0:z9.cell? ⟨x15,0,none⟩=some (.int .i64 pl):=cell_of_row _ x15 0 _ _ _ BX9.out;go_wp2_with fail
                   first | (go_region_held3 (fun w'=>w'.cell? ⟨x15,1,none⟩=some (.int .i64 sv)∧w'.cell? ⟨x15,0,none⟩=some (.int .i64 pl)) (go_keep) (fail)) | fail
                   rename_i hHeld;clear hHeld;have HPSD:=hide (HPS9.out.on (Below.refl _ _).drew);clear iq1 iq2 iq3 iq4 hwq;go_wp2_with fail;go_roundw
                   case rel=>exact ⟨q+1,bs+sv,pl,by go_num,rfl,rfl,by omega,HLS.out,by show _=_;rw [HSG.out];exact HPL.out,iB HTB.out (by rw [HBG.out]),by show PlnS _ _ _ _ _ _ _ _ _ _ _ _;rw [HSM.out.1,HSM.out.2.1,HSM.out.2.2.1,HSM.out.2.2.2];exact HPSD.out⟩
                   case measure=>simp [intOf];omega
     · have i1:¬ (q:Int)<(m:Int):=by omega
       have hqe:q=m:=by omega
       have HQE:=hide hqe;clear hqe;obtain ⟨g,gc,hbox,hgx,hrow⟩:=HPS.out.box;have hlb:=tF (m:=p.time) HSO.out HSF.out (q+1);have htb:=dD HW.out.mt (aB p v V) (q+1);have hdb:=dD HW.out.md (aB p v V) (q+1);have hs1:=eA (S:=(aB p v V)) HW.out.mt (q+1) (by omega);have hs2:=eA (S:=(aB p v V)) HW.out.md (q+1) (by omega);have hs5:=eA (S:=(aB p v V)) HW.out.mt (q+1+1) (by omega);have hs6:=eA (S:=(aB p v V)) HW.out.md (q+1+1) (by omega);have hlow:=ye2 HL.out HVO.out (q+1) HTB.out (fun j hj=>(mI HF0.out.2.2 (by rw [HM.out];omega)).1);have htp:=(mI HF0.out.2.2 (show q+1<V.length+2 by rw [HM.out];omega)).1;obtain ⟨tt,htt⟩:∃ z,aE p.time (aB p v V) (q+1)=z:=⟨_,rfl⟩;obtain ⟨td,htd⟩:∃ z,aE p.dist (aB p v V) (q+1)=z:=⟨_,rfl⟩;obtain ⟨T0,hT0⟩:∃ z,aH (aE p.time (aB p v V)) (q+1)=z:=⟨_,rfl⟩;obtain ⟨D0,hD0⟩:∃ z,aH (aE p.dist (aB p v V)) (q+1)=z:=⟨_,rfl⟩;obtain ⟨W0,hW0⟩:∃ z,aH (bW p.time (aB p v V) v.shift.1) (q+1)=z:=⟨_,rfl⟩;obtain ⟨S0,hS0⟩:∃ z,aH (fR (aB p v V)) (q+1)=z:=⟨_,rfl⟩;rw [hT0,hD0,hW0,hS0] at hbox;rw [hT0] at hs1;rw [hD0] at hs2;rw [HLF.out] at hlb hlow;rw [htt] at htb htp;rw [htd] at hdb;have HSE:Hid ((aB p v V).getD (q+1) sz=mC v v.stop):=by show _=_;rw [HQE.out,← HM.out,fQ]
       have e5:aH (aE p.time (aB p v V)) (q+1+1)=T0+tt:=by show aH _ (q+1)+aE p.time (aB p v V) (q+1)=_;rw [hT0,htt]
       have e6:aH (aE p.dist (aB p v V)) (q+1+1)=D0+td:=by show aH _ (q+1)+aE p.dist (aB p v V) (q+1)=_;rw [hD0,htd]
       rw [e5] at hs5;rw [e6] at hs6;have HC1:Hid (aK p.time pa v.stop=tt):=by show _=_;rw [← htt,aJ,HPA.out,HSE.out];rfl
       have HC2:Hid (aK p.dist pa v.stop=td):=by show _=_;rw [← htd,aJ,HPA.out,HSE.out];rfl
       have HAR:Hid (eQ p.time (aB p v V) v.shift.1 (q+1)=lf+tt):=by show _=_;unfold eQ;rw [HLF.out,htt]
       have HBG:Hid (dR p.time (aB p v V) v.shift.1 (q+1)=Hr.startM (lf+tt) [v.shift]):=by show _=_;unfold dR;rw [HAR.out,HSE.out];rfl
       have HE5:=hide e5;have HE6:=hide e6;have hwr:IntKind.i64.wrap (lf+tt)=lf+tt:=by rw [IntKind.wrap_i64];omega
       have hw2:IntKind.i64.wrap (T0+tt)=T0+tt:=by rw [IntKind.wrap_i64];omega
       have hw3:IntKind.i64.wrap (D0+td)=D0+td:=by rw [IntKind.wrap_i64];omega
       have m1:=oH hs5.1 hs5.2 hpt.1 hpt.2;have m2:=oH hs6.1 hs6.2 hpd.1 hpd.2;have hwa:IntKind.i64.wrap ((T0+tt)*v.perT)=(T0+tt)*v.perT:=by rw [IntKind.wrap_i64];omega
       have hwb:IntKind.i64.wrap (v.fixed+(T0+tt)*v.perT)=v.fixed+(T0+tt)*v.perT:=by rw [IntKind.wrap_i64];omega
       have hwc:IntKind.i64.wrap ((D0+td)*v.perD)=(D0+td)*v.perD:=by rw [IntKind.wrap_i64];omega
       have hwd2:IntKind.i64.wrap (v.fixed+(T0+tt)*v.perT+(D0+td)*v.perD)=v.fixed+(T0+tt)*v.perT+(D0+td)*v.perD:=by rw [IntKind.wrap_i64];omega
       have HBOX:=hide hbox;have HROW:=hide hrow;have HGX:Hid (g≠w2.heap.size):=hgx;have HSZ:Hid (w.heap.size+3≤w2.heap.size):=by have h1:=HWS.out;have h2:=E2.out.size;show _≤_;omega
       have HT0:=hide hT0;have HD0:=hide hD0;have HW0:=hide hW0;have HS0:=hide hS0;clear hbox hrow hgx htt htd hT0 hD0 hW0 hS0 hlb htb hdb hs1 hs2 hs5 hs6 e5 e6 m1 m2;have da1:wr.cell? ⟨w.heap.size,1,none⟩=some (.int .i64 p.time.n):=((aA (below_on E2.out EC.out)).1 _ 1 (by rw [HWS.out];omega)).trans (HC.out 1);have da2:wr.cell? ⟨w.heap.size,2,none⟩=some (.slice ta lt tc):=((aA (below_on E2.out EC.out)).1 _ 2 (by rw [HWS.out];omega)).trans (HC.out 2);have vd1:wr.cell? ⟨w.heap.size+1+1,1,none⟩=some (.int .i64 v.stop):=((aA (below_on E2.out EC.out)).1 _ 1 (by rw [HWS.out];omega)).trans (HCV.out 1)
       by_cases hto:lf+tt≤v.shift.2
       · have y9:¬ lf+tt>v.shift.2:=by omega
         have y9':¬ v.shift.2<lf+tt:=by omega
         have HBG2:Hid (dR p.time (aB p v V) v.shift.1 (q+1)=(lf+tt,true)):=by show _=_;rw [HBG.out];exact sJ (by omega) hto
         go_wp2_with (first | (go_at_call 48;refine (H48t.out _ _ _ (below_on HE2w.out EC.out)).mono ?_;rintro e z3 ⟨rfl,k3⟩;rw [HC1.out];have K3:=hide k3;have L3:=hide (below_on EC.out K3.out);have ve5:z3.cell? ⟨w.heap.size+1+1,5,none⟩=some (.int .i64 v.shift.2):=((aA (below_on E2.out L3.out)).1 _ 5 (by rw [HWS.out];omega)).trans (HCV.out 5);clear k3) | fail);have BO3:Hid (z3.heap[w2.heap.size]? = some (.cells (bV k (.slice (some ⟨g,0,none⟩) (q+1) gc) T0 D0 W0 S0 0) 71 (0,0))):=(K3.out.block _ HPS.out.lt).trans HBOX.out;have nx0:¬ w.heap.size=w2.heap.size:=by have:=HSZ.out;omega
         have nx1:¬ w2.heap.size=w.heap.size:=by omega
         have nx2:¬ w.heap.size+1+1=w2.heap.size:=by have:=HSZ.out;omega
         have nx3:¬ w2.heap.size=w.heap.size+1+1:=by omega
         clear da1 da2 vd1;have ea1:z3.cell? ⟨w.heap.size,1,none⟩=some (.int .i64 p.time.n):=((aA (below_on E2.out L3.out)).1 _ 1 (by rw [HWS.out];omega)).trans (HC.out 1);have ea2:z3.cell? ⟨w.heap.size,2,none⟩=some (.slice ta lt tc):=((aA (below_on E2.out L3.out)).1 _ 2 (by rw [HWS.out];omega)).trans (HC.out 2);have eb1:z3.cell? ⟨w.heap.size+1+1,1,none⟩=some (.int .i64 v.stop):=((aA (below_on E2.out L3.out)).1 _ 1 (by rw [HWS.out];omega)).trans (HCV.out 1);have eo:z3.cell? ⟨w2.heap.size,2,none⟩=some (.int .i64 T0):=cell_of_row _ w2.heap.size 2 _ _ _ BO3.out;have ef:=frozen_of_row z3 w2.heap.size 2 _ _ BO3.out;have hl1:w2.heap.size<z3.heap.size:=aD BO3.out
         go_cut [] from 203 to 212 (fun wx=>Hid (z3.grownBy wx (some w2.heap.size))∧Hid (wx.heap[w2.heap.size]? = some (.cells (bV k (.slice (some ⟨g,0,none⟩) (q+1) gc) (T0+tt) D0 W0 S0 0) 71 (0,0))))
         case first =>
           refine wp_region_held_drew (S:=(fun w'=>w'.cell? ⟨w.heap.size,1,none⟩=some (.int .i64 p.time.n)∧w'.cell? ⟨w.heap.size,2,none⟩=some (.slice ta lt tc)∧w'.cell? ⟨w.heap.size+1+1,1,none⟩=some (.int .i64 v.stop))) (by kernel_rfl) ?_ (fun hHeld0=>?_)
           · (try dsimp only);go_keep
           refine Mn.t 0 ?_;(try simp only [Act.put,Mn.q]);refine Mn.t 2 ?_;(try simp only [Act.put,Mn.q]);refine Mn.t 3 ?_;(try simp only [Act.put,Mn.q]);refine Mn.t 4 ?_;(try simp only [Act.put,Mn.q]);refine Mn.t 5 ?_;(try simp only [Act.put,Mn.q]);refine Mn.t 6 ?_;(try simp only [Act.put,Mn.q]);refine wpAnyH_ready (rs:=[1,7]) (by kernel_rfl) (by simp) ?_;refine AllReadyH.cons rfl (fun K hK=>?_) ?_
           ·go_simp
            refine hK.out _ _ ?_ (fun hHeld1=>?_)
            · (try dsimp only);go_keep
            clear hK K;(try simp only [Act.put,Mn.q]);clear hHeld0;refine wpAnyH_ready (rs:=[7]) (by kernel_rfl) (by simp) ?_;refine AllReadyH.cons rfl (fun K hK=>?_) ?_
            ·(refine aG (by rfl) 48 _ _ (by rfl) kR [.agg #[.int .i64 p.time.n,.slice ta lt tc],.int .i64 pa,.int .i64 v.stop] (by rfl) ?_;refine (H48t.out _ _ _ (below_on HE2w.out (below_on L3.out ((Below.refl _ _).drew)))).mono ?_;rintro e z4 ⟨rfl,kc⟩;refine ⟨_,rfl,?_⟩;rw [HC1.out];have KC:=hide (below_on ((Below.refl _ _).drew) kc);have LC:=hide (below_on L3.out KC.out);have fa1:z4.cell? ⟨w.heap.size,1,none⟩=some (.int .i64 p.time.n):=((aA (below_on E2.out LC.out)).1 _ 1 (by rw [HWS.out];omega)).trans (HC.out 1);have fa2:z4.cell? ⟨w.heap.size,2,none⟩=some (.slice ta lt tc):=((aA (below_on E2.out LC.out)).1 _ 2 (by rw [HWS.out];omega)).trans (HC.out 2);have fb1:z4.cell? ⟨w.heap.size+1+1,1,none⟩=some (.int .i64 v.stop):=((aA (below_on E2.out LC.out)).1 _ 1 (by rw [HWS.out];omega)).trans (HCV.out 1);have BOC:=hide ((KC.out.block _ hl1).trans BO3.out);have fo:z4.cell? ⟨w2.heap.size,2,none⟩=some (.int .i64 T0):=cell_of_row _ w2.heap.size 2 _ _ _ BOC.out;have ff:=frozen_of_row z4 w2.heap.size 2 _ _ BOC.out;clear kc)
             refine hK.out _ _ ?_ (fun hHeld2=>?_)
             · (try dsimp only);go_keep
             clear hK K;(try simp only [Act.put,Mn.q]);clear hHeld1;refine Mn.t 8 ?_;(try simp only [Act.put,Mn.q]);refine Mn.t 9 ?_;(try simp only [Act.put,Mn.q]);refine wpAnyH_ready (rs:=[10]) (by kernel_rfl) (by simp) ?_;refine AllReadyH.cons rfl (fun K hK=>?_) ?_
             ·go_simp
              refine hK.out _ _ ?_ (fun hHeld3=>?_)
              · (try dsimp only);go_keep
              clear hK K;(try simp only [Act.put,Mn.q]);clear hHeld2;refine wpAnyH_done (by kernel_rfl) ?_ _;clear hHeld3;go_wp2_with fail;go_meet
              case rel=>exact ⟨aZ (bQ KC.out) _ _,heap_setCell_same z4 w2.heap.size 2 _ _ _ BOC.out⟩
             exact AllReadyH.nil
            exact AllReadyH.nil
           refine AllReadyH.cons rfl (fun K hK=>?_) ?_
           ·(refine aG (by rfl) 48 _ _ (by rfl) kR [.agg #[.int .i64 p.time.n,.slice ta lt tc],.int .i64 pa,.int .i64 v.stop] (by rfl) ?_;refine (H48t.out _ _ _ (below_on HE2w.out (below_on L3.out ((Below.refl _ _).drew)))).mono ?_;rintro e z4 ⟨rfl,kc⟩;refine ⟨_,rfl,?_⟩;rw [HC1.out];have KC:=hide (below_on ((Below.refl _ _).drew) kc);have LC:=hide (below_on L3.out KC.out);have fa1:z4.cell? ⟨w.heap.size,1,none⟩=some (.int .i64 p.time.n):=((aA (below_on E2.out LC.out)).1 _ 1 (by rw [HWS.out];omega)).trans (HC.out 1);have fa2:z4.cell? ⟨w.heap.size,2,none⟩=some (.slice ta lt tc):=((aA (below_on E2.out LC.out)).1 _ 2 (by rw [HWS.out];omega)).trans (HC.out 2);have fb1:z4.cell? ⟨w.heap.size+1+1,1,none⟩=some (.int .i64 v.stop):=((aA (below_on E2.out LC.out)).1 _ 1 (by rw [HWS.out];omega)).trans (HCV.out 1);have BOC:=hide ((KC.out.block _ hl1).trans BO3.out);have fo:z4.cell? ⟨w2.heap.size,2,none⟩=some (.int .i64 T0):=cell_of_row _ w2.heap.size 2 _ _ _ BOC.out;have ff:=frozen_of_row z4 w2.heap.size 2 _ _ BOC.out;clear kc)
            refine hK.out _ _ ?_ (fun hHeld4=>?_)
            · (try dsimp only);go_keep
            clear hK K;(try simp only [Act.put,Mn.q]);clear hHeld0;refine wpAnyH_ready (rs:=[1]) (by kernel_rfl) (by simp) ?_;refine AllReadyH.cons rfl (fun K hK=>?_) ?_
            ·go_simp
             refine hK.out _ _ ?_ (fun hHeld5=>?_)
             · (try dsimp only);go_keep
             clear hK K;(try simp only [Act.put,Mn.q]);clear hHeld4;refine Mn.t 8 ?_;(try simp only [Act.put,Mn.q]);refine Mn.t 9 ?_;(try simp only [Act.put,Mn.q]);refine wpAnyH_ready (rs:=[10]) (by kernel_rfl) (by simp) ?_;refine AllReadyH.cons rfl (fun K hK=>?_) ?_
             ·go_simp
              refine hK.out _ _ ?_ (fun hHeld6=>?_)
              · (try dsimp only);go_keep
              clear hK K;(try simp only [Act.put,Mn.q]);clear hHeld5;refine wpAnyH_done (by kernel_rfl) ?_ _;clear hHeld6;go_wp2_with fail;go_meet
              case rel=>exact ⟨aZ (bQ KC.out) _ _,heap_setCell_same z4 w2.heap.size 2 _ _ _ BOC.out⟩
             exact AllReadyH.nil
            exact AllReadyH.nil
           exact AllReadyH.nil
         case rest =>
           obtain ⟨G5,BO5⟩:=hcut;clear ea1 ea2 eb1 eo ef hl1;rename World=>z5;have L5:Hid (Below w2.heap.size w2 z5):=L3.out.trans (bD G5.out (Nat.le_refl _) L3.out.size);go_wp2_with fail;have ea3:z5.cell? ⟨w.heap.size,3,none⟩=some (.int .i64 p.dist.n):=((aA (below_on E2.out L5.out)).1 _ 3 (by rw [HWS.out];omega)).trans (HC.out 3);have ea4:z5.cell? ⟨w.heap.size,4,none⟩=some (.slice da ld dc):=((aA (below_on E2.out L5.out)).1 _ 4 (by rw [HWS.out];omega)).trans (HC.out 4);have eb1:z5.cell? ⟨w.heap.size+1+1,1,none⟩=some (.int .i64 v.stop):=((aA (below_on E2.out L5.out)).1 _ 1 (by rw [HWS.out];omega)).trans (HCV.out 1);have eo:z5.cell? ⟨w2.heap.size,3,none⟩=some (.int .i64 D0):=cell_of_row _ w2.heap.size 3 _ _ _ BO5.out;have ef:=frozen_of_row z5 w2.heap.size 3 _ _ BO5.out;have hl1:w2.heap.size<z5.heap.size:=aD BO5.out
           go_cut [] from 213 to 222 (fun wx=>Hid (z5.grownBy wx (some w2.heap.size))∧Hid (wx.heap[w2.heap.size]? = some (.cells (bV k (.slice (some ⟨g,0,none⟩) (q+1) gc) (T0+tt) (D0+td) W0 S0 0) 71 (0,0))))
           case first =>
             refine wp_region_held_drew (S:=(fun w'=>w'.cell? ⟨w.heap.size,3,none⟩=some (.int .i64 p.dist.n)∧w'.cell? ⟨w.heap.size,4,none⟩=some (.slice da ld dc)∧w'.cell? ⟨w.heap.size+1+1,1,none⟩=some (.int .i64 v.stop))) (by kernel_rfl) ?_ (fun hHeld0=>?_)
             · (try dsimp only);go_keep
             refine Mn.t 0 ?_;(try simp only [Act.put,Mn.q]);refine Mn.t 2 ?_;(try simp only [Act.put,Mn.q]);refine Mn.t 3 ?_;(try simp only [Act.put,Mn.q]);refine Mn.t 4 ?_;(try simp only [Act.put,Mn.q]);refine Mn.t 5 ?_;(try simp only [Act.put,Mn.q]);refine Mn.t 6 ?_;(try simp only [Act.put,Mn.q]);refine wpAnyH_ready (rs:=[1,7]) (by kernel_rfl) (by simp) ?_;refine AllReadyH.cons rfl (fun K hK=>?_) ?_
             ·go_simp
              refine hK.out _ _ ?_ (fun hHeld1=>?_)
              · (try dsimp only);go_keep
              clear hK K;(try simp only [Act.put,Mn.q]);clear hHeld0;refine wpAnyH_ready (rs:=[7]) (by kernel_rfl) (by simp) ?_;refine AllReadyH.cons rfl (fun K hK=>?_) ?_
              ·(refine aG (by rfl) 48 _ _ (by rfl) kR [.agg #[.int .i64 p.dist.n,.slice da ld dc],.int .i64 pa,.int .i64 v.stop] (by rfl) ?_;refine (H48d.out _ _ _ (below_on HE2w.out (below_on L5.out ((Below.refl _ _).drew)))).mono ?_;rintro e z6 ⟨rfl,kc⟩;refine ⟨_,rfl,?_⟩;rw [HC2.out];have KC:=hide (below_on ((Below.refl _ _).drew) kc);have LC:=hide (below_on L5.out KC.out);have fa3:z6.cell? ⟨w.heap.size,3,none⟩=some (.int .i64 p.dist.n):=((aA (below_on E2.out LC.out)).1 _ 3 (by rw [HWS.out];omega)).trans (HC.out 3);have fa4:z6.cell? ⟨w.heap.size,4,none⟩=some (.slice da ld dc):=((aA (below_on E2.out LC.out)).1 _ 4 (by rw [HWS.out];omega)).trans (HC.out 4);have fb1:z6.cell? ⟨w.heap.size+1+1,1,none⟩=some (.int .i64 v.stop):=((aA (below_on E2.out LC.out)).1 _ 1 (by rw [HWS.out];omega)).trans (HCV.out 1);have BOC:=hide ((KC.out.block _ hl1).trans BO5.out);have fo:z6.cell? ⟨w2.heap.size,3,none⟩=some (.int .i64 D0):=cell_of_row _ w2.heap.size 3 _ _ _ BOC.out;have ff:=frozen_of_row z6 w2.heap.size 3 _ _ BOC.out;clear kc)
               refine hK.out _ _ ?_ (fun hHeld2=>?_)
               · (try dsimp only);go_keep
               clear hK K;(try simp only [Act.put,Mn.q]);clear hHeld1;refine Mn.t 8 ?_;(try simp only [Act.put,Mn.q]);refine Mn.t 9 ?_;(try simp only [Act.put,Mn.q]);refine wpAnyH_ready (rs:=[10]) (by kernel_rfl) (by simp) ?_;refine AllReadyH.cons rfl (fun K hK=>?_) ?_
               ·go_simp
                refine hK.out _ _ ?_ (fun hHeld3=>?_)
                · (try dsimp only);go_keep
                clear hK K;(try simp only [Act.put,Mn.q]);clear hHeld2;refine wpAnyH_done (by kernel_rfl) ?_ _;clear hHeld3;go_wp2_with fail;go_meet
                case rel=>exact ⟨aZ (bQ KC.out) _ _,heap_setCell_same z6 w2.heap.size 3 _ _ _ BOC.out⟩
               exact AllReadyH.nil
              exact AllReadyH.nil
             refine AllReadyH.cons rfl (fun K hK=>?_) ?_
             ·(refine aG (by rfl) 48 _ _ (by rfl) kR [.agg #[.int .i64 p.dist.n,.slice da ld dc],.int .i64 pa,.int .i64 v.stop] (by rfl) ?_;refine (H48d.out _ _ _ (below_on HE2w.out (below_on L5.out ((Below.refl _ _).drew)))).mono ?_;rintro e z6 ⟨rfl,kc⟩;refine ⟨_,rfl,?_⟩;rw [HC2.out];have KC:=hide (below_on ((Below.refl _ _).drew) kc);have LC:=hide (below_on L5.out KC.out);have fa3:z6.cell? ⟨w.heap.size,3,none⟩=some (.int .i64 p.dist.n):=((aA (below_on E2.out LC.out)).1 _ 3 (by rw [HWS.out];omega)).trans (HC.out 3);have fa4:z6.cell? ⟨w.heap.size,4,none⟩=some (.slice da ld dc):=((aA (below_on E2.out LC.out)).1 _ 4 (by rw [HWS.out];omega)).trans (HC.out 4);have fb1:z6.cell? ⟨w.heap.size+1+1,1,none⟩=some (.int .i64 v.stop):=((aA (below_on E2.out LC.out)).1 _ 1 (by rw [HWS.out];omega)).trans (HCV.out 1);have BOC:=hide ((KC.out.block _ hl1).trans BO5.out);have fo:z6.cell? ⟨w2.heap.size,3,none⟩=some (.int .i64 D0):=cell_of_row _ w2.heap.size 3 _ _ _ BOC.out;have ff:=frozen_of_row z6 w2.heap.size 3 _ _ BOC.out;clear kc)
              refine hK.out _ _ ?_ (fun hHeld4=>?_)
              · (try dsimp only);go_keep
              clear hK K;(try simp only [Act.put,Mn.q]);clear hHeld0;refine wpAnyH_ready (rs:=[1]) (by kernel_rfl) (by simp) ?_;refine AllReadyH.cons rfl (fun K hK=>?_) ?_
              ·go_simp
               refine hK.out _ _ ?_ (fun hHeld5=>?_)
               · (try dsimp only);go_keep
               clear hK K;(try simp only [Act.put,Mn.q]);clear hHeld4;refine Mn.t 8 ?_;(try simp only [Act.put,Mn.q]);refine Mn.t 9 ?_;(try simp only [Act.put,Mn.q]);refine wpAnyH_ready (rs:=[10]) (by kernel_rfl) (by simp) ?_;refine AllReadyH.cons rfl (fun K hK=>?_) ?_
               ·go_simp
                refine hK.out _ _ ?_ (fun hHeld6=>?_)
                · (try dsimp only);go_keep
                clear hK K;(try simp only [Act.put,Mn.q]);clear hHeld5;refine wpAnyH_done (by kernel_rfl) ?_ _;clear hHeld6;go_wp2_with fail;go_meet
                case rel=>exact ⟨aZ (bQ KC.out) _ _,heap_setCell_same z6 w2.heap.size 3 _ _ _ BOC.out⟩
               exact AllReadyH.nil
              exact AllReadyH.nil
             exact AllReadyH.nil
           case rest =>
             obtain ⟨G7,BO7⟩:=hcut;clear ea3 ea4 eb1 eo ef hl1;rename World=>Z;have LZ:Hid (Below w2.heap.size w2 Z):=L5.out.trans (bD G7.out (Nat.le_refl _) L5.out.size);have GZ:Hid (wr.grownBy Z (some w2.heap.size)):=dX (dX (bQ K3.out) G5.out) G7.out;have BOZ:=hide BO7.out;have hxq:((List.range M).map (bY p dd V))[m]? = some (bY p dd V m):=by rw [List.getElem?_map,List.getElem?_range (show m<M by have:=HMM.out;omega)];rfl
             obtain ⟨g1,y1v,he1,hg1,hy1,hc1,hr1⟩:=iJ HR2.out hxq;injection he1 with he1;injection he1 with he1;subst he1;obtain ⟨lb1,lcp1,rfl⟩:=IRow.shape hr1;rw [m4] at hy1 hc1 hr1;have HLZ:Hid (IRow Z w1.heap.size (.slice lb1 dd lcp1) (bY p dd V m)):=hr1.later (Nat.le_refl _) LZ.out;have HY1:=hide hy1;have HLI1:Hid (∀ g,(Value.slice lb1 dd lcp1).ownBlock=some g→g<w2.heap.size):=fun g h9=>jQ hr1 g h9
             have HYB:Hid (∀ y ∈ ys,∀ g,y.ownBlock=some g→w1.heap.size≤g∧g<w2.heap.size):=fun y hy g hg=>⟨by
               obtain ⟨i,hi⟩:=List.getElem?_of_mem hy;have hl:=(List.getElem?_eq_some_iff.1 hi).1;rw [HR2.out.len] at hl;exact (World.ownsRow.lt (HR2.out.sat i _ y (List.getElem?_eq_getElem hl) hi).1 g hg).1,RowS.inH HR2.out y hy g hg⟩
             have HRZ:Hid (StpR Z w1.heap.size w2.heap.size (.slice (some ⟨g,0,none⟩) (q+1) gc) ((List.range (q+1)).map (bG p dd v.shift.1 V (aB p v V))) (ys.take (q+1))):=gE HROW.out GZ.out (fun g2 h9=>by rw [← cF h9];exact HGX.out) (fun y hy g2 h9=>by have:=(HYB.out y (List.mem_of_mem_take hy) g2 h9).2;omega);have HGA:Hid (w2.heap.size≤g):=(World.ownsRow.lt HROW.out.own g rfl).1;have zX1:Z.cell? ⟨w2.heap.size,1,none⟩=some (.slice (some ⟨g,0,none⟩) (q+1) gc):=cell_of_row _ w2.heap.size 1 _ _ _ BOZ.out;have zX2:Z.cell? ⟨w2.heap.size,2,none⟩=some (.int .i64 (T0+tt)):=cell_of_row _ w2.heap.size 2 _ _ _ BOZ.out;have zX3:Z.cell? ⟨w2.heap.size,3,none⟩=some (.int .i64 (D0+td)):=cell_of_row _ w2.heap.size 3 _ _ _ BOZ.out;have zV1:Z.cell? ⟨w.heap.size+1+1,1,none⟩=some (.int .i64 v.stop):=((aA (below_on E2.out LZ.out)).1 _ 1 (by rw [HWS.out];omega)).trans (HCV.out 1);have zL0:Z.cell? ⟨ag,m,none⟩=some (.slice lb1 dd lcp1):=((aA LZ.out).1 _ _ hg1).trans hc1;have lX2:w2.heap.size<Z.heap.size:=aD BOZ.out;have lV0:w.heap.size+1+1<Z.heap.size:=by have:=HSZ.out;omega
             have lL0:ag<Z.heap.size:=by omega
             have nl6:¬ ag=w2.heap.size:=by omega
             have nl6':¬ w2.heap.size=ag:=by omega
             have HNG:Hid (w2.heap.size≠g∧w.heap.size+1+1≠g∧ag≠g):=⟨fun e=>HGX.out e.symm,by have:=HGA.out;have:=HSZ.out;omega,by have:=HGA.out;omega⟩;have HAPT:Hid (Apt (.slice (some ⟨g,0,none⟩) (q+1) gc) (.slice lb1 dd lcp1)):=fun g2 h8 h9=>by have h1:=cF h8;have h2:=HLI1.out g2 h9;have h3:=HGA.out;omega
             have HQB:Hid (((List.range (q+1)).map (bG p dd v.shift.1 V (aB p v V))).length=q+1):=by show _=_;simp
             have HWT0:Hid (bW p.time (aB p v V) v.shift.1 (q+1)=0):=by show _=_;unfold bW;rw [HBG2.out,HAR.out];show lf+tt-(lf+tt)=0;omega
             have HSTP:Hid (bG p dd v.shift.1 V (aB p v V) (q+1)=⟨6,0,v.stop,lf+tt,0,0,bY p dd V m,T0+tt,D0+td⟩):=by
               show _=_;have e9:V.length=q:=by rw [HM.out];exact HQE.out.symm
               have h9:=wF (v:=v) (V:=V) (f:=v.shift.1) HL.out HDD.out;rw [e9] at h9;rw [h9,HAR.out,HWT0.out,HE5.out,HE6.out,HQE.out]
             have iq1:(m:Int)<(M:Int):=by have:=HMM.out;omega
             have iq2:m<M:=by omega
             have iq3:(0:Int)≤(m:Int):=by omega
             have iq4:¬ (M:Int)≤(m:Int):=by omega
             clear hy1 hc1 hr1 hxq hwr hw2 hw3;go_wp2_with fail
             go_cut [] from 223 to 241 (fun wx=>Hid (PlnS w2 w1.heap.size w2.heap.size k (ys.take (q+1) ++ [.slice lb1 dd lcp1]) ((List.range (q+1+1)).map (bG p dd v.shift.1 V (aB p v V))) (T0+tt) (D0+td) W0 S0 (q+1+1) wx))
             case first =>
               refine wp_region_held_drew (S:=(fun w'=>w'.cell? ⟨w.heap.size+1+1,1,none⟩=some (.int .i64 v.stop)∧w'.cell? ⟨ag,m,none⟩=some (.slice lb1 dd lcp1)∧w'.cell? ⟨w2.heap.size,2,none⟩=some (.int .i64 (T0+tt))∧w'.cell? ⟨w2.heap.size,3,none⟩=some (.int .i64 (D0+td)))) (by kernel_rfl) ?_ (fun hHeld0=>?_)
               · (try dsimp only);go_keep
               refine Mn.t 0 ?_;(try simp only [Act.put,Mn.q]);refine Mn.t 2 ?_;(try simp only [Act.put,Mn.q]);refine Mn.t 3 ?_;(try simp only [Act.put,Mn.q]);refine Mn.t 4 ?_;(try simp only [Act.put,Mn.q]);refine Mn.t 5 ?_;(try simp only [Act.put,Mn.q]);refine Mn.t 6 ?_;(try simp only [Act.put,Mn.q]);refine Mn.t 7 ?_;(try simp only [Act.put,Mn.q]);refine Mn.t 8 ?_;(try simp only [Act.put,Mn.q]);refine Mn.t 9 ?_;(try simp only [Act.put,Mn.q]);refine Mn.t 10 ?_;(try simp only [Act.put,Mn.q]);refine Mn.t 11 ?_;(try simp only [Act.put,Mn.q]);refine Mn.t 12 ?_;(try simp only [Act.put,Mn.q]);refine Mn.t 13 ?_;(try simp only [Act.put,Mn.q]);refine Mn.t 14 ?_;(try simp only [Act.put,Mn.q]);refine Mn.t 15 ?_;(try simp only [Act.put,Mn.q]);refine wpAnyH_ready (rs:=[1,16]) (by kernel_rfl) (by simp) ?_;refine AllReadyH.cons rfl (fun K hK=>?_) ?_
               ·go_simp
                refine hK.out _ _ ?_ (fun hHeld1=>?_)
                · (try dsimp only);go_keep
                clear hK K;(try simp only [Act.put,Mn.q]);clear hHeld0;refine wpAnyH_ready (rs:=[16]) (by kernel_rfl) (by simp) ?_;refine AllReadyH.cons rfl (fun K hK=>?_) ?_
                ·go_simp
                 refine hK.out _ _ ?_ (fun hHeld2=>?_)
                 · (try dsimp only);go_keep
                 clear hK K;(try simp only [Act.put,Mn.q]);clear hHeld1;refine wpAnyH_ready (rs:=[17]) (by kernel_rfl) (by simp) ?_;refine AllReadyH.cons rfl (fun K hK=>?_) ?_
                 ·(refine g7 (Z:=Z) (X:=(Z.alloc (.cells #[.int .i64 6,.int .i64 0,.int .i64 v.stop,.int .i64 (lf+tt),.int .i64 0,.int .i64 0,.slice lb1 dd lcp1,.int .i64 (T0+tt),.int .i64 (D0+td)] 88)).drew) (cells:=#[.int .i64 6,.int .i64 0,.int .i64 v.stop,.int .i64 (lf+tt),.int .i64 0,.int .i64 0,.slice lb1 dd lcp1,.int .i64 (T0+tt),.int .i64 (D0+td)]) (L:=(List.range (q+1)).map (bG p dd v.shift.1 V (aB p v V))) (ys:=ys.take (q+1)) (base:=w1.heap.size) (b2:=w2.heap.size) (.tmp 224) (.tmp 239) rfl rfl rfl rfl (((Below.refl Z.heap.size Z).alloc (Nat.le_refl _) _).drew) (aF Z _) (st:=⟨6,0,v.stop,lf+tt,0,0,bY p dd V m,T0+tt,D0+td⟩) rfl HRZ.out HQB.out (by omega) (Nat.le_of_lt lX2) HLZ.out HAPT.out ?_;intro g3 cp3 wA r1 hgb r3 r4;have aV1:wA.cell? ⟨w.heap.size+1+1,1,none⟩=some (.int .i64 v.stop):=(World.cell?_of_block (a:=⟨w.heap.size+1+1,1,none⟩) (hgb _ lV0 HNG.out.2.1)).trans zV1;have aL0:wA.cell? ⟨ag,m,none⟩=some (.slice lb1 dd lcp1):=(World.cell?_of_block (a:=⟨ag,m,none⟩) (hgb _ lL0 HNG.out.2.2)).trans zL0;have aX2:wA.cell? ⟨w2.heap.size,2,none⟩=some (.int .i64 (T0+tt)):=(World.cell?_of_block (a:=⟨w2.heap.size,2,none⟩) (hgb _ lX2 HNG.out.1)).trans zX2;have aX3:wA.cell? ⟨w2.heap.size,3,none⟩=some (.int .i64 (D0+td)):=(World.cell?_of_block (a:=⟨w2.heap.size,3,none⟩) (hgb _ lX2 HNG.out.1)).trans zX3;have aX1:wA.cell? ⟨w2.heap.size,1,none⟩=some (.slice (some ⟨g,0,none⟩) (q+1) gc):=(World.cell?_of_block (a:=⟨w2.heap.size,1,none⟩) (hgb w2.heap.size lX2 HNG.out.1)).trans zX1;have HBA:=hide ((hgb w2.heap.size lX2 HNG.out.1).trans BOZ.out);have aF1:=frozen_of_row wA w2.heap.size 1 _ _ HBA.out;have aW2:∀ v,(wA.setCell ⟨w2.heap.size,1,none⟩ v).cell? ⟨w2.heap.size,2,none⟩=some (.int .i64 (T0+tt)):=(fun v=>cell_of_row _ w2.heap.size 2 _ _ _ (heap_setCell_same wA w2.heap.size 1 _ _ _ HBA.out));have aW3:∀ v,(wA.setCell ⟨w2.heap.size,1,none⟩ v).cell? ⟨w2.heap.size,3,none⟩=some (.int .i64 (D0+td)):=(fun v=>cell_of_row _ w2.heap.size 3 _ _ _ (heap_setCell_same wA w2.heap.size 1 _ _ _ HBA.out));have HRA:=hide r1;have HG3:Hid (g3≠w2.heap.size):=(by rcases r3 with e | e;rw [e];exact HGX.out;show _≠_;omega);have LA:Hid (Below w2.heap.size w2 wA):=LZ.out.trans r4;clear r1 r3 r4 hgb)
                  refine hK.out _ _ ?_ (fun hHeld3=>?_)
                  · (try dsimp only);go_keep
                  clear hK K;(try simp only [Act.put,Mn.q]);clear hHeld2;refine Mn.t 18 ?_;(try simp only [Act.put,Mn.q]);refine wpAnyH_ready (rs:=[19]) (by kernel_rfl) (by simp) ?_;refine AllReadyH.cons rfl (fun K hK=>?_) ?_
                  ·go_simp
                   refine hK.out _ _ ?_ (fun hHeld4=>?_)
                   · (try dsimp only);go_keep
                   clear hK K;(try simp only [Act.put,Mn.q]);clear hHeld3;refine wpAnyH_done (by kernel_rfl) ?_ _;clear hHeld4;clear aV1 aL0 aX2 aX3 aX1 aW2 aW3 aF1;go_wp2_with fail;go_meet
                   case rel =>
                    show PlnS _ _ _ _ _ _ _ _ _ _ _ _;rw [fD _ (q+1),HSTP.out];exact fG LA.out (Nat.le_refl _) (by simp) HBA.out HRA.out HG3.out (fun y hy g9 h9=>by rcases List.mem_append.1 hy with h8 | h8;(have:=(HYB.out y (List.mem_of_mem_take h8) g9 h9).2;omega);rw [List.mem_singleton] at h8;rw [h8] at h9;have:=HLI1.out g9 h9;omega)
                  exact AllReadyH.nil
                 exact AllReadyH.nil
                exact AllReadyH.nil
               refine AllReadyH.cons rfl (fun K hK=>?_) ?_
               ·go_simp
                refine hK.out _ _ ?_ (fun hHeld5=>?_)
                · (try dsimp only);go_keep
                clear hK K;(try simp only [Act.put,Mn.q]);clear hHeld0;refine wpAnyH_ready (rs:=[1]) (by kernel_rfl) (by simp) ?_;refine AllReadyH.cons rfl (fun K hK=>?_) ?_
                ·go_simp
                 refine hK.out _ _ ?_ (fun hHeld6=>?_)
                 · (try dsimp only);go_keep
                 clear hK K;(try simp only [Act.put,Mn.q]);clear hHeld5;refine wpAnyH_ready (rs:=[17]) (by kernel_rfl) (by simp) ?_;refine AllReadyH.cons rfl (fun K hK=>?_) ?_
                 ·(refine g7 (Z:=Z) (X:=(Z.alloc (.cells #[.int .i64 6,.int .i64 0,.int .i64 v.stop,.int .i64 (lf+tt),.int .i64 0,.int .i64 0,.slice lb1 dd lcp1,.int .i64 (T0+tt),.int .i64 (D0+td)] 88)).drew) (cells:=#[.int .i64 6,.int .i64 0,.int .i64 v.stop,.int .i64 (lf+tt),.int .i64 0,.int .i64 0,.slice lb1 dd lcp1,.int .i64 (T0+tt),.int .i64 (D0+td)]) (L:=(List.range (q+1)).map (bG p dd v.shift.1 V (aB p v V))) (ys:=ys.take (q+1)) (base:=w1.heap.size) (b2:=w2.heap.size) (.tmp 224) (.tmp 239) rfl rfl rfl rfl (((Below.refl Z.heap.size Z).alloc (Nat.le_refl _) _).drew) (aF Z _) (st:=⟨6,0,v.stop,lf+tt,0,0,bY p dd V m,T0+tt,D0+td⟩) rfl HRZ.out HQB.out (by omega) (Nat.le_of_lt lX2) HLZ.out HAPT.out ?_;intro g3 cp3 wA r1 hgb r3 r4;have aV1:wA.cell? ⟨w.heap.size+1+1,1,none⟩=some (.int .i64 v.stop):=(World.cell?_of_block (a:=⟨w.heap.size+1+1,1,none⟩) (hgb _ lV0 HNG.out.2.1)).trans zV1;have aL0:wA.cell? ⟨ag,m,none⟩=some (.slice lb1 dd lcp1):=(World.cell?_of_block (a:=⟨ag,m,none⟩) (hgb _ lL0 HNG.out.2.2)).trans zL0;have aX2:wA.cell? ⟨w2.heap.size,2,none⟩=some (.int .i64 (T0+tt)):=(World.cell?_of_block (a:=⟨w2.heap.size,2,none⟩) (hgb _ lX2 HNG.out.1)).trans zX2;have aX3:wA.cell? ⟨w2.heap.size,3,none⟩=some (.int .i64 (D0+td)):=(World.cell?_of_block (a:=⟨w2.heap.size,3,none⟩) (hgb _ lX2 HNG.out.1)).trans zX3;have aX1:wA.cell? ⟨w2.heap.size,1,none⟩=some (.slice (some ⟨g,0,none⟩) (q+1) gc):=(World.cell?_of_block (a:=⟨w2.heap.size,1,none⟩) (hgb w2.heap.size lX2 HNG.out.1)).trans zX1;have HBA:=hide ((hgb w2.heap.size lX2 HNG.out.1).trans BOZ.out);have aF1:=frozen_of_row wA w2.heap.size 1 _ _ HBA.out;have aW2:∀ v,(wA.setCell ⟨w2.heap.size,1,none⟩ v).cell? ⟨w2.heap.size,2,none⟩=some (.int .i64 (T0+tt)):=(fun v=>cell_of_row _ w2.heap.size 2 _ _ _ (heap_setCell_same wA w2.heap.size 1 _ _ _ HBA.out));have aW3:∀ v,(wA.setCell ⟨w2.heap.size,1,none⟩ v).cell? ⟨w2.heap.size,3,none⟩=some (.int .i64 (D0+td)):=(fun v=>cell_of_row _ w2.heap.size 3 _ _ _ (heap_setCell_same wA w2.heap.size 1 _ _ _ HBA.out));have HRA:=hide r1;have HG3:Hid (g3≠w2.heap.size):=(by rcases r3 with e | e;rw [e];exact HGX.out;show _≠_;omega);have LA:Hid (Below w2.heap.size w2 wA):=LZ.out.trans r4;clear r1 r3 r4 hgb)
                  refine hK.out _ _ ?_ (fun hHeld7=>?_)
                  · (try dsimp only);go_keep
                  clear hK K;(try simp only [Act.put,Mn.q]);clear hHeld6;refine Mn.t 18 ?_;(try simp only [Act.put,Mn.q]);refine wpAnyH_ready (rs:=[19]) (by kernel_rfl) (by simp) ?_;refine AllReadyH.cons rfl (fun K hK=>?_) ?_
                  ·go_simp
                   refine hK.out _ _ ?_ (fun hHeld8=>?_)
                   · (try dsimp only);go_keep
                   clear hK K;(try simp only [Act.put,Mn.q]);clear hHeld7;refine wpAnyH_done (by kernel_rfl) ?_ _;clear hHeld8;clear aV1 aL0 aX2 aX3 aX1 aW2 aW3 aF1;go_wp2_with fail;go_meet
                   case rel =>
                    show PlnS _ _ _ _ _ _ _ _ _ _ _ _;rw [fD _ (q+1),HSTP.out];exact fG LA.out (Nat.le_refl _) (by simp) HBA.out HRA.out HG3.out (fun y hy g9 h9=>by rcases List.mem_append.1 hy with h8 | h8;(have:=(HYB.out y (List.mem_of_mem_take h8) g9 h9).2;omega);rw [List.mem_singleton] at h8;rw [h8] at h9;have:=HLI1.out g9 h9;omega)
                  exact AllReadyH.nil
                 exact AllReadyH.nil
                exact AllReadyH.nil
               exact AllReadyH.nil
             case rest =>
               have HPS9:=hcut;clear hcut zX1 zX2 zX3 zV1 zL0 lX2 lV0 lL0 nl6 nl6' iq1 iq2 iq3 iq4;rename World=>z9;obtain ⟨g9,gc9,hb9,hgx9,hr9⟩:=HPS9.out.box;have L9:Hid (Below w2.heap.size w2 z9):=HPS9.out.low;have HB9:=hide hb9;have HR9:=hide hr9;clear hb9 hr9;unfold bV at HB9;have xx0:=cell_of_row _ w2.heap.size 0 _ _ _ HB9.out;have xx1:=cell_of_row _ w2.heap.size 1 _ _ _ HB9.out;have xx2:=cell_of_row _ w2.heap.size 2 _ _ _ HB9.out;have xx3:=cell_of_row _ w2.heap.size 3 _ _ _ HB9.out;have xx4:=cell_of_row _ w2.heap.size 4 _ _ _ HB9.out;have xx5:=cell_of_row _ w2.heap.size 5 _ _ _ HB9.out;have xx6:=cell_of_row _ w2.heap.size 6 _ _ _ HB9.out;simp only [List.getElem?_toArray,List.getElem?_cons_succ,List.getElem?_cons_zero] at xx0 xx1 xx2 xx3 xx4 xx5 xx6;have xf6:=frozen_of_row z9 w2.heap.size 6 _ _ HB9.out;obtain ⟨-,-,-,-,-,-,vg6,vg7,vg8,-,-⟩:=Mn.c11 (fun j=>((aA (below_on E2.out L9.out)).1 _ j (by rw [HWS.out];omega)).trans (HCV.out j));obtain ⟨gc0,gc1,gc2,gc3,gc4,gc5,gc6⟩:=Mn.c7 ((fJ HX6.out (below_on E2.out L9.out) HX3.out).1);obtain ⟨gf0,gf1,gf2,gf3,gf4,gf5,gf6⟩:=Mn.z7 ((fJ HX6.out (below_on E2.out L9.out) HX3.out).2);have nb1:¬ w.heap.size+1=w2.heap.size:=by have:=HSZ.out;omega
               have nb2:¬ w2.heap.size=w.heap.size+1:=by omega
               have HPE2:Hid (dK p k v V=⟨k,(List.range (q+1+1)).map (bG p dd v.shift.1 V (aB p v V)),T0+tt,D0+td,W0,S0,v.fixed+(T0+tt)*v.perT+(D0+td)*v.perD⟩):=by
                 show _=_;have e9:V.length=q:=by rw [HM.out];exact HQE.out.symm
                 unfold dK planS;rw [aO,HDT.out,e9,HE5.out,HE6.out];have w1:aH (bW p.time (aB p v V) v.shift.1) (q+2)=W0:=by show aH _ (q+1)+bW p.time (aB p v V) v.shift.1 (q+1)=_;rw [HW0.out,HWT0.out];omega
                 have w2:aH (fR (aB p v V)) (q+2)=S0:=by show aH _ (q+1)+((aB p v V).getD (q+1) sz).serv=_;rw [HS0.out,HSE.out];show S0+0=S0;omega
                 rw [w1,w2]
               have HE:Hid (dI p v V=0∧(bif decide (dI p v V=0) then dK p k v V else planZ)=dK p k v V):=yeW HFM.out (yP fun j hj=>by
                 by_cases e9:j<q+1
                 · exact HTB.out j e9
                 · have e8:j=q+1:=by rw [HM.out] at hj;have:=HQE.out;omega
                   rw [e8,HBG2.out])
               have fin:∀ w9,(z9.setCell ⟨w2.heap.size,6,none⟩ (.int .i64 (v.fixed+(T0+tt)*v.perT+(D0+td)*v.perD))).grownBy w9 (some (w.heap.size+1))→PlanW w9 w.heap.size (.agg (bV k (.slice (some ⟨g9,0,none⟩) (q+1+1) gc9) (T0+tt) (D0+td) W0 S0 (v.fixed+(T0+tt)*v.perT+(D0+td)*v.perD))) (dK p k v V)∧Below w.heap.size w w9:=fun w9 hf=>by
                 have hsz:=HSZ.out;have h1z:=HWS.out;have h1y:=E1.out.size;have hgA:=(World.ownsRow.lt HR9.out.own g9 rfl).1
                 have hyb:∀ y ∈ ys.take (q+1) ++ [.slice lb1 dd lcp1],∀ g2,y.ownBlock=some g2→w1.heap.size≤g2∧g2<w2.heap.size:=fun y hy g2 h9=>by
                   rcases List.mem_append.1 hy with h8 | h8
                   · exact HYB.out y (List.mem_of_mem_take h8) g2 h9
                   · rw [List.mem_singleton] at h8;exact HYB.out y (by rw [h8];exact List.mem_of_getElem? HY1.out) g2 h9
                 have g1x:z9.grownBy (z9.setCell ⟨w2.heap.size,6,none⟩ (.int .i64 (v.fixed+(T0+tt)*v.perT+(D0+td)*v.perD))) (some w2.heap.size):=aZ (cD _ _) _ _;have r1:=gE HR9.out g1x (fun g2 h9=>by rw [← cF h9];exact hgx9) (fun y hy g2 h9=>by have:=(hyb y hy g2 h9).2;omega);have r2:=gE r1 hf (fun g2 h9=>by rw [← cF h9];omega) (fun y hy g2 h9=>by have:=(hyb y hy g2 h9).1;omega);rw [HPE2.out];refine ⟨⟨some ⟨g9,0,none⟩,q+1+1,gc9,_,rfl,r2.mono (by omega) (by omega),by simp⟩,?_⟩
                 · exact (below_on HE2w.out (L9.out.trans (bD g1x (Nat.le_refl _) L9.out.size))).trans (bD hf (Nat.le_succ _) (below_on HE2w.out (L9.out.trans (bD g1x (Nat.le_refl _) L9.out.size))).size)
               clear HROW HBOX HPS HPS9 HR9 HTB;go_wp2_with fail;refine bodyPost_ret (v:=.tuple #[.agg (bV k (.slice (some ⟨g9,0,none⟩) (q+1+1) gc9) (T0+tt) (D0+td) W0 S0 (v.fixed+(T0+tt)*v.perT+(D0+td)*v.perD)),.int .i64 0]) ?_ rfl (OfQ.good HE.out (fin _ ?_).1 (fin _ ?_).2)
               · simp [results,Try.results38,go_sem,bV,gc0,gc1,gc2,gc3,gc4,gc5,gc6]
               · repeat (first | (with_reducible exact cD _ _) | (with_reducible refine aZ ?_ _ _))
               · repeat (first | (with_reducible exact cD _ _) | (with_reducible refine aZ ?_ _ _))
       · have y9:lf+tt>v.shift.2:=by omega
         have y9':v.shift.2<lf+tt:=by omega
         have HE:Hid (dI p v V=167∧(bif decide (dI p v V=0) then dK p k v V else planZ)=planZ):=xC HFM.out (sG (j:=q+1) (by rw [HM.out];omega) (by rw [HBG.out,yY hto]));obtain ⟨ac0,ac1,ac2,ac3,ac4,ac5,ac6⟩:=Mn.c7 ((fJ HX6.out (below_on E2.out EC.out) HX3.out).1);obtain ⟨af0,af1,af2,af3,af4,af5,af6⟩:=Mn.z7 ((fJ HX6.out (below_on E2.out EC.out) HX3.out).2);go_wp2_with (first | (go_at_call 48;refine (H48t.out _ _ _ (below_on HE2w.out EC.out)).mono ?_;rintro e z3 ⟨rfl,k3⟩;rw [HC1.out];have K3:=hide k3;have L3:=hide (below_on EC.out K3.out);have ve5:z3.cell? ⟨w.heap.size+1+1,5,none⟩=some (.int .i64 v.shift.2):=((aA (below_on E2.out L3.out)).1 _ 5 (by rw [HWS.out];omega)).trans (HCV.out 5);obtain ⟨bc0,bc1,bc2,bc3,bc4,bc5,bc6⟩:=Mn.c7 ((fJ HX6.out (below_on E2.out L3.out) HX3.out).1);obtain ⟨bf0,bf1,bf2,bf3,bf4,bf5,bf6⟩:=Mn.z7 ((fJ HX6.out (below_on E2.out L3.out) HX3.out).2);clear k3 ac0 af0 ac1 af1 ac2 af2 ac3 af3 ac4 af4 ac5 af5 ac6 af6) | fail);refine bodyPost_ret (v:=.tuple #[.agg #[.int .i64 0,.slice none 0 0,.int .i64 0,.int .i64 0,.int .i64 0,.int .i64 0,.int .i64 0],.int .i64 167]) ?_ rfl (OfQ.bad HE.out ?_)
         · simp [results,Try.results38,go_sem, *]
         · (have HBE:=below_on HBW.out (below_on E2.out L3.out);repeat (first | (with_reducible exact HBE) | (with_reducible refine Below.setCell ?_ (by simp) _) | (with_reducible refine Below.drew ?_)))
 ·have y1:(fm != 0)=true:=by simpa using hf0
  have HE:Hid (dI p v V=fm∧(bif decide (dI p v V=0) then dK p k v V else planZ)=planZ):=ycF HFM.out hf0;clear hf0;go_enter Try.func38,Try.ntmps38;go_wp2_with (first | (go_at_call 70;rw [← hW];refine (H70.out _ HBW.out).mono ?_;rintro e w1 ⟨rfl,k1⟩;rw [HFM.out];have E1:=hide k1;obtain ⟨pa0,pa1,pa2,pa3,pa4,pa5,pa6,pa7⟩:=Mn.c8 (fun j=>((aA k1).1 _ j (by rw [HWS.out];omega)).trans (HC.out j));obtain ⟨ac0,ac1,ac2,ac3,ac4,ac5,ac6⟩:=Mn.c7 ((fJ HX6.out k1 HX3.out).1);obtain ⟨af0,af1,af2,af3,af4,af5,af6⟩:=Mn.z7 ((fJ HX6.out k1 HX3.out).2);clear k1) | fail);refine bodyPost_ret (v:=.tuple #[.agg #[.int .i64 0,.slice none 0 0,.int .i64 0,.int .i64 0,.int .i64 0,.int .i64 0,.int .i64 0],.int .i64 fm]) ?_ rfl (OfQ.bad HE.out ?_)
  ·simp [results,Try.results38,go_sem, *]
  ·(have HBE:=below_on HBW.out E1.out;repeat (first | (with_reducible exact HBE) | (with_reducible refine Below.setCell ?_ (by simp) _) | (with_reducible refine Below.drew ?_)))
end Go.Proofs.Ytgjpkpmikbpcnaa
