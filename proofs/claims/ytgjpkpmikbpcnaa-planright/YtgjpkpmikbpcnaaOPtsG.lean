import Derived.Deep.RegionHeld3
import Derived.Test.YtgjpkpmikbpcnaaOTimG
import Derived.Test.YtgjpkpmikbpcnaaOLgtG
set_option maxRecDepth 100000
set_option maxHeartbeats 6400000
namespace Go.Proofs.Ytgjpkpmikbpcnaa
open Go.RowKit
theorem gU {w:World} {B:Nat} {k i:Int} (h:w.heap[B]? = some (.cells #[.int .i64 k,.int .i64 i] 34)):VsV w (.slice (some ⟨B,0,none⟩) 1 1) [(k,i)]:=by
 refine ⟨some ⟨B,0,none⟩,1,rfl,by simp,fun q hq=>?_⟩;have hq0:q=0:=by simp at hq;omega
 subst hq0;exact ⟨B,0,rfl,cell_of_row _ _ _ _ _ _ h,cell_of_row _ _ _ _ _ _ h⟩
theorem zI {w:World} {x:aU} {p:Prb} {k m vc:Nat} {va:Option Addr} {V:List Vst} (h:PrbV w x p) (hV:VsV w (.slice va m vc) V) (hm:V.length=m) (hm2:m≤110) (hz:va=none→vc=0):Calls Try.prog 105 #[.agg (cB p x k (.slice va m vc))] w fun e w'=>∃ v,e=.returned v∧VsV w' v (cE V)∧Below w.heap.size w w':=by
 have HZ:=hide hz;clear hz;have HB0:Hid (∀ A,Below w.heap.size w (w.alloc A)):=fun A=>(Below.refl _ _).alloc (Nat.le_refl _) A;have HP:=hide h;have HV:=hide hV;have HM:=hide hm;have hmb:m*16≤140737488351232:=by obtain ⟨_,_,e,hb,_⟩:=hV;rw [← hm];exact hb
 clear hV hm;obtain ⟨ta,tc,da,dc,va',vc',ja,jc,sa,sc,rfl⟩:=h.open;clear h;have HTE:Hid (cB p ⟨.slice ta p.time.cells.length tc,.slice da p.dist.cells.length dc,.slice va' p.vs.length vc',.slice ja p.js.length jc,.slice sa p.ss.length sc⟩ k (.slice va m vc)=#[.int .i64 p.dims,.int .i64 p.time.n,.slice ta p.time.cells.length tc,.int .i64 p.dist.n,.slice da p.dist.cells.length dc,.slice va' p.vs.length vc',.slice ja p.js.length jc,.slice sa p.ss.length sc,.int .i64 k,.slice va m vc]):=rfl;rw [HTE.out];obtain ⟨W,hW⟩:∃ W,W=w.alloc (.cells #[.int .i64 p.dims,.int .i64 p.time.n,.slice ta p.time.cells.length tc,.int .i64 p.dist.n,.slice da p.dist.cells.length dc,.slice va' p.vs.length vc',.slice ja p.js.length jc,.slice sa p.ss.length sc,.int .i64 k,.slice va m vc] 121):=⟨_,rfl⟩;have HBW:Hid (Below w.heap.size w W):=by rw [hW];exact HB0.out _
 have HLW:Hid (w.heap.size<W.heap.size):=by show _<_;rw [hW];simp
 have HC:Hid (∀ j,W.cell? ⟨w.heap.size,j,none⟩=(#[.int .i64 p.dims,.int .i64 p.time.n,.slice ta p.time.cells.length tc,.int .i64 p.dist.n,.slice da p.dist.cells.length dc,.slice va' p.vs.length vc',.slice ja p.js.length jc,.slice sa p.ss.length sc,.int .i64 k,.slice va m vc]:Array Value)[j]?):=fun j=>by rw [hW];exact cell_of_row _ _ _ _ _ _ (heap_alloc_new w _)
 have HX:Hid (Calls Try.prog 126 #[.slice (some ⟨W.heap.size+1+1,0,none⟩) 3 3] (((W.alloc (.cells #[.int .i64 5,.int .i64 0] 34)).alloc (.cells #[.int .i64 6,.int .i64 0] 34)).alloc (.cells #[.slice (some ⟨W.heap.size,0,none⟩) 1 1,.slice va m vc,.slice (some ⟨W.heap.size+1,0,none⟩) 1 1] 55)) fun e w'=>∃ v,e=.returned v∧VsV w' v (cE V)∧Below W.heap.size W w'):=by
  have f1:Below W.heap.size W (W.alloc (.cells #[.int .i64 5,.int .i64 0] 34)):=Mn.a;have e1:(W.alloc (.cells #[.int .i64 5,.int .i64 0] 34)).heap.size=W.heap.size+1:=by simp
  have b1:=aF W (.cells #[.int .i64 5,.int .i64 0] 34);obtain ⟨X1,hX1⟩:∃ X1,W.alloc (.cells #[.int .i64 5,.int .i64 0] 34)=X1:=⟨_,rfl⟩;rw [hX1] at f1 e1 b1 ⊢;have f2:Below X1.heap.size X1 (X1.alloc (.cells #[.int .i64 6,.int .i64 0] 34)):=Mn.a;have e2:(X1.alloc (.cells #[.int .i64 6,.int .i64 0] 34)).heap.size=W.heap.size+1+1:=by simp;exact e1
  have b2:=aF X1 (.cells #[.int .i64 6,.int .i64 0] 34);rw [e1] at b2;have b1':=(f2.block W.heap.size (by omega)).trans b1;obtain ⟨X2,hX2⟩:∃ X2,X1.alloc (.cells #[.int .i64 6,.int .i64 0] 34)=X2:=⟨_,rfl⟩;rw [hX2] at f2 e2 b2 b1' ⊢;have f3:Below X2.heap.size X2 (X2.alloc (.cells #[.slice (some ⟨W.heap.size,0,none⟩) 1 1,.slice va m vc,.slice (some ⟨W.heap.size+1,0,none⟩) 1 1] 55)):=Mn.a;have e3:(X2.alloc (.cells #[.slice (some ⟨W.heap.size,0,none⟩) 1 1,.slice va m vc,.slice (some ⟨W.heap.size+1,0,none⟩) 1 1] 55)).heap.size=W.heap.size+1+1+1:=by simp;exact e2
  have b3:=aF X2 (.cells #[.slice (some ⟨W.heap.size,0,none⟩) 1 1,.slice va m vc,.slice (some ⟨W.heap.size+1,0,none⟩) 1 1] 55);rw [e2] at b3;have b2':=(f3.block (W.heap.size+1) (by omega)).trans b2;have b1'':=(f3.block W.heap.size (by omega)).trans b1';obtain ⟨X,hX⟩:∃ X,X2.alloc (.cells #[.slice (some ⟨W.heap.size,0,none⟩) 1 1,.slice va m vc,.slice (some ⟨W.heap.size+1,0,none⟩) 1 1] 55)=X:=⟨_,rfl⟩;rw [hX] at f3 e3 b3 b2' b1'' ⊢;have fX:Below W.heap.size W X:=below_on f1 (below_on f2 f3)
  have hc:CatV X ⟨W.heap.size+1+1,0,none⟩ [(some ⟨W.heap.size,0,none⟩,1,[(5,0)]),(va,vc,V),(some ⟨W.heap.size+1,0,none⟩,1,[(6,0)])]:=⟨fun q a c V' hq=>by
   rw [add0,cell_of_row _ _ _ _ _ _ b3]
   rcases q with _ | _ | _ | q
   ·simp at hq;obtain ⟨rfl,rfl,rfl⟩:=hq;exact ⟨rfl,gU b1'',fun e=>by cases e⟩
   ·simp at hq;obtain ⟨rfl,rfl,rfl⟩:=hq;rw [HM.out];exact ⟨rfl,PrV.on HV.out (below_on HBW.out fX),HZ.out⟩
   ·simp at hq;obtain ⟨rfl,rfl,rfl⟩:=hq;exact ⟨rfl,gU b2',fun e=>by cases e⟩
   ·simp at hq⟩
  have hcl:iK [(some ⟨W.heap.size,0,none⟩,1,[(5,0)]),(va,vc,V),(some ⟨W.heap.size+1,0,none⟩,1,[(6,0)])]=cE V:=by simp [iK,cE]
  refine (yaA (n:=3) (c:=3) hc (by omega) rfl (by rw [hcl,iO];omega) (by rw [hcl,iO,HM.out];omega) (by omega)).mono ?_;rintro e w' ⟨v,rfl,r1,r2⟩;rw [hcl] at r1;exact ⟨v,rfl,r1.vs (by rw [iO,HM.out];omega),below_on fX r2⟩
 have HWS:Hid (W.heap.size=w.heap.size+1):=by show _=_;rw [hW];simp
 rw [HWS.out] at HX;go_enter Try.func105,Try.ntmps105;go_wp2_with fail;rw [← hW];clear hW;obtain ⟨b0,b1,b2,b3,b4,b5,b6,b7,b8,b9⟩:=Mn.c10 (fun j=>((aA (Below.refl _ _)).1 _ j HLW.out).trans (HC.out j));go_wp2_with (first | (go_at_call 126;refine HX.out.mono ?_;rintro e w1 ⟨v,rfl,r1,r2⟩;have HR:=hide r1;have E1:=hide r2;clear r1 r2) | fail);go_ret;exact ⟨_,rfl,HR.out,below_on HBW.out (by rw [HWS.out];exact E1.out)⟩
end Go.Proofs.Ytgjpkpmikbpcnaa
namespace Go.Proofs.Ytgjpkpmikbpcnaa
open Go.RowKit
theorem yO {w:World} {x:aU} {p:Prb} {k m vc:Nat} {va:Option Addr} {V:List Vst} (h:PrbV w x p) (hl:aY p=true) (hV:VsV w (.slice va m vc) V) (hm:V.length=m) (hm2:m≤110):Calls Try.prog 106 #[.agg (cB p x k (.slice va m vc))] w fun e w'=>∃ v ys,e=.returned v∧LdS w' w.heap.size v (dG p p.dims.toNat V) ys∧Sep ys∧Below w.heap.size w w':=by
 have HL:=hide hl;have hdim:=(bF hl).dim;have HD:Hid (∀ xs ∈ bZ p p.dims.toNat V,xs.length=p.dims.toNat):=sY hl V
 have hlast:(bZ p p.dims.toNat V)[m]? = some (dV p (startM p p.dims.toNat V) V):=by
  have h9:=xH (p:=p) (dd:=p.dims.toNat) (V:=V) (q:=m) (by omega);unfold ldQ at h9;rw [List.take_of_length_le (by omega)] at h9;exact h9
 clear hl;have HB0:Hid (∀ A,Below w.heap.size w (w.alloc A)):=fun A=>(Below.refl _ _).alloc (Nat.le_refl _) A;have HP:=hide h;have HV:=hide hV;have HM:=hide hm;have hmb:m*16≤140737488351232:=by obtain ⟨_,_,e,hb,_⟩:=hV;rw [← hm];exact hb
 clear hV hm;obtain ⟨ta,tc,da,dc,va',vc',ja,jc,sa,sc,rfl⟩:=h.open;clear h;have HTE:Hid (cB p ⟨.slice ta p.time.cells.length tc,.slice da p.dist.cells.length dc,.slice va' p.vs.length vc',.slice ja p.js.length jc,.slice sa p.ss.length sc⟩ k (.slice va m vc)=#[.int .i64 p.dims,.int .i64 p.time.n,.slice ta p.time.cells.length tc,.int .i64 p.dist.n,.slice da p.dist.cells.length dc,.slice va' p.vs.length vc',.slice ja p.js.length jc,.slice sa p.ss.length sc,.int .i64 k,.slice va m vc]):=rfl;rw [HTE.out];obtain ⟨W,hW⟩:∃ W,W=w.alloc (.cells #[.int .i64 p.dims,.int .i64 p.time.n,.slice ta p.time.cells.length tc,.int .i64 p.dist.n,.slice da p.dist.cells.length dc,.slice va' p.vs.length vc',.slice ja p.js.length jc,.slice sa p.ss.length sc,.int .i64 k,.slice va m vc] 121):=⟨_,rfl⟩;have HBW:Hid (Below w.heap.size w W):=by rw [hW];exact HB0.out _
 have HLW:Hid (w.heap.size<W.heap.size):=by show _<_;rw [hW];simp
 have HC:Hid (∀ j,W.cell? ⟨w.heap.size,j,none⟩=(#[.int .i64 p.dims,.int .i64 p.time.n,.slice ta p.time.cells.length tc,.int .i64 p.dist.n,.slice da p.dist.cells.length dc,.slice va' p.vs.length vc',.slice ja p.js.length jc,.slice sa p.ss.length sc,.int .i64 k,.slice va m vc]:Array Value)[j]?):=fun j=>by rw [hW];exact cell_of_row _ _ _ _ _ _ (heap_alloc_new w _)
 have H42:Hid (∀ W2,Below w.heap.size w W2→Calls Try.prog 42 #[.agg #[.int .i64 p.dims,.int .i64 p.time.n,.slice ta p.time.cells.length tc,.int .i64 p.dist.n,.slice da p.dist.cells.length dc,.slice va' p.vs.length vc',.slice ja p.js.length jc,.slice sa p.ss.length sc],.slice va m vc] W2 fun e w'=>∃ v ys,e=.returned v∧LdS w' W2.heap.size v (bZ p p.dims.toNat V) ys∧Sep ys∧Below W2.heap.size W2 w'):=fun W2 hf=>by have h9:=sZ (va:=va) (m:=m) (vc:=vc) (HP.out.on hf) HL.out (PrV.on HV.out hf) HM.out hm2;exact h9
 unfold dG;obtain ⟨LL,hLL⟩:∃ LL,bZ p p.dims.toNat V=LL:=⟨_,rfl⟩;obtain ⟨xs,hxs⟩:∃ xs,dV p (startM p p.dims.toNat V) V=xs:=⟨_,rfl⟩;obtain ⟨n,hn⟩:∃ n,LL.length=n:=⟨_,rfl⟩;have hnm:n=m+1:=by rw [← hn,← hLL,eG,HM.out]
 have HN:=hide hn;rw [hLL] at H42 HD hlast ⊢;rw [hxs] at hlast ⊢;have HLA:=hide hlast;have hx3:xs.length≤3:=by rw [HD.out xs (List.mem_of_getElem? hlast)];omega
 have i1:(m:Int)<(n:Int):=by omega
 have i2:(0:Int)≤(m:Int):=by omega
 have i3:¬ (n:Int)≤(m:Int):=by omega
 have hwn:IntKind.i64.wrap ((n:Int)-1)=(m:Int):=by rw [IntKind.wrap_i64];omega
 have hn2:n≤111:=by omega
 clear hLL hxs hn hlast hnm;go_enter Try.func106,Try.ntmps106;go_wp2_with fail;rw [← hW];clear hW;obtain ⟨b0,b1,b2,b3,b4,b5,b6,b7,b8,b9⟩:=Mn.c10 (fun j=>((aA (Below.refl _ _)).1 _ j HLW.out).trans (HC.out j));go_wp2_with (first | (at_builtin;refine vP (wr:=w2) (xs:=xs) (.tmp 9) (.tmp 17) rfl rfl rfl rfl HR2.out HN.out (by omega) HS2.out HU2.out HAP.out ?_;intro g3 cap3 w3 r5 r6 _;have HR3:=hide r5;have B3:Hid (Below w.heap.size w w3):=E2.out.trans r6;clear r5 r6) | (go_at_call 42;refine (H42.out _ HBW.out).mono ?_;rintro e w1 ⟨lv,ys,rfl,Q1,Q2,k1⟩;obtain ⟨sA,sC,rfl⟩:=RowS.shape Q1;rw [HN.out] at Q1 ⊢;have HLR:=hide (LdS.mono Q1 (Nat.le_of_lt HLW.out));have HSE:=hide Q2;have E1:=hide (below_on HBW.out k1);obtain ⟨g,y,rfl,hgl,hyy,c1,hr⟩:=iJ HLR.out HLA.out;obtain ⟨ya,yc,rfl⟩:=IRow.shape hr;have HIV:Hid (IntsV w1 (.slice ya xs.length yc) xs):=⟨ya,yc,rfl,(fun e=>by rw [e] at hr;exact tH hr),(by omega),IRow.ints hr⟩;clear k1 Q1 Q2 hyy hr) | (go_at_call 113;refine (rJ HIV.out).mono ?_;rintro e w2 ⟨u,rfl,R2,k2⟩;have hge:=(fun g hg=>(R2.lt g hg).1);have HU2:Hid (IRow w2 w.heap.size u xs):=bC R2 E1.out.size;obtain ⟨ua,uc,rfl⟩:=IRow.shape HU2.out;have HR2:=hide (LdS.on HLR.out k2);have HAP:Hid (Apt (.slice (some ⟨g,0,none⟩) n sC) (.slice ua xs.length uc)):=pU (w:=w1) (fun g hg=>(World.ownsRow.lt HLR.out.own g hg).2) hge;have HSP:Hid (Sep (ys ++ [Value.slice ua xs.length uc])):=wP HSE.out (fun y hy=>pU (RowS.inH HLR.out y hy) hge);have E2:=hide (below_on E1.out k2);have HS2:Hid (w.heap.size≤w2.heap.size):=E2.out.size;clear k2 R2 hge) | fail);go_ret;exact ⟨_,_,rfl,HR3.out,HSP.out,B3.out⟩
end Go.Proofs.Ytgjpkpmikbpcnaa
namespace Go.Proofs.Ytgjpkpmikbpcnaa
open Go.RowKit
def oO (s:gA) (y:Value):List Value:=[.int .i64 s.kind,.int .i64 s.item,.int .i64 s.place,.int .i64 s.arr,.int .i64 s.wait,.int .i64 s.serv,y,.int .i64 s.time,.int .i64 s.dist]
def SatS (base:Nat) (w:World) (y:Value) (s:gA):Prop:=IRow w base y s.load
theorem eJ (base:Nat):Loc (SatS base):=fun _ _ _ _ h hb=>own_of_block h hb
theorem zQ:(Try.prog.info? 88).map (fun i=>(i.zero,i.size,i.bytes))=some (some (.agg #[.int .i64 0,.int .i64 0,.int .i64 0,.int .i64 0,.int .i64 0,.int .i64 0,.slice none 0 0,.int .i64 0,.int .i64 0]),9,88):=by kernel_rfl
def StpR (w:World) (base b2:Nat) (v:Value) (L:List gA) (ys:List Value):Prop:=RowS 88 9 oO (SatS base) w b2 v L ys
def bV (vi:Int) (v:Value) (tm ds wt sv co:Int):Array Value:=#[.int .i64 vi,v,.int .i64 tm,.int .i64 ds,.int .i64 wt,.int .i64 sv,.int .i64 co]
structure PlnS (w3:World) (base x6:Nat) (vi:Int) (ys:List Value) (L:List gA) (tm ds wt sv:Int) (q:Nat) (wr:World):Prop where
 low:Below w3.heap.size w3 wr
 x6a:w3.heap.size≤x6
 len:L.length=q
 box:∃ g gc,wr.heap[x6]? = some (.cells (bV vi (.slice (some ⟨g,0,none⟩) q gc) tm ds wt sv 0) 71 (0,0))∧g≠x6∧StpR wr base w3.heap.size (.slice (some ⟨g,0,none⟩) q gc) L ys
theorem bQ {w w':World} {r:Option Nat} (h:Below w.heap.size w w'):w.grownBy w' r:=⟨h.os,h.tape,h.output,h.size,fun k hk _=>h.block k hk⟩
theorem dX {a b c:World} {r:Option Nat} (h:a.grownBy b r) (k:b.grownBy c r):a.grownBy c r:=⟨k.os.trans h.os,k.tape.trans h.tape,k.output.trans h.output,Nat.le_trans h.size k.size,fun q hq hn=>(k.block q (Nat.lt_of_lt_of_le hq h.size) hn).trans (h.block q hq hn)⟩
theorem gE {w w':World} {base b2 x6:Nat} {v:Value} {L:List gA} {ys:List Value} (h:StpR w base b2 v L ys) (hg:w.grownBy w' (some x6)) (hv:∀ g,v.ownBlock=some g→g≠x6) (hy:∀ y ∈ ys,∀ g,y.ownBlock=some g→g≠x6):StpR w' base b2 v L ys :=
 RowS.of_block h (eJ base) hg.size (fun g hv'=>hg.block g (World.ownsRow.lt h.own g hv').2 fun e=>hv g hv' (by injection e)) (fun y hy' g hg'=>hg.block g (RowS.inH h y hy' g hg') fun e=>hy y hy' g hg' (by injection e))
theorem fG {w3 wA:World} {base x6 q g3 cp3:Nat} {vi tm ds wt sv:Int} {v0:Value} {ys:List Value} {L:List gA} (low:Below w3.heap.size w3 wA) (x6a:w3.heap.size≤x6) (len:L.length=q) (hbox:wA.heap[x6]? = some (.cells (bV vi v0 tm ds wt sv 0) 71 (0,0))) (hrow:StpR wA base w3.heap.size (.slice (some ⟨g3,0,none⟩) q cp3) L ys) (hg3:g3≠x6) (hy:∀ y ∈ ys,∀ g,y.ownBlock=some g→g≠x6):PlnS w3 base x6 vi ys L tm ds wt sv q (wA.setCell ⟨x6,1,none⟩ (.slice (some ⟨g3,0,none⟩) q cp3)):=by
 have hg:wA.grownBy (wA.setCell ⟨x6,1,none⟩ (.slice (some ⟨g3,0,none⟩) q cp3)) (some x6):=aZ (cD _ _) _ _;exact ⟨low.trans (bD hg x6a low.size),x6a,len,g3,cp3,heap_setCell_same wA x6 1 _ _ _ hbox,hg3,gE hrow hg (fun g h9=>by rw [← cF h9];exact hg3) hy⟩
theorem fD {α:Type} (f:Nat→α) (q:Nat):(List.range (q+1)).map f=(List.range q).map f ++ [f q]:=by rw [List.range_succ,List.map_append];rfl
theorem jB {ys:List Value} {q:Nat} {y:Value} (h:ys[q]? = some y):ys.take (q+1)=ys.take q ++ [y]:=by
 obtain ⟨hk,e⟩:=List.getElem?_eq_some_iff.1 h;rw [List.take_succ_eq_append_getElem hk,e]
theorem PlnS.lt {w3 wr:World} {base x6 q:Nat} {vi tm ds wt sv:Int} {ys:List Value} {L:List gA} (h:PlnS w3 base x6 vi ys L tm ds wt sv q wr):x6<wr.heap.size:=by
 obtain ⟨g,gc,hb,_⟩:=h.box;exact aD hb
theorem PlnS.on {w3 wr w':World} {base x6 q:Nat} {vi tm ds wt sv:Int} {ys:List Value} {L:List gA} (h:PlnS w3 base x6 vi ys L tm ds wt sv q wr) (f:Below wr.heap.size wr w'):PlnS w3 base x6 vi ys L tm ds wt sv q w':=by
 obtain ⟨g,gc,hb,hn,hr⟩:=h.box;exact ⟨h.low.trans (f.mono h.low.size),h.x6a,h.len,g,gc,(f.block x6 (aD hb)).trans hb,hn,RowS.on hr (eJ base) f⟩
theorem zL (n:Nat) (hn:n≤1000) (w:World):(Instr.makeSlice 69 (.int .i64 0) (.int .i64 n)).run Try.prog w=.ok (.slice (some ⟨w.heap.size,0,none⟩) 0 n) (w.alloc (.cells (madeCells (Value.agg #[.int .i64 0,.int .i64 0,.int .i64 0,.int .i64 0,.int .i64 0,.int .i64 0,.slice none 0 0,.int .i64 0,.int .i64 0]).cells (n*9)) 88)):=by
 obtain ⟨i0,hi0,hz0,hz1,hz2⟩:=info_parts zQ;have:=run_makeSlice (P:=Try.prog) w 69 88 i0 _ Try.underlying69 hi0 hz0 .i64 .i64 0 n (by omega) (by omega) (by rw [hz1];omega) (by rw [hz2];omega) (by omega);rw [hz1] at this;simp only [Int.toNat_natCast,Int.toNat_zero] at this;exact this
theorem xG {w:World} {base n:Nat} {z:Array Value} (hb:base≤w.heap.size) (hn:n≤1000):(w.alloc (.cells (madeCells z (n*9)) 88)).ownsRow base 88 9 (.slice (some ⟨w.heap.size,0,none⟩) 0 n) 0 []:=World.ownsRow_made w _ n hb (by unfold maxLen;omega) (by rw [size_madeCells])
theorem plns_a {w3:World} {base n:Nat} {z:Array Value} {vi:Int} (hn:n≤1000):PlnS w3 base (w3.heap.size+1) vi [] [] 0 0 0 0 0 ((w3.alloc (.cells (madeCells z (n*9)) 88)).alloc (.cells #[.int .i64 vi,.slice (some ⟨w3.heap.size,0,none⟩) 0 n,.int .i64 0,.int .i64 0,.int .i64 0,.int .i64 0,.int .i64 0] 71)).drew:=by
 have e1:(w3.alloc (.cells (madeCells z (n*9)) 88)).heap.size=w3.heap.size+1:=by simp
 have f1:Below w3.heap.size w3 (w3.alloc (.cells (madeCells z (n*9)) 88)):=Mn.a;have r1:=xG (w:=w3) (base:=w3.heap.size) (n:=n) (z:=z) (Nat.le_refl _) hn;obtain ⟨X,hX⟩:∃ X,w3.alloc (.cells (madeCells z (n*9)) 88)=X:=⟨_,rfl⟩;rw [hX] at e1 f1 r1 ⊢;refine ⟨(f1.alloc (by omega) _).drew,by omega,rfl,w3.heap.size,n,?_,by omega,RowS.nil (World.ownsRow.alloc r1 _)⟩;have:=aF X (.cells #[.int .i64 vi,.slice (some ⟨w3.heap.size,0,none⟩) 0 n,.int .i64 0,.int .i64 0,.int .i64 0,.int .i64 0,.int .i64 0] 71);rw [e1] at this;exact this
theorem plns_b {w3:World} {base n:Nat} {z:Array Value} {vi:Int} (hn:n≤1000):PlnS w3 base w3.heap.size vi [] [] 0 0 0 0 0 ((w3.alloc (.cells #[.int .i64 vi,.slice (some ⟨w3.heap.size+1,0,none⟩) 0 n,.int .i64 0,.int .i64 0,.int .i64 0,.int .i64 0,.int .i64 0] 71)).alloc (.cells (madeCells z (n*9)) 88)).drew:=by
 have e1:(w3.alloc (.cells #[.int .i64 vi,.slice (some ⟨w3.heap.size+1,0,none⟩) 0 n,.int .i64 0,.int .i64 0,.int .i64 0,.int .i64 0,.int .i64 0] 71)).heap.size=w3.heap.size+1:=by simp
 have f1:Below w3.heap.size w3 (w3.alloc (.cells #[.int .i64 vi,.slice (some ⟨w3.heap.size+1,0,none⟩) 0 n,.int .i64 0,.int .i64 0,.int .i64 0,.int .i64 0,.int .i64 0] 71)):=Mn.a;have b1:=aF w3 (.cells #[.int .i64 vi,.slice (some ⟨w3.heap.size+1,0,none⟩) 0 n,.int .i64 0,.int .i64 0,.int .i64 0,.int .i64 0,.int .i64 0] 71);obtain ⟨X,hX⟩:∃ X,w3.alloc (.cells #[.int .i64 vi,.slice (some ⟨w3.heap.size+1,0,none⟩) 0 n,.int .i64 0,.int .i64 0,.int .i64 0,.int .i64 0,.int .i64 0] 71)=X:=⟨_,rfl⟩;rw [hX] at e1 f1 b1 ⊢;have r1:=xG (w:=X) (base:=w3.heap.size) (n:=n) (z:=z) (by omega) hn;rw [e1] at r1;exact ⟨(f1.alloc (by omega) _).drew,Nat.le_refl _,rfl,w3.heap.size+1,n,(Below.heap_alloc X _ _ (by omega)).trans b1,by omega,RowS.nil r1⟩
theorem StpR.mono {w:World} {base b2 base' b2':Nat} {v:Value} {L:List gA} {ys:List Value} (h:StpR w base b2 v L ys) (h1:base'≤base) (h2:b2'≤b2):StpR w base' b2' v L ys:=⟨h.len,bC h.own h2,fun k x y hx hy=>⟨IRow.mono (h.sat k x y hx hy).1 h1,(h.sat k x y hx hy).2⟩⟩
theorem oH {t c:Int} (h1:-110≤t) (h2:t≤3520000000) (h3:0≤c) (h4:c≤1000000):-110000000≤t*c∧t*c≤3520000000000000:=by
 have a1:=Int.mul_le_mul_of_nonneg_right h2 h3;have a2:=Int.mul_le_mul_of_nonneg_right h1 h3
 omega
theorem g7 {Z X:World} {base b2 g q gc:Nat} {la:Option Addr} {ln lcp:Nat} {L:List gA} {ys:List Value} {st:gA} {cells:Array Value} {ops:Array Oper} {o:Oper} {a:Act} {K:Act→World→Prop} {Q:Exit→Act→World→Prop} {E:Prop} (s xo:Operand) (hgd:o.guard=none)
  (ho:o.op=.call { callee:=.builtin .append,args:=#[s,xo],argTypes:=#[69,69] }) (hs:a.eval s=.slice (some ⟨g,0,none⟩) q gc) (hx:a.eval xo=.slice (some ⟨Z.heap.size,0,none⟩) 1 1)
  (BZ:Below Z.heap.size Z X) (hblk:X.heap[Z.heap.size]? = some (.cells cells 88)) (hcs:cells.toList=oO st (.slice la ln lcp)) (hrow:StpR Z base b2 (.slice (some ⟨g,0,none⟩) q gc) L ys) (hlen:L.length=q) (hq:q≤200) (hb:b2≤Z.heap.size) (hu:IRow Z base (.slice la ln lcp) st.load) (hap:Apt (.slice (some ⟨g,0,none⟩) q gc) (.slice la ln lcp))
  (h:∀ g3 cp3 wA,StpR wA base b2 (.slice (some ⟨g3,0,none⟩) (q+1) cp3) (L ++ [st]) (ys ++ [.slice la ln lcp])→(∀ b,b<Z.heap.size→b≠g→wA.heap[b]? = Z.heap[b]?)→(g3=g∨Z.heap.size≤g3)→Below b2 Z wA→K (a.put o.dst (.slice (some ⟨g3,0,none⟩) (q+1) cp3)) wA):if Region.wanted o (yielded ops a.tmps)=true then Oper.wp Try.prog o a X K Q else E:=by
 refine jK (e:=88) (z:=9) (t:=69) (enc:=oO) (Sat:=SatS base) (fun _ _=>rfl) (by decide) (eJ _) zQ rfl Try.underlying69 s xo hgd ho hs hx hblk (RowS.on hrow (eJ _) BZ) hlen (by omega) (by omega) (Nat.le_trans hb BZ.size) hcs (by intro u hu;simp [oO] at hu;rcases hu with rfl | rfl | rfl | rfl | rfl | rfl | rfl | rfl | rfl <;> rfl) (hu.later (Nat.le_refl _) BZ) (InH.on (jQ hu) BZ) hap ?_;intro g3 cp3 wA r1 r2 r3;refine h g3 cp3 wA r1 (fun b hb hn=>(r2.block b (Nat.lt_of_lt_of_le hb BZ.size) fun e=>hn (by injection e)).trans (BZ.block b hb)) ?_ ((BZ.mono hb).grown r2 (Nat.le_trans hb BZ.size) fun q' h9=>(World.ownsRow.lt hrow.own q' h9).1)
 rcases r3 with e | ⟨e,_⟩
 ·have e:some g3=some g:=e;injection e with e;exact .inl e
 ·exact .inr (by rw [e];exact BZ.size)
end Go.Proofs.Ytgjpkpmikbpcnaa
namespace Go.Proofs.Ytgjpkpmikbpcnaa
open Go.RowKit
theorem aG {P:Program} {ops:Array Oper} {o:Oper} {a:Act} {w:World} {K:Act→World→Prop} {Q:Exit→Act→World→Prop} {E:Prop}
  (hw:Region.wanted o (yielded ops a.tmps)=true) (f:FuncId) (xs:Array Operand) (ts:Array TypeId) (hop:o.op=Op.call { callee:=Callee.value (Operand.func f),args:=xs,argTypes:=ts })
  (hent:∀ args w,(callFunc f args).run P w=.ok (.enter f args) w) (vs:List Value) (hx:xs.toList.map a.eval=vs)
  (H:Calls P f vs.toArray w fun e w'=>∃ v,e=.returned v∧K (a.put o.dst v) w') :
  if Region.wanted o (yielded ops a.tmps)=true then Oper.wp P o a w K Q else E:=by
 rw [if_pos hw]
 have he:(execOp a.eval o).run P w=.ok (.enter f vs.toArray) w:=by
  have hx':xs.map a.eval=vs.toArray:=by rw [← hx];apply Array.ext';simp
  rw [← hx']
  simp [execOp,hop,resolve,invoke,hent,go_sem]
 unfold Oper.wp;rw [he,Oper.upon_enter];refine H.mono ?_;rintro e w' ⟨v,rfl,hR⟩;exact hR
end Go.Proofs.Ytgjpkpmikbpcnaa
