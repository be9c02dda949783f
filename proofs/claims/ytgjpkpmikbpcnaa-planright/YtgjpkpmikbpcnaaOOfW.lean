import Derived.Deep.RegionHeld3
import Derived.Test.YtgjpkpmikbpcnaaOChSG
namespace Go.Proofs.Ytgjpkpmikbpcnaa
open Go.RowKit
theorem gQ {p:Prb} {vi:Int} {V:List Vst} {q L:Nat} (h:∀ j,j<q→jG p vi V j=true) (e:q=L) (hb:jG p vi V L=true):∀ j,j<q+1→jG p vi V j=true:=fun j hj=>by
 by_cases e2:j<q
 ·exact h j e2
 ·have:j=L:=by omega
  rw [this];exact hb
theorem pQ {w:World} {b:Nat} {A:Array Value} {t j:Nat} (h:w.heap[b]? = some (.cells A t)):w.frozen? ⟨b,j,none⟩=false:=by
 unfold World.frozen?
 simp [h]
set_option maxRecDepth 100000 in
set_option maxHeartbeats 6400000 in
theorem uT {w:World} {x:aU} {p:Prb} {vi:Int} {m vc:Nat} {va:Option Addr} {V:List Vst} (h:PrbV w x p) (hl:aY p=true) (hV:VsV w (.slice va m vc) V) (hm:V.length=m) (hm2:m≤100) (hz:va=none→vc=0) :
  Calls Try.prog 36 #[.agg (aL p x),.int .i64 vi,.slice va m vc] w fun e w'=>∃ v,e=.returned (.tuple #[v,.int .i64 (ofE p vi V)])∧PlanV w' w.heap.size v (ofP p vi V)∧Below w.heap.size w w':=by
 have HL:=hide hl;have HP:=hide h;have HV:=hide hV;have HM:=hide hm;have HZ:=hide hz;obtain ⟨ta,tc,da,dc,va',vc',ja,jc,sa,sc,rfl⟩:=h.open;clear h hV hm hl hz;have HPE:Hid (aL p ⟨.slice ta p.time.cells.length tc,.slice da p.dist.cells.length dc,.slice va' p.vs.length vc',.slice ja p.js.length jc,.slice sa p.ss.length sc⟩=#[.int .i64 p.dims,.int .i64 p.time.n,.slice ta p.time.cells.length tc,.int .i64 p.dist.n,.slice da p.dist.cells.length dc,.slice va' p.vs.length vc',.slice ja p.js.length jc,.slice sa p.ss.length sc]):=rfl;have HTE:Hid (∀ u:Int,cB p ⟨.slice ta p.time.cells.length tc,.slice da p.dist.cells.length dc,.slice va' p.vs.length vc',.slice ja p.js.length jc,.slice sa p.ss.length sc⟩ u (.slice va m vc)=#[.int .i64 p.dims,.int .i64 p.time.n,.slice ta p.time.cells.length tc,.int .i64 p.dist.n,.slice da p.dist.cells.length dc,.slice va' p.vs.length vc',.slice ja p.js.length jc,.slice sa p.ss.length sc,.int .i64 u,.slice va m vc]):=fun _=>rfl;have HCK:Hid (∀ W2 i,Below w.heap.size w W2→i<8→(∀ j,j<i→jG p vi V j=true)→Calls Try.prog (fnC i) #[.agg #[.int .i64 p.dims,.int .i64 p.time.n,.slice ta p.time.cells.length tc,.int .i64 p.dist.n,.slice da p.dist.cells.length dc,.slice va' p.vs.length vc',.slice ja p.js.length jc,.slice sa p.ss.length sc,.int .i64 vi,.slice va m vc]] W2 fun e w'=>e=.returned (.bool (jG p vi V i))∧Below W2.heap.size W2 w'):=fun W2 i hf hi hp=>by have h9:=yaC (vi:=vi) (va:=va) (vc:=vc) (HP.out.on hf) HL.out (PrV.on HV.out hf) HM.out hm2 hi hp;exact h9
 rw [HPE.out];obtain ⟨W,hW⟩:∃ W,W=((w.alloc (.cells #[.int .i64 p.dims,.int .i64 p.time.n,.slice ta p.time.cells.length tc,.int .i64 p.dist.n,.slice da p.dist.cells.length dc,.slice va' p.vs.length vc',.slice ja p.js.length jc,.slice sa p.ss.length sc] 29)).alloc (.cells #[.int .i64 0,.slice none 0 0,.int .i64 0,.int .i64 0,.int .i64 0,.int .i64 0,.int .i64 0] 71)).alloc (.cells #[.int .i64 p.dims,.int .i64 p.time.n,.slice ta p.time.cells.length tc,.int .i64 p.dist.n,.slice da p.dist.cells.length dc,.slice va' p.vs.length vc',.slice ja p.js.length jc,.slice sa p.ss.length sc,.int .i64 vi,.slice va m vc] 121):=⟨_,rfl⟩;have HBW:Hid (Below w.heap.size w W):=by rw [hW];exact (Mn.a.alloc (by simp) _).alloc (by simp;omega) _
 have HWS:Hid (W.heap.size=w.heap.size+3):=by show _=_;rw [hW];simp
 have HC:Hid (∀ j,W.cell? ⟨w.heap.size+2,j,none⟩=(#[.int .i64 p.dims,.int .i64 p.time.n,.slice ta p.time.cells.length tc,.int .i64 p.dist.n,.slice da p.dist.cells.length dc,.slice va' p.vs.length vc',.slice ja p.js.length jc,.slice sa p.ss.length sc,.int .i64 vi,.slice va m vc]:Array Value)[j]?):=fun j=>by
  rw [hW];have:=heap_alloc_new ((w.alloc (.cells #[.int .i64 p.dims,.int .i64 p.time.n,.slice ta p.time.cells.length tc,.int .i64 p.dist.n,.slice da p.dist.cells.length dc,.slice va' p.vs.length vc',.slice ja p.js.length jc,.slice sa p.ss.length sc] 29)).alloc (.cells #[.int .i64 0,.slice none 0 0,.int .i64 0,.int .i64 0,.int .i64 0,.int .i64 0,.int .i64 0] 71)) (.cells #[.int .i64 p.dims,.int .i64 p.time.n,.slice ta p.time.cells.length tc,.int .i64 p.dist.n,.slice da p.dist.cells.length dc,.slice va' p.vs.length vc',.slice ja p.js.length jc,.slice sa p.ss.length sc,.int .i64 vi,.slice va m vc] 121);simp only [World.size_alloc] at this;exact cell_of_row _ _ _ _ _ _ this
 have HX6:Hid (W.heap[w.heap.size+1]? = some (.cells #[.int .i64 0,.slice none 0 0,.int .i64 0,.int .i64 0,.int .i64 0,.int .i64 0,.int .i64 0] 71)):=by
  show _=_;rw [hW,heap_alloc_old _ _ (by simp)];have:=heap_alloc_new (w.alloc (.cells #[.int .i64 p.dims,.int .i64 p.time.n,.slice ta p.time.cells.length tc,.int .i64 p.dist.n,.slice da p.dist.cells.length dc,.slice va' p.vs.length vc',.slice ja p.js.length jc,.slice sa p.ss.length sc] 29)) (.cells #[.int .i64 0,.slice none 0 0,.int .i64 0,.int .i64 0,.int .i64 0,.int .i64 0,.int .i64 0] 71);simp only [World.size_alloc] at this;exact this
 go_enter Try.func36,Try.ntmps36;go_wp2_with (first | (go_at_call 68;refine (yaB _).mono ?_;rintro e w1 ⟨rfl,k1⟩;rw [← hW] at k1;have HK1:=hide k1;clear k1) | fail);have B1:Hid (Below W.heap.size W w1):=by show Below _ _ _;rw [HK1.out];exact Mn.a
 have HL1:Hid (w1.heap.size=w.heap.size+4):=by show _=_;rw [HK1.out];simp [HWS.out]
 have HCC:Hid (∀ j,w1.cell? ⟨w.heap.size+1+1+1,j,none⟩=pR[j]?):=fun j=>by
  have h9:=heap_alloc_new W (.cells pR 126);rw [← HK1.out,HWS.out] at h9;exact cell_of_row _ _ _ _ _ _ h9
 have HX1:Hid (w1.heap[w.heap.size+1]? = some (.cells #[.int .i64 0,.slice none 0 0,.int .i64 0,.int .i64 0,.int .i64 0,.int .i64 0,.int .i64 0] 71)):=(B1.out.block _ (by rw [HWS.out];omega)).trans HX6.out;have HC1:Hid (∀ j,w1.cell? ⟨w.heap.size+1+1,j,none⟩=(#[.int .i64 p.dims,.int .i64 p.time.n,.slice ta p.time.cells.length tc,.int .i64 p.dist.n,.slice da p.dist.cells.length dc,.slice va' p.vs.length vc',.slice ja p.js.length jc,.slice sa p.ss.length sc,.int .i64 vi,.slice va m vc]:Array Value)[j]?):=fun j=>((aA B1.out).1 _ j (by rw [HWS.out];omega)).trans (HC.out j);clear hW HC HX6 HK1;have HBW1:=hide (below_on HBW.out B1.out);clear HBW B1
 go_loopw [17] (fun vq wr=>∃ q:Nat,vq=.int .i64 q∧q≤8∧Hid (∀ j,j<q→jG p vi V j=true)∧Hid (Below w1.heap.size w1 wr)) (fun vq _=>8-(intOf vq).toNat)
 case atStart=>exact ⟨0,rfl,by omega,fun j hj=>by omega,Below.refl _ _⟩
 case round =>
  obtain ⟨q,rfl,hq,HPR,HB⟩:=hrel;have hwr:w.heap.size+4≤wr.heap.size:=by have:=HB.out.size;have:=HL1.out;omega
  have n0:¬ w.heap.size+1=wr.heap.size:=by omega
  have n1:¬ w.heap.size+1+1=wr.heap.size:=by omega
  have n2:¬ w.heap.size+1+1+1=wr.heap.size:=by omega
  have n3:w.heap.size+1<wr.heap.size:=by omega
  have n4:w.heap.size+1+1<wr.heap.size:=by omega
  have HXR:Hid (wr.heap[w.heap.size+1]? = some (.cells #[.int .i64 0,.slice none 0 0,.int .i64 0,.int .i64 0,.int .i64 0,.int .i64 0,.int .i64 0] 71)):=(HB.out.block _ (by rw [HL1.out];omega)).trans HX1.out;obtain ⟨tc0,tc1,tc2,tc3,tc4,tc5,tc6,tc7,tc8,tc9⟩:=Mn.c10 (fun j=>((aA HB.out).1 _ j (by rw [HL1.out];omega)).trans (HC1.out j));have xc0:wr.cell? ⟨w.heap.size+1,0,none⟩=some (.int .i64 0):=cell_of_row _ _ _ _ _ _ HXR.out;have xc1:wr.cell? ⟨w.heap.size+1,1,none⟩=some (.slice none 0 0):=cell_of_row _ _ _ _ _ _ HXR.out;have xc2:wr.cell? ⟨w.heap.size+1,2,none⟩=some (.int .i64 0):=cell_of_row _ _ _ _ _ _ HXR.out;have xc3:wr.cell? ⟨w.heap.size+1,3,none⟩=some (.int .i64 0):=cell_of_row _ _ _ _ _ _ HXR.out;have xc4:wr.cell? ⟨w.heap.size+1,4,none⟩=some (.int .i64 0):=cell_of_row _ _ _ _ _ _ HXR.out;have xc5:wr.cell? ⟨w.heap.size+1,5,none⟩=some (.int .i64 0):=cell_of_row _ _ _ _ _ _ HXR.out;have xc6:wr.cell? ⟨w.heap.size+1,6,none⟩=some (.int .i64 0):=cell_of_row _ _ _ _ _ _ HXR.out
  by_cases hq8:q<8
  ·have i1:(q:Int)<8:=by omega
   have i2:(0:Int)≤(q:Int):=by omega
   have i3:¬ (8:Int)≤(q:Int):=by omega
   have hq9:q=0∨q=1∨q=2∨q=3∨q=4∨q=5∨q=6∨q=7:=by omega
   have HQ8:=hide hq8
   rcases hq9 with hq0 | hq0 | hq0 | hq0 | hq0 | hq0 | hq0 | hq0
   ·have d1:wr.cell? ⟨w.heap.size+1+1+1,q*2,none⟩=some (.func (.func 71) #[] #[]):=by rw [hq0];exact ((aA HB.out).1 _ _ (by rw [HL1.out];omega)).trans (HCC.out 0)
    have d2:wr.cell? ⟨w.heap.size+1+1+1,q*2+1,none⟩=some (.int .i64 160):=by rw [hq0];exact ((aA HB.out).1 _ _ (by rw [HL1.out];omega)).trans (HCC.out 1)
    obtain ⟨b,hb⟩:∃ b,jG p vi V 0=b:=⟨_,rfl⟩;have HBB:=hide hb;have HQ0:=hide hq0;have HCQ:Hid (∀ W2,Below w.heap.size w W2→Calls Try.prog 71 #[.agg #[.int .i64 p.dims,.int .i64 p.time.n,.slice ta p.time.cells.length tc,.int .i64 p.dist.n,.slice da p.dist.cells.length dc,.slice va' p.vs.length vc',.slice ja p.js.length jc,.slice sa p.ss.length sc,.int .i64 vi,.slice va m vc]] W2 fun e w'=>e=.returned (.bool b)∧Below W2.heap.size W2 w'):=fun W2 hf=>by have h9:=HCK.out W2 0 hf (by decide) (by rw [← HQ0.out];exact HPR.out);rw [HBB.out] at h9;exact h9
    clear hb hq0;have hsf:=fun (w:World) (a:Addr)=>run_store Try.prog w a (.func (.func 71) #[] #[]) .plain rfl
    cases b with
    | false =>
     have HE:Hid (ofE p vi V=160):=by have h9:=iQ (p:=p) (vi:=vi) (V:=V) (i:=0) (by decide) (by rw [← HQ0.out];exact HPR.out) HBB.out;exact h9
     have HF:Hid (ofP p vi V=planZ):=eX (by rw [HE.out];decide);go_wp2_with (first | (go_at_call 71;refine (HCQ.out _ (below_on HBW1.out (below_on HB.out Mn.a))).mono ?_;rintro e w2 ⟨rfl,k2⟩;have E2:=hide (below_on ((Below.refl wr.heap.size wr).alloc (Nat.le_refl _) (.cells #[.func (.func 71) #[] #[],.int .i64 160] 126)) k2);have c20:w2.cell? ⟨wr.heap.size,1,none⟩=some (.int .i64 160):=((aA k2).1 _ 1 (by simp)).trans (by simp [go_sem]);have l2:wr.heap.size<w2.heap.size:=(by have:=k2.size;simp at this;omega);obtain ⟨y20,y21,y22,y23,y24,y25,y26,f20,f21,f22,f23,f24,f25,f26⟩:=Mn.x7 (((E2.out.block _ n3).trans HXR.out));have HX2:=hide ((E2.out.block _ n3).trans HXR.out);clear k2) | fail)
     go_region_held3 (fun w'=>w'.cell? ⟨wr.heap.size,1,none⟩=some (.int .i64 160)) (go_keep) (fail)
     all_goals
      go_wp2_with fail;refine bodyPost_ret (v:=.tuple #[.agg #[.int .i64 0,.slice none 0 0,.int .i64 0,.int .i64 0,.int .i64 0,.int .i64 0,.int .i64 0],.int .i64 160]) ?_ rfl ⟨_,by rw [HE.out],by rw [HF.out];exact dJ _ _,?_⟩
      ·simp [results,Try.results36,go_sem, *]
      ·have HBE:=below_on HBW1.out (below_on HB.out E2.out)
       repeat (first | (with_reducible exact HBE) | (with_reducible refine Below.setCell ?_ (by simp) _) | (with_reducible refine Below.drew ?_))
    | true =>
     go_wp2_with (first | (go_at_call 71;refine (HCQ.out _ (below_on HBW1.out (below_on HB.out Mn.a))).mono ?_;rintro e w2 ⟨rfl,k2⟩;have E2:=hide (below_on ((Below.refl wr.heap.size wr).alloc (Nat.le_refl _) (.cells #[.func (.func 71) #[] #[],.int .i64 160] 126)) k2);have c20:w2.cell? ⟨wr.heap.size,1,none⟩=some (.int .i64 160):=((aA k2).1 _ 1 (by simp)).trans (by simp [go_sem]);have l2:wr.heap.size<w2.heap.size:=(by have:=k2.size;simp at this;omega);obtain ⟨y20,y21,y22,y23,y24,y25,y26,f20,f21,f22,f23,f24,f25,f26⟩:=Mn.x7 (((E2.out.block _ n3).trans HXR.out));have HX2:=hide ((E2.out.block _ n3).trans HXR.out);clear k2) | fail);go_roundw
     case rel=>exact ⟨q+1,by go_num,by omega,gQ HPR.out HQ0.out HBB.out,below_on HB.out E2.out⟩
     case measure=>simp [intOf];have:=HQ8.out;omega
   ·have d1:wr.cell? ⟨w.heap.size+1+1+1,q*2,none⟩=some (.func (.func 98) #[] #[]):=by rw [hq0];exact ((aA HB.out).1 _ _ (by rw [HL1.out];omega)).trans (HCC.out 2)
    have d2:wr.cell? ⟨w.heap.size+1+1+1,q*2+1,none⟩=some (.int .i64 161):=by rw [hq0];exact ((aA HB.out).1 _ _ (by rw [HL1.out];omega)).trans (HCC.out 3)
    obtain ⟨b,hb⟩:∃ b,jG p vi V 1=b:=⟨_,rfl⟩;have HBB:=hide hb;have HQ0:=hide hq0;have HCQ:Hid (∀ W2,Below w.heap.size w W2→Calls Try.prog 98 #[.agg #[.int .i64 p.dims,.int .i64 p.time.n,.slice ta p.time.cells.length tc,.int .i64 p.dist.n,.slice da p.dist.cells.length dc,.slice va' p.vs.length vc',.slice ja p.js.length jc,.slice sa p.ss.length sc,.int .i64 vi,.slice va m vc]] W2 fun e w'=>e=.returned (.bool b)∧Below W2.heap.size W2 w'):=fun W2 hf=>by have h9:=HCK.out W2 1 hf (by decide) (by rw [← HQ0.out];exact HPR.out);rw [HBB.out] at h9;exact h9
    clear hb hq0;have hsf:=fun (w:World) (a:Addr)=>run_store Try.prog w a (.func (.func 98) #[] #[]) .plain rfl
    cases b with
    | false =>
     have HE:Hid (ofE p vi V=161):=by have h9:=iQ (p:=p) (vi:=vi) (V:=V) (i:=1) (by decide) (by rw [← HQ0.out];exact HPR.out) HBB.out;exact h9
     have HF:Hid (ofP p vi V=planZ):=eX (by rw [HE.out];decide);go_wp2_with (first | (go_at_call 98;refine (HCQ.out _ (below_on HBW1.out (below_on HB.out Mn.a))).mono ?_;rintro e w2 ⟨rfl,k2⟩;have E2:=hide (below_on ((Below.refl wr.heap.size wr).alloc (Nat.le_refl _) (.cells #[.func (.func 98) #[] #[],.int .i64 161] 126)) k2);have c20:w2.cell? ⟨wr.heap.size,1,none⟩=some (.int .i64 161):=((aA k2).1 _ 1 (by simp)).trans (by simp [go_sem]);have l2:wr.heap.size<w2.heap.size:=(by have:=k2.size;simp at this;omega);obtain ⟨y20,y21,y22,y23,y24,y25,y26,f20,f21,f22,f23,f24,f25,f26⟩:=Mn.x7 (((E2.out.block _ n3).trans HXR.out));have HX2:=hide ((E2.out.block _ n3).trans HXR.out);clear k2) | fail)
     go_region_held3 (fun w'=>w'.cell? ⟨wr.heap.size,1,none⟩=some (.int .i64 161)) (go_keep) (fail)
     all_goals
      go_wp2_with fail;refine bodyPost_ret (v:=.tuple #[.agg #[.int .i64 0,.slice none 0 0,.int .i64 0,.int .i64 0,.int .i64 0,.int .i64 0,.int .i64 0],.int .i64 161]) ?_ rfl ⟨_,by rw [HE.out],by rw [HF.out];exact dJ _ _,?_⟩
      ·simp [results,Try.results36,go_sem, *]
      ·have HBE:=below_on HBW1.out (below_on HB.out E2.out)
       repeat (first | (with_reducible exact HBE) | (with_reducible refine Below.setCell ?_ (by simp) _) | (with_reducible refine Below.drew ?_))
    | true =>
     go_wp2_with (first | (go_at_call 98;refine (HCQ.out _ (below_on HBW1.out (below_on HB.out Mn.a))).mono ?_;rintro e w2 ⟨rfl,k2⟩;have E2:=hide (below_on ((Below.refl wr.heap.size wr).alloc (Nat.le_refl _) (.cells #[.func (.func 98) #[] #[],.int .i64 161] 126)) k2);have c20:w2.cell? ⟨wr.heap.size,1,none⟩=some (.int .i64 161):=((aA k2).1 _ 1 (by simp)).trans (by simp [go_sem]);have l2:wr.heap.size<w2.heap.size:=(by have:=k2.size;simp at this;omega);obtain ⟨y20,y21,y22,y23,y24,y25,y26,f20,f21,f22,f23,f24,f25,f26⟩:=Mn.x7 (((E2.out.block _ n3).trans HXR.out));have HX2:=hide ((E2.out.block _ n3).trans HXR.out);clear k2) | fail);go_roundw
     case rel=>exact ⟨q+1,by go_num,by omega,gQ HPR.out HQ0.out HBB.out,below_on HB.out E2.out⟩
     case measure=>simp [intOf];have:=HQ8.out;omega
   ·have d1:wr.cell? ⟨w.heap.size+1+1+1,q*2,none⟩=some (.func (.func 99) #[] #[]):=by rw [hq0];exact ((aA HB.out).1 _ _ (by rw [HL1.out];omega)).trans (HCC.out 4)
    have d2:wr.cell? ⟨w.heap.size+1+1+1,q*2+1,none⟩=some (.int .i64 162):=by rw [hq0];exact ((aA HB.out).1 _ _ (by rw [HL1.out];omega)).trans (HCC.out 5)
    obtain ⟨b,hb⟩:∃ b,jG p vi V 2=b:=⟨_,rfl⟩;have HBB:=hide hb;have HQ0:=hide hq0;have HCQ:Hid (∀ W2,Below w.heap.size w W2→Calls Try.prog 99 #[.agg #[.int .i64 p.dims,.int .i64 p.time.n,.slice ta p.time.cells.length tc,.int .i64 p.dist.n,.slice da p.dist.cells.length dc,.slice va' p.vs.length vc',.slice ja p.js.length jc,.slice sa p.ss.length sc,.int .i64 vi,.slice va m vc]] W2 fun e w'=>e=.returned (.bool b)∧Below W2.heap.size W2 w'):=fun W2 hf=>by have h9:=HCK.out W2 2 hf (by decide) (by rw [← HQ0.out];exact HPR.out);rw [HBB.out] at h9;exact h9
    clear hb hq0;have hsf:=fun (w:World) (a:Addr)=>run_store Try.prog w a (.func (.func 99) #[] #[]) .plain rfl
    cases b with
    | false =>
     have HE:Hid (ofE p vi V=162):=by have h9:=iQ (p:=p) (vi:=vi) (V:=V) (i:=2) (by decide) (by rw [← HQ0.out];exact HPR.out) HBB.out;exact h9
     have HF:Hid (ofP p vi V=planZ):=eX (by rw [HE.out];decide);go_wp2_with (first | (go_at_call 99;refine (HCQ.out _ (below_on HBW1.out (below_on HB.out Mn.a))).mono ?_;rintro e w2 ⟨rfl,k2⟩;have E2:=hide (below_on ((Below.refl wr.heap.size wr).alloc (Nat.le_refl _) (.cells #[.func (.func 99) #[] #[],.int .i64 162] 126)) k2);have c20:w2.cell? ⟨wr.heap.size,1,none⟩=some (.int .i64 162):=((aA k2).1 _ 1 (by simp)).trans (by simp [go_sem]);have l2:wr.heap.size<w2.heap.size:=(by have:=k2.size;simp at this;omega);obtain ⟨y20,y21,y22,y23,y24,y25,y26,f20,f21,f22,f23,f24,f25,f26⟩:=Mn.x7 (((E2.out.block _ n3).trans HXR.out));have HX2:=hide ((E2.out.block _ n3).trans HXR.out);clear k2) | fail)
     go_region_held3 (fun w'=>w'.cell? ⟨wr.heap.size,1,none⟩=some (.int .i64 162)) (go_keep) (fail)
     all_goals
      go_wp2_with fail;refine bodyPost_ret (v:=.tuple #[.agg #[.int .i64 0,.slice none 0 0,.int .i64 0,.int .i64 0,.int .i64 0,.int .i64 0,.int .i64 0],.int .i64 162]) ?_ rfl ⟨_,by rw [HE.out],by rw [HF.out];exact dJ _ _,?_⟩
      ·simp [results,Try.results36,go_sem, *]
      ·have HBE:=below_on HBW1.out (below_on HB.out E2.out)
       repeat (first | (with_reducible exact HBE) | (with_reducible refine Below.setCell ?_ (by simp) _) | (with_reducible refine Below.drew ?_))
    | true =>
     go_wp2_with (first | (go_at_call 99;refine (HCQ.out _ (below_on HBW1.out (below_on HB.out Mn.a))).mono ?_;rintro e w2 ⟨rfl,k2⟩;have E2:=hide (below_on ((Below.refl wr.heap.size wr).alloc (Nat.le_refl _) (.cells #[.func (.func 99) #[] #[],.int .i64 162] 126)) k2);have c20:w2.cell? ⟨wr.heap.size,1,none⟩=some (.int .i64 162):=((aA k2).1 _ 1 (by simp)).trans (by simp [go_sem]);have l2:wr.heap.size<w2.heap.size:=(by have:=k2.size;simp at this;omega);obtain ⟨y20,y21,y22,y23,y24,y25,y26,f20,f21,f22,f23,f24,f25,f26⟩:=Mn.x7 (((E2.out.block _ n3).trans HXR.out));have HX2:=hide ((E2.out.block _ n3).trans HXR.out);clear k2) | fail);go_roundw
     case rel=>exact ⟨q+1,by go_num,by omega,gQ HPR.out HQ0.out HBB.out,below_on HB.out E2.out⟩
     case measure=>simp [intOf];have:=HQ8.out;omega
   ·have d1:wr.cell? ⟨w.heap.size+1+1+1,q*2,none⟩=some (.func (.func 100) #[] #[]):=by rw [hq0];exact ((aA HB.out).1 _ _ (by rw [HL1.out];omega)).trans (HCC.out 6)
    have d2:wr.cell? ⟨w.heap.size+1+1+1,q*2+1,none⟩=some (.int .i64 163):=by rw [hq0];exact ((aA HB.out).1 _ _ (by rw [HL1.out];omega)).trans (HCC.out 7)
    obtain ⟨b,hb⟩:∃ b,jG p vi V 3=b:=⟨_,rfl⟩;have HBB:=hide hb;have HQ0:=hide hq0;have HCQ:Hid (∀ W2,Below w.heap.size w W2→Calls Try.prog 100 #[.agg #[.int .i64 p.dims,.int .i64 p.time.n,.slice ta p.time.cells.length tc,.int .i64 p.dist.n,.slice da p.dist.cells.length dc,.slice va' p.vs.length vc',.slice ja p.js.length jc,.slice sa p.ss.length sc,.int .i64 vi,.slice va m vc]] W2 fun e w'=>e=.returned (.bool b)∧Below W2.heap.size W2 w'):=fun W2 hf=>by have h9:=HCK.out W2 3 hf (by decide) (by rw [← HQ0.out];exact HPR.out);rw [HBB.out] at h9;exact h9
    clear hb hq0;have hsf:=fun (w:World) (a:Addr)=>run_store Try.prog w a (.func (.func 100) #[] #[]) .plain rfl
    cases b with
    | false =>
     have HE:Hid (ofE p vi V=163):=by have h9:=iQ (p:=p) (vi:=vi) (V:=V) (i:=3) (by decide) (by rw [← HQ0.out];exact HPR.out) HBB.out;exact h9
     have HF:Hid (ofP p vi V=planZ):=eX (by rw [HE.out];decide);go_wp2_with (first | (go_at_call 100;refine (HCQ.out _ (below_on HBW1.out (below_on HB.out Mn.a))).mono ?_;rintro e w2 ⟨rfl,k2⟩;have E2:=hide (below_on ((Below.refl wr.heap.size wr).alloc (Nat.le_refl _) (.cells #[.func (.func 100) #[] #[],.int .i64 163] 126)) k2);have c20:w2.cell? ⟨wr.heap.size,1,none⟩=some (.int .i64 163):=((aA k2).1 _ 1 (by simp)).trans (by simp [go_sem]);have l2:wr.heap.size<w2.heap.size:=(by have:=k2.size;simp at this;omega);obtain ⟨y20,y21,y22,y23,y24,y25,y26,f20,f21,f22,f23,f24,f25,f26⟩:=Mn.x7 (((E2.out.block _ n3).trans HXR.out));have HX2:=hide ((E2.out.block _ n3).trans HXR.out);clear k2) | fail)
     go_region_held3 (fun w'=>w'.cell? ⟨wr.heap.size,1,none⟩=some (.int .i64 163)) (go_keep) (fail)
     all_goals
      go_wp2_with fail;refine bodyPost_ret (v:=.tuple #[.agg #[.int .i64 0,.slice none 0 0,.int .i64 0,.int .i64 0,.int .i64 0,.int .i64 0,.int .i64 0],.int .i64 163]) ?_ rfl ⟨_,by rw [HE.out],by rw [HF.out];exact dJ _ _,?_⟩
      ·simp [results,Try.results36,go_sem, *]
      ·have HBE:=below_on HBW1.out (below_on HB.out E2.out)
       repeat (first | (with_reducible exact HBE) | (with_reducible refine Below.setCell ?_ (by simp) _) | (with_reducible refine Below.drew ?_))
    | true =>
     go_wp2_with (first | (go_at_call 100;refine (HCQ.out _ (below_on HBW1.out (below_on HB.out Mn.a))).mono ?_;rintro e w2 ⟨rfl,k2⟩;have E2:=hide (below_on ((Below.refl wr.heap.size wr).alloc (Nat.le_refl _) (.cells #[.func (.func 100) #[] #[],.int .i64 163] 126)) k2);have c20:w2.cell? ⟨wr.heap.size,1,none⟩=some (.int .i64 163):=((aA k2).1 _ 1 (by simp)).trans (by simp [go_sem]);have l2:wr.heap.size<w2.heap.size:=(by have:=k2.size;simp at this;omega);obtain ⟨y20,y21,y22,y23,y24,y25,y26,f20,f21,f22,f23,f24,f25,f26⟩:=Mn.x7 (((E2.out.block _ n3).trans HXR.out));have HX2:=hide ((E2.out.block _ n3).trans HXR.out);clear k2) | fail);go_roundw
     case rel=>exact ⟨q+1,by go_num,by omega,gQ HPR.out HQ0.out HBB.out,below_on HB.out E2.out⟩
     case measure=>simp [intOf];have:=HQ8.out;omega
   ·have d1:wr.cell? ⟨w.heap.size+1+1+1,q*2,none⟩=some (.func (.func 101) #[] #[]):=by rw [hq0];exact ((aA HB.out).1 _ _ (by rw [HL1.out];omega)).trans (HCC.out 8)
    have d2:wr.cell? ⟨w.heap.size+1+1+1,q*2+1,none⟩=some (.int .i64 164):=by rw [hq0];exact ((aA HB.out).1 _ _ (by rw [HL1.out];omega)).trans (HCC.out 9)
    obtain ⟨b,hb⟩:∃ b,jG p vi V 4=b:=⟨_,rfl⟩;have HBB:=hide hb;have HQ0:=hide hq0;have HCQ:Hid (∀ W2,Below w.heap.size w W2→Calls Try.prog 101 #[.agg #[.int .i64 p.dims,.int .i64 p.time.n,.slice ta p.time.cells.length tc,.int .i64 p.dist.n,.slice da p.dist.cells.length dc,.slice va' p.vs.length vc',.slice ja p.js.length jc,.slice sa p.ss.length sc,.int .i64 vi,.slice va m vc]] W2 fun e w'=>e=.returned (.bool b)∧Below W2.heap.size W2 w'):=fun W2 hf=>by have h9:=HCK.out W2 4 hf (by decide) (by rw [← HQ0.out];exact HPR.out);rw [HBB.out] at h9;exact h9
    clear hb hq0;have hsf:=fun (w:World) (a:Addr)=>run_store Try.prog w a (.func (.func 101) #[] #[]) .plain rfl
    cases b with
    | false =>
     have HE:Hid (ofE p vi V=164):=by have h9:=iQ (p:=p) (vi:=vi) (V:=V) (i:=4) (by decide) (by rw [← HQ0.out];exact HPR.out) HBB.out;exact h9
     have HF:Hid (ofP p vi V=planZ):=eX (by rw [HE.out];decide);go_wp2_with (first | (go_at_call 101;refine (HCQ.out _ (below_on HBW1.out (below_on HB.out Mn.a))).mono ?_;rintro e w2 ⟨rfl,k2⟩;have E2:=hide (below_on ((Below.refl wr.heap.size wr).alloc (Nat.le_refl _) (.cells #[.func (.func 101) #[] #[],.int .i64 164] 126)) k2);have c20:w2.cell? ⟨wr.heap.size,1,none⟩=some (.int .i64 164):=((aA k2).1 _ 1 (by simp)).trans (by simp [go_sem]);have l2:wr.heap.size<w2.heap.size:=(by have:=k2.size;simp at this;omega);obtain ⟨y20,y21,y22,y23,y24,y25,y26,f20,f21,f22,f23,f24,f25,f26⟩:=Mn.x7 (((E2.out.block _ n3).trans HXR.out));have HX2:=hide ((E2.out.block _ n3).trans HXR.out);clear k2) | fail)
     go_region_held3 (fun w'=>w'.cell? ⟨wr.heap.size,1,none⟩=some (.int .i64 164)) (go_keep) (fail)
     all_goals
      go_wp2_with fail;refine bodyPost_ret (v:=.tuple #[.agg #[.int .i64 0,.slice none 0 0,.int .i64 0,.int .i64 0,.int .i64 0,.int .i64 0,.int .i64 0],.int .i64 164]) ?_ rfl ⟨_,by rw [HE.out],by rw [HF.out];exact dJ _ _,?_⟩
      ·simp [results,Try.results36,go_sem, *]
      ·have HBE:=below_on HBW1.out (below_on HB.out E2.out)
       repeat (first | (with_reducible exact HBE) | (with_reducible refine Below.setCell ?_ (by simp) _) | (with_reducible refine Below.drew ?_))
    | true =>
     go_wp2_with (first | (go_at_call 101;refine (HCQ.out _ (below_on HBW1.out (below_on HB.out Mn.a))).mono ?_;rintro e w2 ⟨rfl,k2⟩;have E2:=hide (below_on ((Below.refl wr.heap.size wr).alloc (Nat.le_refl _) (.cells #[.func (.func 101) #[] #[],.int .i64 164] 126)) k2);have c20:w2.cell? ⟨wr.heap.size,1,none⟩=some (.int .i64 164):=((aA k2).1 _ 1 (by simp)).trans (by simp [go_sem]);have l2:wr.heap.size<w2.heap.size:=(by have:=k2.size;simp at this;omega);obtain ⟨y20,y21,y22,y23,y24,y25,y26,f20,f21,f22,f23,f24,f25,f26⟩:=Mn.x7 (((E2.out.block _ n3).trans HXR.out));have HX2:=hide ((E2.out.block _ n3).trans HXR.out);clear k2) | fail);go_roundw
     case rel=>exact ⟨q+1,by go_num,by omega,gQ HPR.out HQ0.out HBB.out,below_on HB.out E2.out⟩
     case measure=>simp [intOf];have:=HQ8.out;omega
   ·have d1:wr.cell? ⟨w.heap.size+1+1+1,q*2,none⟩=some (.func (.func 102) #[] #[]):=by rw [hq0];exact ((aA HB.out).1 _ _ (by rw [HL1.out];omega)).trans (HCC.out 10)
    have d2:wr.cell? ⟨w.heap.size+1+1+1,q*2+1,none⟩=some (.int .i64 165):=by rw [hq0];exact ((aA HB.out).1 _ _ (by rw [HL1.out];omega)).trans (HCC.out 11)
    obtain ⟨b,hb⟩:∃ b,jG p vi V 5=b:=⟨_,rfl⟩;have HBB:=hide hb;have HQ0:=hide hq0;have HCQ:Hid (∀ W2,Below w.heap.size w W2→Calls Try.prog 102 #[.agg #[.int .i64 p.dims,.int .i64 p.time.n,.slice ta p.time.cells.length tc,.int .i64 p.dist.n,.slice da p.dist.cells.length dc,.slice va' p.vs.length vc',.slice ja p.js.length jc,.slice sa p.ss.length sc,.int .i64 vi,.slice va m vc]] W2 fun e w'=>e=.returned (.bool b)∧Below W2.heap.size W2 w'):=fun W2 hf=>by have h9:=HCK.out W2 5 hf (by decide) (by rw [← HQ0.out];exact HPR.out);rw [HBB.out] at h9;exact h9
    clear hb hq0;have hsf:=fun (w:World) (a:Addr)=>run_store Try.prog w a (.func (.func 102) #[] #[]) .plain rfl
    cases b with
    | false =>
     have HE:Hid (ofE p vi V=165):=by have h9:=iQ (p:=p) (vi:=vi) (V:=V) (i:=5) (by decide) (by rw [← HQ0.out];exact HPR.out) HBB.out;exact h9
     have HF:Hid (ofP p vi V=planZ):=eX (by rw [HE.out];decide);go_wp2_with (first | (go_at_call 102;refine (HCQ.out _ (below_on HBW1.out (below_on HB.out Mn.a))).mono ?_;rintro e w2 ⟨rfl,k2⟩;have E2:=hide (below_on ((Below.refl wr.heap.size wr).alloc (Nat.le_refl _) (.cells #[.func (.func 102) #[] #[],.int .i64 165] 126)) k2);have c20:w2.cell? ⟨wr.heap.size,1,none⟩=some (.int .i64 165):=((aA k2).1 _ 1 (by simp)).trans (by simp [go_sem]);have l2:wr.heap.size<w2.heap.size:=(by have:=k2.size;simp at this;omega);obtain ⟨y20,y21,y22,y23,y24,y25,y26,f20,f21,f22,f23,f24,f25,f26⟩:=Mn.x7 (((E2.out.block _ n3).trans HXR.out));have HX2:=hide ((E2.out.block _ n3).trans HXR.out);clear k2) | fail)
     go_region_held3 (fun w'=>w'.cell? ⟨wr.heap.size,1,none⟩=some (.int .i64 165)) (go_keep) (fail)
     all_goals
      go_wp2_with fail;refine bodyPost_ret (v:=.tuple #[.agg #[.int .i64 0,.slice none 0 0,.int .i64 0,.int .i64 0,.int .i64 0,.int .i64 0,.int .i64 0],.int .i64 165]) ?_ rfl ⟨_,by rw [HE.out],by rw [HF.out];exact dJ _ _,?_⟩
      ·simp [results,Try.results36,go_sem, *]
      ·have HBE:=below_on HBW1.out (below_on HB.out E2.out)
       repeat (first | (with_reducible exact HBE) | (with_reducible refine Below.setCell ?_ (by simp) _) | (with_reducible refine Below.drew ?_))
    | true =>
     go_wp2_with (first | (go_at_call 102;refine (HCQ.out _ (below_on HBW1.out (below_on HB.out Mn.a))).mono ?_;rintro e w2 ⟨rfl,k2⟩;have E2:=hide (below_on ((Below.refl wr.heap.size wr).alloc (Nat.le_refl _) (.cells #[.func (.func 102) #[] #[],.int .i64 165] 126)) k2);have c20:w2.cell? ⟨wr.heap.size,1,none⟩=some (.int .i64 165):=((aA k2).1 _ 1 (by simp)).trans (by simp [go_sem]);have l2:wr.heap.size<w2.heap.size:=(by have:=k2.size;simp at this;omega);obtain ⟨y20,y21,y22,y23,y24,y25,y26,f20,f21,f22,f23,f24,f25,f26⟩:=Mn.x7 (((E2.out.block _ n3).trans HXR.out));have HX2:=hide ((E2.out.block _ n3).trans HXR.out);clear k2) | fail);go_roundw
     case rel=>exact ⟨q+1,by go_num,by omega,gQ HPR.out HQ0.out HBB.out,below_on HB.out E2.out⟩
     case measure=>simp [intOf];have:=HQ8.out;omega
   ·have d1:wr.cell? ⟨w.heap.size+1+1+1,q*2,none⟩=some (.func (.func 103) #[] #[]):=by rw [hq0];exact ((aA HB.out).1 _ _ (by rw [HL1.out];omega)).trans (HCC.out 12)
    have d2:wr.cell? ⟨w.heap.size+1+1+1,q*2+1,none⟩=some (.int .i64 166):=by rw [hq0];exact ((aA HB.out).1 _ _ (by rw [HL1.out];omega)).trans (HCC.out 13)
    obtain ⟨b,hb⟩:∃ b,jG p vi V 6=b:=⟨_,rfl⟩;have HBB:=hide hb;have HQ0:=hide hq0;have HCQ:Hid (∀ W2,Below w.heap.size w W2→Calls Try.prog 103 #[.agg #[.int .i64 p.dims,.int .i64 p.time.n,.slice ta p.time.cells.length tc,.int .i64 p.dist.n,.slice da p.dist.cells.length dc,.slice va' p.vs.length vc',.slice ja p.js.length jc,.slice sa p.ss.length sc,.int .i64 vi,.slice va m vc]] W2 fun e w'=>e=.returned (.bool b)∧Below W2.heap.size W2 w'):=fun W2 hf=>by have h9:=HCK.out W2 6 hf (by decide) (by rw [← HQ0.out];exact HPR.out);rw [HBB.out] at h9;exact h9
    clear hb hq0;have hsf:=fun (w:World) (a:Addr)=>run_store Try.prog w a (.func (.func 103) #[] #[]) .plain rfl
    cases b with
    | false =>
     have HE:Hid (ofE p vi V=166):=by have h9:=iQ (p:=p) (vi:=vi) (V:=V) (i:=6) (by decide) (by rw [← HQ0.out];exact HPR.out) HBB.out;exact h9
     have HF:Hid (ofP p vi V=planZ):=eX (by rw [HE.out];decide);go_wp2_with (first | (go_at_call 103;refine (HCQ.out _ (below_on HBW1.out (below_on HB.out Mn.a))).mono ?_;rintro e w2 ⟨rfl,k2⟩;have E2:=hide (below_on ((Below.refl wr.heap.size wr).alloc (Nat.le_refl _) (.cells #[.func (.func 103) #[] #[],.int .i64 166] 126)) k2);have c20:w2.cell? ⟨wr.heap.size,1,none⟩=some (.int .i64 166):=((aA k2).1 _ 1 (by simp)).trans (by simp [go_sem]);have l2:wr.heap.size<w2.heap.size:=(by have:=k2.size;simp at this;omega);obtain ⟨y20,y21,y22,y23,y24,y25,y26,f20,f21,f22,f23,f24,f25,f26⟩:=Mn.x7 (((E2.out.block _ n3).trans HXR.out));have HX2:=hide ((E2.out.block _ n3).trans HXR.out);clear k2) | fail)
     go_region_held3 (fun w'=>w'.cell? ⟨wr.heap.size,1,none⟩=some (.int .i64 166)) (go_keep) (fail)
     all_goals
      go_wp2_with fail;refine bodyPost_ret (v:=.tuple #[.agg #[.int .i64 0,.slice none 0 0,.int .i64 0,.int .i64 0,.int .i64 0,.int .i64 0,.int .i64 0],.int .i64 166]) ?_ rfl ⟨_,by rw [HE.out],by rw [HF.out];exact dJ _ _,?_⟩
      ·simp [results,Try.results36,go_sem, *]
      ·have HBE:=below_on HBW1.out (below_on HB.out E2.out)
       repeat (first | (with_reducible exact HBE) | (with_reducible refine Below.setCell ?_ (by simp) _) | (with_reducible refine Below.drew ?_))
    | true =>
     go_wp2_with (first | (go_at_call 103;refine (HCQ.out _ (below_on HBW1.out (below_on HB.out Mn.a))).mono ?_;rintro e w2 ⟨rfl,k2⟩;have E2:=hide (below_on ((Below.refl wr.heap.size wr).alloc (Nat.le_refl _) (.cells #[.func (.func 103) #[] #[],.int .i64 166] 126)) k2);have c20:w2.cell? ⟨wr.heap.size,1,none⟩=some (.int .i64 166):=((aA k2).1 _ 1 (by simp)).trans (by simp [go_sem]);have l2:wr.heap.size<w2.heap.size:=(by have:=k2.size;simp at this;omega);obtain ⟨y20,y21,y22,y23,y24,y25,y26,f20,f21,f22,f23,f24,f25,f26⟩:=Mn.x7 (((E2.out.block _ n3).trans HXR.out));have HX2:=hide ((E2.out.block _ n3).trans HXR.out);clear k2) | fail);go_roundw
     case rel=>exact ⟨q+1,by go_num,by omega,gQ HPR.out HQ0.out HBB.out,below_on HB.out E2.out⟩
     case measure=>simp [intOf];have:=HQ8.out;omega
   ·have d1:wr.cell? ⟨w.heap.size+1+1+1,q*2,none⟩=some (.func (.func 104) #[] #[]):=by rw [hq0];exact ((aA HB.out).1 _ _ (by rw [HL1.out];omega)).trans (HCC.out 14)
    have d2:wr.cell? ⟨w.heap.size+1+1+1,q*2+1,none⟩=some (.int .i64 167):=by rw [hq0];exact ((aA HB.out).1 _ _ (by rw [HL1.out];omega)).trans (HCC.out 15)
    obtain ⟨b,hb⟩:∃ b,jG p vi V 7=b:=⟨_,rfl⟩;have HBB:=hide hb;have HQ0:=hide hq0;have HCQ:Hid (∀ W2,Below w.heap.size w W2→Calls Try.prog 104 #[.agg #[.int .i64 p.dims,.int .i64 p.time.n,.slice ta p.time.cells.length tc,.int .i64 p.dist.n,.slice da p.dist.cells.length dc,.slice va' p.vs.length vc',.slice ja p.js.length jc,.slice sa p.ss.length sc,.int .i64 vi,.slice va m vc]] W2 fun e w'=>e=.returned (.bool b)∧Below W2.heap.size W2 w'):=fun W2 hf=>by have h9:=HCK.out W2 7 hf (by decide) (by rw [← HQ0.out];exact HPR.out);rw [HBB.out] at h9;exact h9
    clear hb hq0;have hsf:=fun (w:World) (a:Addr)=>run_store Try.prog w a (.func (.func 104) #[] #[]) .plain rfl
    cases b with
    | false =>
     have HE:Hid (ofE p vi V=167):=by have h9:=iQ (p:=p) (vi:=vi) (V:=V) (i:=7) (by decide) (by rw [← HQ0.out];exact HPR.out) HBB.out;exact h9
     have HF:Hid (ofP p vi V=planZ):=eX (by rw [HE.out];decide);go_wp2_with (first | (go_at_call 104;refine (HCQ.out _ (below_on HBW1.out (below_on HB.out Mn.a))).mono ?_;rintro e w2 ⟨rfl,k2⟩;have E2:=hide (below_on ((Below.refl wr.heap.size wr).alloc (Nat.le_refl _) (.cells #[.func (.func 104) #[] #[],.int .i64 167] 126)) k2);have c20:w2.cell? ⟨wr.heap.size,1,none⟩=some (.int .i64 167):=((aA k2).1 _ 1 (by simp)).trans (by simp [go_sem]);have l2:wr.heap.size<w2.heap.size:=(by have:=k2.size;simp at this;omega);obtain ⟨y20,y21,y22,y23,y24,y25,y26,f20,f21,f22,f23,f24,f25,f26⟩:=Mn.x7 (((E2.out.block _ n3).trans HXR.out));have HX2:=hide ((E2.out.block _ n3).trans HXR.out);clear k2) | fail)
     go_region_held3 (fun w'=>w'.cell? ⟨wr.heap.size,1,none⟩=some (.int .i64 167)) (go_keep) (fail)
     all_goals
      go_wp2_with fail;refine bodyPost_ret (v:=.tuple #[.agg #[.int .i64 0,.slice none 0 0,.int .i64 0,.int .i64 0,.int .i64 0,.int .i64 0,.int .i64 0],.int .i64 167]) ?_ rfl ⟨_,by rw [HE.out],by rw [HF.out];exact dJ _ _,?_⟩
      ·simp [results,Try.results36,go_sem, *]
      ·have HBE:=below_on HBW1.out (below_on HB.out E2.out)
       repeat (first | (with_reducible exact HBE) | (with_reducible refine Below.setCell ?_ (by simp) _) | (with_reducible refine Below.drew ?_))
    | true =>
     go_wp2_with (first | (go_at_call 104;refine (HCQ.out _ (below_on HBW1.out (below_on HB.out Mn.a))).mono ?_;rintro e w2 ⟨rfl,k2⟩;have E2:=hide (below_on ((Below.refl wr.heap.size wr).alloc (Nat.le_refl _) (.cells #[.func (.func 104) #[] #[],.int .i64 167] 126)) k2);have c20:w2.cell? ⟨wr.heap.size,1,none⟩=some (.int .i64 167):=((aA k2).1 _ 1 (by simp)).trans (by simp [go_sem]);have l2:wr.heap.size<w2.heap.size:=(by have:=k2.size;simp at this;omega);obtain ⟨y20,y21,y22,y23,y24,y25,y26,f20,f21,f22,f23,f24,f25,f26⟩:=Mn.x7 (((E2.out.block _ n3).trans HXR.out));have HX2:=hide ((E2.out.block _ n3).trans HXR.out);clear k2) | fail);go_roundw
     case rel=>exact ⟨q+1,by go_num,by omega,gQ HPR.out HQ0.out HBB.out,below_on HB.out E2.out⟩
     case measure=>simp [intOf];have:=HQ8.out;omega
  ·have i1:¬ (q:Int)<8:=by omega
   have hq9:q=8:=by omega
   obtain ⟨k,hk0,hk⟩:=fU (HPR.out 0 (by omega));have HPR8:Hid (∀ j,j<8→jG p vi V j=true):=by rw [hq9] at HPR;exact HPR
   have HE:=hide (yeX HPR8.out);have HF:=hide (qU HE.out);have HBR:=hide (qN (p:=p) (k:=vi.toNat) (HPR8.out 2 (by decide)));have HVK:Hid (vi.toNat=k):=by show _=_;rw [hk0];simp
   rw [HVK.out] at HF HBR;have HCP:Hid (∀ W2,Below w.heap.size w W2→Calls Try.prog 69 #[.agg #[.int .i64 p.dims,.int .i64 p.time.n,.slice ta p.time.cells.length tc,.int .i64 p.dist.n,.slice da p.dist.cells.length dc,.slice va' p.vs.length vc',.slice ja p.js.length jc,.slice sa p.ss.length sc,.int .i64 vi,.slice va m vc]] W2 fun e w'=>∃ v,e=.returned v∧PlanV w' W2.heap.size v (dK p vi (p.vs.getD k vz) V)∧Below W2.heap.size W2 w'):=fun W2 hf=>by have h9:=yeO (va:=va) (vc:=vc) (k:=k) (HP.out.on hf) HL.out hk (PrV.on HV.out hf) HM.out (by omega) HBR.out HZ.out;rw [hk0];exact h9
   clear hk0 hk hq9 HPR HPR8 HBR HVK;go_wp2_with (first | (go_at_call 69;refine (HCP.out _ (below_on HBW1.out HB.out)).mono ?_;rintro e w2 ⟨v2,rfl,hpl,k2⟩;have HPL:=hide hpl;have E2:=hide k2;obtain ⟨pa,pn,pc,ys,rfl,_,_,_⟩:=hpl;unfold bV;obtain ⟨y20,y21,y22,y23,y24,y25,y26,f20,f21,f22,f23,f24,f25,f26⟩:=Mn.x7 (((k2.block _ n3).trans HXR.out));clear k2) | fail);refine bodyPost_ret (v:=.tuple #[.agg (bV (dK p vi (p.vs.getD k vz) V).veh (.slice pa pn pc) (dK p vi (p.vs.getD k vz) V).time (dK p vi (p.vs.getD k vz) V).dist (dK p vi (p.vs.getD k vz) V).wait (dK p vi (p.vs.getD k vz) V).serv (dK p vi (p.vs.getD k vz) V).cost),.int .i64 0]) ?_ rfl ⟨_,by rw [HE.out],?_,?_⟩
   ·simp [results,Try.results36,go_sem,bV, *]
   ·rw [HF.out];refine PlanV.mono (HPL.out.set (r:=w.heap.size+1) ?_ n3) (by omega)
    repeat (first | (with_reducible exact cD _ _) | (with_reducible refine aZ ?_ _ _))
   ·have HBE:=below_on HBW1.out (below_on HB.out E2.out)
    repeat (first | (with_reducible exact HBE) | (with_reducible refine Below.setCell ?_ (by simp) _) | (with_reducible refine Below.drew ?_))
end Go.Proofs.Ytgjpkpmikbpcnaa
