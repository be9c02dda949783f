import Derived.Deep.RegionHeld3
import Derived.Test.YtgjpkpmikbpcnaaOFitPG
namespace Go.Proofs.Ytgjpkpmikbpcnaa
open Go.RowKit
def fE (p:Prb) (v:Veh) (V:List Vst) (i k:Nat) (left:Int):Option (List Nat):=if i=V.length+2 then (if k=v.brks.length then some [] else none) else iN p v (v.brks.drop k) ((aB p v V).getD (i-1) sz).place left (i-1) (V.drop (i-1))
theorem vG {p:Prb} {v:Veh} {V:List Vst} (k:Nat) (left:Int):fE p v V (V.length+2) k left=if k=v.brks.length then some [] else none:=by unfold fE;rw [if_pos rfl]
theorem oL {p:Prb} {v:Veh} {V:List Vst} {j:Nat} (h:j≤V.length) (k:Nat) (left:Int):fE p v V (j+1) k left=iN p v (v.brks.drop k) ((aB p v V).getD j sz).place left j (V.drop j):=by unfold fE;rw [if_neg (by omega)];rfl
theorem ya9 {V:List Vst} {j:Nat} {u:Vst} (h:V[j]? = some u):V.drop j=u::V.drop (j+1):=by
 obtain ⟨hj,e⟩:=List.getElem?_eq_some_iff.1 h;rw [List.drop_eq_getElem_cons hj,e]
theorem yfK {p:Prb} {v:Veh} {V:List Vst} {j:Nat} (h:j≤V.length) (left:Int):fE p v V (j+1) v.brks.length left=bif (Hr.startM (left+aE p.time (aB p v V) (j+1)) ((aB p v V).getD (j+1) sz).wins).2 then fE p v V (j+2) v.brks.length ((Hr.startM (left+aE p.time (aB p v V) (j+1)) ((aB p v V).getD (j+1) sz).wins).1+((aB p v V).getD (j+1) sz).serv) else none:=by
 rw [oL h,List.drop_length,aJ];show (bif goT p v _ _ _ then some [] else none)=_
 by_cases hj:j<V.length
 ·obtain ⟨u,hu⟩:∃ u,V[j]? = some u:=⟨_,List.getElem?_eq_getElem hj⟩;rw [ya9 hu,gD hu,oL (by omega),List.drop_length,gD hu];show (bif (_ && goT p v _ _ _) then some [] else none)=bif _ then (bif goT p v _ _ _ then some [] else none) else none
  cases (Hr.startM (left+aK p.time ((aB p v V).getD j sz).place (aM p v ((aB p v V).getD j sz).place u).place) (aM p v ((aB p v V).getD j sz).place u).wins).2 <;> rfl
 ·have e:j=V.length:=by omega
  subst e;rw [List.drop_length,vG,if_pos rfl,fQ]
  rfl
theorem ya4 {p:Prb} {v:Veh} {V:List Vst} {j k:Nat} (h:j≤V.length) (hk:k<v.brks.length) (left:Int):fE p v V (j+1) k left =
  match (bif (Hr.startM left (v.brks.getD k bz).wins).2 then fE p v V (j+1) (k+1) ((Hr.startM left (v.brks.getD k bz).wins).1+(v.brks.getD k bz).serv) else none) with
  | some ps=>some (j::ps)
  | none=>bif (Hr.startM (left+aE p.time (aB p v V) (j+1)) ((aB p v V).getD (j+1) sz).wins).2 then fE p v V (j+2) k ((Hr.startM (left+aE p.time (aB p v V) (j+1)) ((aB p v V).getD (j+1) sz).wins).1+((aB p v V).getD (j+1) sz).serv) else none:=by
 have hd:v.brks.drop k=v.brks.getD k bz::v.brks.drop (k+1):=tK _ _ _ hk;rw [oL h,oL h,hd,aJ]
 by_cases hj:j<V.length
 ·obtain ⟨u,hu⟩:∃ u,V[j]? = some u:=⟨_,List.getElem?_eq_getElem hj⟩;rw [ya9 hu,gD hu,oL (by omega),gD hu,hd]
  rfl
 ·have e:j=V.length:=by omega
  subst e;rw [List.drop_length,vG,if_neg (by omega)];show (bif _ then Option.map _ _ else none)=_
  cases (Hr.startM left (v.brks.getD k bz).wins).2 with
  | false=>simp
  | true =>
   rw [cond_true,cond_true]
   cases iN p v (v.brks.drop (k+1)) ((aB p v V).getD V.length sz).place ((Hr.startM left (v.brks.getD k bz).wins).1+(v.brks.getD k bz).serv) V.length [] with
   | none=>simp
   | some ps=>rfl
theorem ycU {p:Prb} {v:Veh} {V:List Vst}:fE p v V 1 0 v.shift.1=eE p v V:=by
 rw [oL (Nat.zero_le _),cK]
 rfl
theorem xD {α:Type} [BEq α] [LawfulBEq α]:∀ (L M:List α),L.Nodup→(∀ x ∈ L,x ∈ M)→L.length≤M.length
 | [],_,_,_=>Nat.zero_le _
 | x::L,M,hn,hs=>by
  rw [List.nodup_cons] at hn;have hx:x ∈ M:=hs x (by simp);have:=xD L (M.erase x) hn.2 fun y hy=>(List.mem_erase_of_ne fun e=>hn.1 (by rw [← e];exact hy)).2 (hs y (by simp [hy]));rw [List.length_erase_of_mem hx] at this;have h1:0<M.length:=List.length_pos_of_mem hx;simp only [List.length_cons]
  omega
theorem yeY {V:List Vst} (h:∀ (i:Nat) (u:Vst),V[i]? = some u→u ∉ V.take i):V.Nodup:=by
 rw [List.nodup_iff_pairwise_ne,List.pairwise_iff_getElem];intro i j hi hj hij e;refine h j V[j] (List.getElem?_eq_getElem hj) ?_;rw [← e];exact List.mem_iff_getElem?.2 ⟨i,by rw [List.getElem?_take_of_lt hij,List.getElem?_eq_getElem hi]⟩
theorem ybP {p:Prb} {V:List Vst} (hl:aY p=true) (hV:∀ u ∈ V,u.1≠4) (h:aQ p V=true):V.length≤24:=by
 have hw:=(dE p V).1 h;have hn:V.Nodup:=yeY fun i u hu=>(hw.1 i u hu (hV u (List.mem_of_getElem? hu))).2.1
 have hs:∀ x ∈ V,x ∈ (List.range p.js.length).map (fun i:Nat=>((1,(i:Int)):Vst)) ++ ((List.range p.ss.length).map (fun i:Nat=>((2,(i:Int)):Vst)) ++ (List.range p.ss.length).map (fun i:Nat=>((3,(i:Int)):Vst))):=fun x hx=>by
  obtain ⟨i,hi⟩:=List.getElem?_of_mem hx;have ht:=(hw.1 i x hi (hV x hx)).1;obtain ⟨k,it⟩:=x
  rcases aN ht with ⟨e1,j,e2,hj,_⟩ | ⟨e1,j,e2,hj,_⟩ | ⟨e1,j,e2,hj,_⟩ <;> (simp only at e1 e2;subst e1 e2)
  ·exact List.mem_append_left _ (List.mem_map.2 ⟨j,List.mem_range.2 hj,rfl⟩)
  ·exact List.mem_append_right _ (List.mem_append_left _ (List.mem_map.2 ⟨j,List.mem_range.2 hj,rfl⟩))
  ·exact List.mem_append_right _ (List.mem_append_right _ (List.mem_map.2 ⟨j,List.mem_range.2 hj,rfl⟩))
 have:=xD V _ hn hs;have ht:=(bF hl).ts;simp only [List.length_append,List.length_map,List.length_range] at this
 omega
end Go.Proofs.Ytgjpkpmikbpcnaa
namespace Go.Proofs.Ytgjpkpmikbpcnaa
open Go.RowKit
structure SrW (w:World) (p:Prb) (v:Veh) (V:List Vst) (sb ab nS nb tc sC bc:Nat) (ta sA ba:Option Addr) (A:List Int):Prop where
 box:w.heap[sb]? = some (.cells #[.int .i64 p.time.n,.slice ta p.time.cells.length tc,.slice sA nS sC,.slice ba nb bc,.slice (some ⟨ab,0,none⟩) nb nb] 135)
 row:w.heap[ab]? = some (.cells (A.map (Value.int .i64)).toArray 3)
 ne:sb≠ab
 len:A.length=nb
 mat:IntsV w (.slice ta p.time.cells.length tc) p.time.cells
 stp:eT w (.slice sA nS sC) (aB p v V)
 brk:BrksV w (.slice ba nb bc) v.brks
section
variable {w w':World} {p:Prb} {v:Veh} {V:List Vst} {sb ab nS nb tc sC bc:Nat} {ta sA ba:Option Addr} {A:List Int}
theorem SrW.on (h:SrW w p v V sb ab nS nb tc sC bc ta sA ba A) (f:Below w.heap.size w w'):SrW w' p v V sb ab nS nb tc sC bc ta sA ba A :=
 ⟨(f.block sb (aD h.box)).trans h.box,(f.block ab (aD h.row)).trans h.row,h.ne,h.len,h.mat.on f,SlV.on h.stp f (by decide) fun _ _=>StpV.on f,h.brk.on f⟩
end
def FrmQ (w:World) (ab:Nat) (A:List Int) (k:Nat) (r:Option (List Nat)) (e:Ending) (w':World):Prop:=(r=none→e=.returned (.bool false)∧Below w.heap.size w w')∧∀ ps,r=some ps→e=.returned (.bool true)∧w.grownBy w' (some ab)∧w'.heap[ab]? = some (.cells ((A.take k ++ ps.map fun n:Nat=>(n:Int)).map (Value.int .i64)).toArray 3)
theorem jT {w w':World} {ab k:Nat} {A:List Int} {r:Option (List Nat)} (hr:r=none) (h:Below w.heap.size w w'):FrmQ w ab A k r (.returned (.bool false)) w':=⟨fun _=>⟨rfl,h⟩,fun ps e=>by rw [hr] at e;cases e⟩
theorem kT {w w':World} {ab k:Nat} {A:List Int} {r:Option (List Nat)} {ps:List Nat} (hr:r=some ps) (h:w.grownBy w' (some ab)) (hb:w'.heap[ab]? = some (.cells ((A.take k ++ ps.map fun n:Nat=>(n:Int)).map (Value.int .i64)).toArray 3)):FrmQ w ab A k r (.returned (.bool true)) w':=⟨fun e=>(by rw [hr] at e;cases e),fun ps' e=>(by rw [hr] at e;injection e with e;subst e;exact ⟨rfl,h,hb⟩)⟩
theorem yd9 {A:List Int} {k:Nat} (hk:k<A.length) (x:Int) (P:List Int):((A.take (k+1) ++ P).map (Value.int .i64)).toArray.setIfInBounds k (.int .i64 x)=((A.take k ++ x::P).map (Value.int .i64)).toArray:=by
 rw [Mn.q]
 congr 1
 rw [List.take_succ_eq_append_getElem hk,List.append_assoc,List.map_append,List.map_append,List.set_append_right _ _ (by simp;omega)];have:k-(List.map (Value.int .i64) (A.take k)).length=0:=by simp;omega
 rw [this,List.map_append]
 rfl
theorem yfI {p:Prb} {v:Veh} {V:List Vst} {j k:Nat} {left bs:Int} {bo:Bool} {s:Stp} {tt:Int} {r2:Option (List Nat)} (hj:j≤V.length) (hk:k≤v.brks.length) (hno:k<v.brks.length→(bif (Hr.startM left (v.brks.getD k bz).wins).2 then fE p v V (j+1) (k+1) ((Hr.startM left (v.brks.getD k bz).wins).1+(v.brks.getD k bz).serv) else none)=none) (hs:(aB p v V).getD (j+1) sz=s) (ht:aE p.time (aB p v V) (j+1)=tt) (hb:Hr.startM (left+tt) s.wins=(bs,bo)) (hr:(bif bo then fE p v V (j+2) k (bs+s.serv) else none)=r2):fE p v V (j+1) k left=r2:=by
 by_cases h:k<v.brks.length
 ·rw [ya4 hj h,hno h,hs,ht,hb];exact hr
 ·have e:k=v.brks.length:=by omega
  subst e;rw [yfK hj,hs,ht,hb];exact hr
theorem yfJ {p:Prb} {v:Veh} {V:List Vst} {j k:Nat} {left:Int} {ps:List Nat} (hj:j≤V.length) (hk:k<v.brks.length) (h:(bif (Hr.startM left (v.brks.getD k bz).wins).2 then fE p v V (j+1) (k+1) ((Hr.startM left (v.brks.getD k bz).wins).1+(v.brks.getD k bz).serv) else none)=some ps):fE p v V (j+1) k left=some (j::ps):=by
 rw [ya4 hj hk,h]
set_option maxRecDepth 100000 in
set_option maxHeartbeats 6400000 in
theorem yfH {p:Prb} {v:Veh} {V:List Vst} {sb ab nS nb tc sC bc:Nat} {ta sA ba:Option Addr} (hl:aY p=true) (hv:iS p.dims p.time.n v) (hm:V.length+2=nS) (hm2:nS≤100) (hnb:v.brks.length=nb) (hnb2:nb≤2):∀ (N:Nat) (w:World) (A:List Int) (i k:Nat) (left:Int),nS-i+(nb-k)=N→1≤i→i≤nS→k≤nb→0≤left→left≤2000000→SrW w p v V sb ab nS nb tc sC bc ta sA ba A→Calls Try.prog 76 #[.pointer (some ⟨sb,0,none⟩),.int .i64 i,.int .i64 k,.int .i64 left] w (FrmQ w ab A k (fE p v V i k left)):=by
 have HW:=hide (bF hl);have HSO:=hide (fP hl hv V);have HBO:=hide (ygA hv);have HM:=hide hm;have HNB:=hide hnb;have HLN:Hid ((aB p v V).length=nS):=by show _=_;rw [aO];exact hm
 clear hl hv hm hnb;intro N
 induction N using Nat.strongRecOn with
 | ind N ih =>
 intro w A i k left hN hi1 hi2 hk hl0 hl1 hS;have IH:=hide ih;have HSR:=hide hS;have hN':=hide hN;have HX:=hide hS.box;have HXL:Hid (sb<w.heap.size):=aD hS.box;have HCX:Hid (∀ W2,Below w.heap.size w W2→∀ j,W2.cell? ⟨sb,j,none⟩=(#[.int .i64 p.time.n,.slice ta p.time.cells.length tc,.slice sA nS sC,.slice ba nb bc,.slice (some ⟨ab,0,none⟩) nb nb]:Array Value)[j]?):=fun W2 hf j=>cell_of_row _ _ _ _ _ _ ((hf.block sb HXL.out).trans HX.out);clear ih hS hN;have k1:(0:Int)≤(k:Int):=by omega
 have b0:w.cell? ⟨sb,0,none⟩=some (.int .i64 p.time.n):=HCX.out _ (Below.refl _ _) 0;have b1:w.cell? ⟨sb,1,none⟩=some (.slice ta p.time.cells.length tc):=HCX.out _ (Below.refl _ _) 1;have b2:w.cell? ⟨sb,2,none⟩=some (.slice sA nS sC):=HCX.out _ (Below.refl _ _) 2;have b3:w.cell? ⟨sb,3,none⟩=some (.slice ba nb bc):=HCX.out _ (Below.refl _ _) 3;have b4:w.cell? ⟨sb,4,none⟩=some (.slice (some ⟨ab,0,none⟩) nb nb):=HCX.out _ (Below.refl _ _) 4
 by_cases hin:i=nS
 ·have y1:((i:Int) == (nS:Int))=true:=by simp;omega
  have HF:Hid (fE p v V i k left=if k=nb then some [] else none):=by show _=_;rw [hin,← HM.out,vG,HNB.out]
  by_cases hkn:k=nb
  ·have y2:((k:Int) == (nb:Int))=true:=by simp;omega
   have HR:Hid (fE p v V i k left=some []):=by show _=_;rw [HF.out,if_pos hkn]
   have HA:Hid (w.heap[ab]? = some (.cells ((A.take k ++ ([]:List Nat).map fun n:Nat=>(n:Int)).map (Value.int .i64)).toArray 3)):=by show _=_;rw [HSR.out.row,List.map_nil,List.append_nil,List.take_of_length_le (by rw [HSR.out.len];omega)]
   go_enter Try.func76,Try.ntmps76;go_wp2_with fail;go_ret;exact kT HR.out (cD _ _) HA.out
  ·have y2:((k:Int) == (nb:Int))=false:=by simp;omega
   have HR:Hid (fE p v V i k left=none):=by show _=_;rw [HF.out,if_neg hkn]
   go_enter Try.func76,Try.ntmps76;go_wp2_with fail;go_ret;exact jT HR.out (Below.refl _ _)
 ·have y1:((i:Int) == (nS:Int))=false:=by simp;omega
  obtain ⟨j,hj⟩:∃ j,i=j+1:=⟨i-1,by omega⟩;have HJ:=hide hj;have HJL:Hid (j≤V.length):=by have:=HM.out;show _≤_;omega
  have i1:(0:Int)≤(i:Int):=by omega
  have i2:(i:Int)<(nS:Int):=by omega
  have i3:¬ (nS:Int)≤(i:Int):=by omega
  have HIS:Hid (i<(aB p v V).length):=by show _<_;rw [HLN.out];omega
  clear hj;obtain ⟨tt,htt⟩:∃ z,aE p.time (aB p v V) i=z:=⟨_,rfl⟩;have htb:=dD HW.out.mt (aB p v V) i;rw [htt] at htb;have hso:=HSO.out i;obtain ⟨s,hs⟩:∃ s,(aB p v V).getD i sz=s:=⟨_,rfl⟩;obtain ⟨b,off,cc',y,he,hb,hcs,hy⟩:=jD HSR.out.stp HIS.out;injection he with he1 he2 he3;subst he1 he3;clear he2;rw [hs] at hcs hy hso;obtain ⟨pl,hpl⟩:∃ z,s.place=z:=⟨_,rfl⟩;obtain ⟨sv,hsv⟩:∃ z,s.serv=z:=⟨_,rfl⟩;obtain ⟨ya,yc,rfl⟩:=hy.shape;obtain ⟨nw,hnw⟩:∃ z,s.wins.length=z:=⟨_,rfl⟩
  have HCS:Hid (∀ W2,Below w.heap.size w W2→W2.cell? ⟨b,off+i*3,none⟩=some (.int .i64 pl)∧W2.cell? ⟨b,off+i*3+1,none⟩=some (.int .i64 sv)∧W2.cell? ⟨b,off+i*3+2,none⟩=some (.slice ya nw yc)):=fun W2 hf=>by
   refine ⟨((aA hf).1 _ _ hb).trans ?_,((aA hf).1 _ _ hb).trans ?_,((aA hf).1 _ _ hb).trans ?_⟩
   ·rw [← hpl];exact hcs 0 (by decide)
   ·rw [← hsv];exact hcs 1 (by decide)
   ·rw [← hnw];exact hcs 2 (by decide)
  obtain ⟨bs,bo,hbg⟩:∃ bs bo,Hr.startM (left+tt) s.wins=(bs,bo):=⟨_,_,rfl⟩;have hstk:=iF hso.1 (left+tt);rw [hbg] at hstk;simp only at hstk;have hsb:=hso.2;rw [hsv] at hsb;have HY:Hid (WinsV w (.slice ya nw yc) s.wins):=by rw [← hnw];exact hy
  have hwr:IntKind.i64.wrap (left+tt)=left+tt:=by rw [IntKind.wrap_i64];omega
  have H108:Hid (∀ W2,Below w.heap.size w W2→Calls Try.prog 108 #[.agg #[.int .i64 pl,.int .i64 sv,.slice ya nw yc],.int .i64 (left+tt)] W2 fun e w'=>e=.returned (.tuple #[.int .i64 bs,.int .i64 (bs+sv),.bool bo])∧Below W2.heap.size W2 w'):=fun W2 hf=>by have h9:=mV pl sv (left+tt) (HY.out.on hf) (by rw [hbg];simp only;omega) (by rw [hbg];simp only;omega);rw [hbg] at h9;exact h9
  have H107:Hid (∀ W2,Below w.heap.size w W2→Calls Try.prog 107 #[.agg #[.int .i64 p.time.n,.slice ta p.time.cells.length tc],.slice (some ⟨b,off,none⟩) nS sC,.int .i64 (i:Int)] W2 fun e w'=>e=.returned (.int .i64 tt)∧Below W2.heap.size W2 w'):=fun W2 hf=>by
   have mt9:IntsV W2 (.slice ta p.time.cells.length tc) p.time.cells:=HSR.out.mat.on hf;have st9:eT W2 (.slice (some ⟨b,off,none⟩) nS sC) (aB p v V):=SlV.on HSR.out.stp hf (by decide) fun _ _=>StpV.on hf;have h9:=g6 (m:=p.time) (i:=i) mt9 HW.out.st st9 HIS.out;rw [htt] at h9;exact h9
  obtain ⟨r2,hr2⟩:∃ r2,(bif bo then fE p v V (j+2) k (bs+sv) else none)=r2:=⟨_,rfl⟩;have HR2:=hide hr2
  have HST:Hid ((k<nb→(bif (Hr.startM left (v.brks.getD k bz).wins).2 then fE p v V (j+1) (k+1) ((Hr.startM left (v.brks.getD k bz).wins).1+(v.brks.getD k bz).serv) else none)=none)→fE p v V i k left=r2):=by
   have h9:=fun hno=>yfI (left:=left) (k:=k) (tt:=tt) (bs:=bs) (bo:=bo) (s:=s) (r2:=r2) HJL.out (by rw [HNB.out];exact hk) hno (by rw [← HJ.out];exact hs) (by rw [← HJ.out];exact htt) hbg (by rw [hsv];exact hr2);rw [← HJ.out,HNB.out] at h9;show _→_;rw [← HJ.out];exact h9
  clear hbg hy hcs hpl hsv hnw hs htt hso hr2 htb;have bp0:(0:Int)≤bs+sv:=by omega
  have bp1:bs+sv≤2000000:=by omega
  have GI:Hid (((i:Int)+1)=((i+1:Nat):Int)):=by show _=_;omega
  have HIJ:Hid (j+2=i+1):=by have:=HJ.out;show _=_;omega
  rw [HIJ.out] at HR2
  by_cases hkn:k<nb
  ·have y2:(k:Int)<(nb:Int):=by omega
   have y3:¬ (nb:Int)≤(k:Int):=by omega
   obtain ⟨bb,boff,z,rfl,_,hbb,cb0,cb1,hz⟩:=l8 HSR.out.brk (show k<v.brks.length by rw [HNB.out];exact hkn);have hbo:=HBO.out k;obtain ⟨bk,hbk⟩:∃ bk,v.brks.getD k bz=bk:=⟨_,rfl⟩;rw [hbk] at cb1 hz hbo HST;obtain ⟨za,zc,rfl⟩:=hz.shape;obtain ⟨zs,hzs⟩:∃ zs,bk.serv=zs:=⟨_,rfl⟩;obtain ⟨zn,hzn⟩:∃ zn,bk.wins.length=zn:=⟨_,rfl⟩;rw [hzn] at cb0 hz;rw [hzs] at cb1 hbo HST;obtain ⟨cs,co,hcg⟩:∃ cs co,Hr.startM left bk.wins=(cs,co):=⟨_,_,rfl⟩;have hck:=iF hbo.1 left;rw [hcg] at hck HST;simp only at hck HST;have HZ:=hide hz;have H108b:Hid (∀ W2,Below w.heap.size w W2→Calls Try.prog 108 #[.agg #[.int .i64 0,.int .i64 zs,.slice za zn zc],.int .i64 left] W2 fun e w'=>e=.returned (.tuple #[.int .i64 cs,.int .i64 (cs+zs),.bool co])∧Below W2.heap.size W2 w'):=fun W2 hf=>by have h9:=mV 0 zs left (HZ.out.on hf) (by rw [hcg];simp only;omega) (by rw [hcg];simp only;omega);rw [hcg] at h9;exact h9
   have HHE:Hid (∀ ps,(bif co then fE p v V i (k+1) (cs+zs) else none)=some ps→fE p v V i k left=some (j::ps)):=fun ps h=>by
    have h9:=yfJ (p:=p) (v:=v) (V:=V) (j:=j) (k:=k) (left:=left) (ps:=ps) HJL.out (by rw [HNB.out];exact hkn);rw [hbk,hcg] at h9;simp only at h9;rw [hzs,← HJ.out] at h9;exact h9 h
   rw [← HJ.out] at HST;have cp0:(0:Int)≤cs+zs:=by omega
   have cp1:cs+zs≤2000000:=by omega
   have GK:Hid (((k:Int)+1)=((k+1:Nat):Int)):=by show _=_;omega
   clear hz hbk hzs hzn hcg hbo
   cases co with
   | false =>
    go_enter Try.func76,Try.ntmps76;have HF:=hide (HST.out (fun _=>rfl));go_wp2_with (first | (go_at_call 108;refine (H108b.out _ E1.out).mono ?_;rintro e w2 ⟨rfl,k2⟩;have E2:=hide (below_on E1.out k2);clear k2) | (go_at_call 112;refine (lO _ _ _ _ _).mono ?_;rintro e w1 ⟨rfl,k1'⟩;have E1:=hide k1';clear k1') | fail);have qb0:w2.cell? ⟨sb,0,none⟩=some (.int .i64 p.time.n):=HCX.out _ E2.out 0;have qb1:w2.cell? ⟨sb,1,none⟩=some (.slice ta p.time.cells.length tc):=HCX.out _ E2.out 1;have qb2:w2.cell? ⟨sb,2,none⟩=some (.slice (some ⟨b,off,none⟩) nS sC):=HCX.out _ E2.out 2;have qs0:w2.cell? ⟨b,off+i*3,none⟩=some (.int .i64 pl):=(HCS.out _ E2.out).1;have qs1:w2.cell? ⟨b,off+i*3+1,none⟩=some (.int .i64 sv):=(HCS.out _ E2.out).2.1;have qs2:w2.cell? ⟨b,off+i*3+2,none⟩=some (.slice ya nw yc):=(HCS.out _ E2.out).2.2
    first | (go_region_held3 (fun w'=>w'.cell? ⟨sb,0,none⟩=some (.int .i64 p.time.n)∧w'.cell? ⟨sb,1,none⟩=some (.slice ta p.time.cells.length tc)∧w'.cell? ⟨sb,2,none⟩=some (.slice (some ⟨b,off,none⟩) nS sC)∧w'.cell? ⟨b,off+i*3,none⟩=some (.int .i64 pl)∧w'.cell? ⟨b,off+i*3+1,none⟩=some (.int .i64 sv)∧w'.cell? ⟨b,off+i*3+2,none⟩=some (.slice ya nw yc)) (go_keep) (first | (go_at_call 107;refine (H107.out _ (below_on E2.out ((Below.refl _ _).drew))).mono ?_;rintro e w4 ⟨rfl,k4⟩;have E4:=hide (below_on (below_on E2.out ((Below.refl _ _).drew)) k4);have rb0:w4.cell? ⟨sb,0,none⟩=some (.int .i64 p.time.n):=HCX.out _ E4.out 0;have rb1:w4.cell? ⟨sb,1,none⟩=some (.slice ta p.time.cells.length tc):=HCX.out _ E4.out 1;have rb2:w4.cell? ⟨sb,2,none⟩=some (.slice (some ⟨b,off,none⟩) nS sC):=HCX.out _ E4.out 2;have rs0:w4.cell? ⟨b,off+i*3,none⟩=some (.int .i64 pl):=(HCS.out _ E4.out).1;have rs1:w4.cell? ⟨b,off+i*3+1,none⟩=some (.int .i64 sv):=(HCS.out _ E4.out).2.1;have rs2:w4.cell? ⟨b,off+i*3+2,none⟩=some (.slice ya nw yc):=(HCS.out _ E4.out).2.2;clear k4) | (go_at_call 108;refine (H108.out _ E4.out).mono ?_;rintro e w5 ⟨rfl,k5⟩;have E5:=hide (below_on E4.out k5);have ub0:w5.cell? ⟨sb,0,none⟩=some (.int .i64 p.time.n):=HCX.out _ E5.out 0;have ub1:w5.cell? ⟨sb,1,none⟩=some (.slice ta p.time.cells.length tc):=HCX.out _ E5.out 1;have ub2:w5.cell? ⟨sb,2,none⟩=some (.slice (some ⟨b,off,none⟩) nS sC):=HCX.out _ E5.out 2;have us0:w5.cell? ⟨b,off+i*3,none⟩=some (.int .i64 pl):=(HCS.out _ E5.out).1;have us1:w5.cell? ⟨b,off+i*3+1,none⟩=some (.int .i64 sv):=(HCS.out _ E5.out).2.1;have us2:w5.cell? ⟨b,off+i*3+2,none⟩=some (.slice ya nw yc):=(HCS.out _ E5.out).2.2;clear k5) | fail)) | fail
    rename_i hHeld;clear hHeld qb0 qb1 qb2 qs0 qs1 qs2 rb0 rb1 rb2 rs0 rs1 rs2 ub0 ub1 ub2 us0 us1 us2
    cases bo with
    | false =>
     have HR2':Hid (fE p v V i k left=none):=HF.out.trans HR2.out.symm;go_wp2_with fail;go_ret;exact jT HR2'.out E5.out
    | true =>
     have HR3:Hid (fE p v V (i+1) k (bs+sv)=r2):=HR2.out
     cases r2 with
     | none =>
      go_wp2_with (first | (go_at_call 76;rw [GI.out];refine (IH.out (nS-(i+1)+(nb-k)) (by have:=hN'.out;omega) _ A (i+1) k (bs+sv) rfl (by omega) (by omega) hk bp0 bp1 (HSR.out.on E5.out)).mono ?_;rintro e w6 hq6;obtain ⟨rfl,k6⟩:=hq6.1 HR3.out;have E6:=hide (below_on E5.out k6);clear k6 hq6) | fail);go_ret;exact jT HF.out E6.out
     | some ps =>
      go_wp2_with (first | (go_at_call 76;rw [GI.out];refine (IH.out (nS-(i+1)+(nb-k)) (by have:=hN'.out;omega) _ A (i+1) k (bs+sv) rfl (by omega) (by omega) hk bp0 bp1 (HSR.out.on E5.out)).mono ?_;rintro e w6 hq6;obtain ⟨rfl,k6,hb6⟩:=hq6.2 _ HR3.out;have E6:=hide (dX (bQ E5.out) k6);have HB6:=hide hb6;clear k6 hq6 hb6) | fail);go_ret;exact kT HF.out E6.out HB6.out
   | true =>
    obtain ⟨r1,hr1⟩:∃ r1,fE p v V i (k+1) (cs+zs)=r1:=⟨_,rfl⟩;have HR1:=hide hr1;rw [hr1] at HHE HST;clear hr1
    cases r1 with
    | none =>
     go_enter Try.func76,Try.ntmps76;have HF:=hide (HST.out (fun _=>rfl));go_wp2_with (first | (go_at_call 76;rw [GK.out];refine (IH.out (nS-i+(nb-(k+1))) (by have:=hN'.out;omega) _ A i (k+1) (cs+zs) rfl hi1 hi2 (by omega) cp0 cp1 (HSR.out.on E2.out)).mono ?_;rintro e w3 hq3;obtain ⟨rfl,k3⟩:=hq3.1 HR1.out;have E3:=hide (below_on E2.out k3);clear k3 hq3) | (go_at_call 108;refine (H108b.out _ E1.out).mono ?_;rintro e w2 ⟨rfl,k2⟩;have E2:=hide (below_on E1.out k2);clear k2) | (go_at_call 112;refine (lO _ _ _ _ _).mono ?_;rintro e w1 ⟨rfl,k1'⟩;have E1:=hide k1';clear k1') | fail);have qb0:w3.cell? ⟨sb,0,none⟩=some (.int .i64 p.time.n):=HCX.out _ E3.out 0;have qb1:w3.cell? ⟨sb,1,none⟩=some (.slice ta p.time.cells.length tc):=HCX.out _ E3.out 1;have qb2:w3.cell? ⟨sb,2,none⟩=some (.slice (some ⟨b,off,none⟩) nS sC):=HCX.out _ E3.out 2;have qs0:w3.cell? ⟨b,off+i*3,none⟩=some (.int .i64 pl):=(HCS.out _ E3.out).1;have qs1:w3.cell? ⟨b,off+i*3+1,none⟩=some (.int .i64 sv):=(HCS.out _ E3.out).2.1;have qs2:w3.cell? ⟨b,off+i*3+2,none⟩=some (.slice ya nw yc):=(HCS.out _ E3.out).2.2
     first | (go_region_held3 (fun w'=>w'.cell? ⟨sb,0,none⟩=some (.int .i64 p.time.n)∧w'.cell? ⟨sb,1,none⟩=some (.slice ta p.time.cells.length tc)∧w'.cell? ⟨sb,2,none⟩=some (.slice (some ⟨b,off,none⟩) nS sC)∧w'.cell? ⟨b,off+i*3,none⟩=some (.int .i64 pl)∧w'.cell? ⟨b,off+i*3+1,none⟩=some (.int .i64 sv)∧w'.cell? ⟨b,off+i*3+2,none⟩=some (.slice ya nw yc)) (go_keep) (first | (go_at_call 107;refine (H107.out _ (below_on E3.out ((Below.refl _ _).drew))).mono ?_;rintro e w4 ⟨rfl,k4⟩;have E4:=hide (below_on (below_on E3.out ((Below.refl _ _).drew)) k4);have rb0:w4.cell? ⟨sb,0,none⟩=some (.int .i64 p.time.n):=HCX.out _ E4.out 0;have rb1:w4.cell? ⟨sb,1,none⟩=some (.slice ta p.time.cells.length tc):=HCX.out _ E4.out 1;have rb2:w4.cell? ⟨sb,2,none⟩=some (.slice (some ⟨b,off,none⟩) nS sC):=HCX.out _ E4.out 2;have rs0:w4.cell? ⟨b,off+i*3,none⟩=some (.int .i64 pl):=(HCS.out _ E4.out).1;have rs1:w4.cell? ⟨b,off+i*3+1,none⟩=some (.int .i64 sv):=(HCS.out _ E4.out).2.1;have rs2:w4.cell? ⟨b,off+i*3+2,none⟩=some (.slice ya nw yc):=(HCS.out _ E4.out).2.2;clear k4) | (go_at_call 108;refine (H108.out _ E4.out).mono ?_;rintro e w5 ⟨rfl,k5⟩;have E5:=hide (below_on E4.out k5);have ub0:w5.cell? ⟨sb,0,none⟩=some (.int .i64 p.time.n):=HCX.out _ E5.out 0;have ub1:w5.cell? ⟨sb,1,none⟩=some (.slice ta p.time.cells.length tc):=HCX.out _ E5.out 1;have ub2:w5.cell? ⟨sb,2,none⟩=some (.slice (some ⟨b,off,none⟩) nS sC):=HCX.out _ E5.out 2;have us0:w5.cell? ⟨b,off+i*3,none⟩=some (.int .i64 pl):=(HCS.out _ E5.out).1;have us1:w5.cell? ⟨b,off+i*3+1,none⟩=some (.int .i64 sv):=(HCS.out _ E5.out).2.1;have us2:w5.cell? ⟨b,off+i*3+2,none⟩=some (.slice ya nw yc):=(HCS.out _ E5.out).2.2;clear k5) | fail)) | fail
     rename_i hHeld;clear hHeld qb0 qb1 qb2 qs0 qs1 qs2 rb0 rb1 rb2 rs0 rs1 rs2 ub0 ub1 ub2 us0 us1 us2
     cases bo with
     | false =>
      have HR2':Hid (fE p v V i k left=none):=HF.out.trans HR2.out.symm;go_wp2_with fail;go_ret;exact jT HR2'.out E5.out
     | true =>
      have HR3:Hid (fE p v V (i+1) k (bs+sv)=r2):=HR2.out
      cases r2 with
      | none =>
       go_wp2_with (first | (go_at_call 76;rw [GI.out];refine (IH.out (nS-(i+1)+(nb-k)) (by have:=hN'.out;omega) _ A (i+1) k (bs+sv) rfl (by omega) (by omega) hk bp0 bp1 (HSR.out.on E5.out)).mono ?_;rintro e w6 hq6;obtain ⟨rfl,k6⟩:=hq6.1 HR3.out;have E6:=hide (below_on E5.out k6);clear k6 hq6) | fail);go_ret;exact jT HF.out E6.out
      | some ps =>
       go_wp2_with (first | (go_at_call 76;rw [GI.out];refine (IH.out (nS-(i+1)+(nb-k)) (by have:=hN'.out;omega) _ A (i+1) k (bs+sv) rfl (by omega) (by omega) hk bp0 bp1 (HSR.out.on E5.out)).mono ?_;rintro e w6 hq6;obtain ⟨rfl,k6,hb6⟩:=hq6.2 _ HR3.out;have E6:=hide (dX (bQ E5.out) k6);have HB6:=hide hb6;clear k6 hq6 hb6) | fail);go_ret;exact kT HF.out E6.out HB6.out
    | some ps =>
     have HF:=hide (HHE.out ps rfl);have HAB:Hid (ab<w.heap.size):=aD HSR.out.row;have HKA:Hid (k<A.length):=by show _<_;rw [HSR.out.len];exact hkn
     have GJ:Hid ((i:Int)-1=(j:Int)):=by have:=HJ.out;show _=_;omega
     go_enter Try.func76,Try.ntmps76;go_wp2_with (first | (go_at_call 76;rw [GK.out];refine (IH.out (nS-i+(nb-(k+1))) (by have:=hN'.out;omega) _ A i (k+1) (cs+zs) rfl hi1 hi2 (by omega) cp0 cp1 (HSR.out.on E2.out)).mono ?_;rintro e w3 hq3;obtain ⟨rfl,k3,hb3⟩:=hq3.2 _ HR1.out;have G3:=hide (dX (bQ E2.out) k3);have HB3:=hide hb3;have b34:w3.cell? ⟨sb,4,none⟩=some (.slice (some ⟨ab,0,none⟩) nb nb):=cell_of_row _ _ _ _ _ _ ((G3.out.block sb HXL.out (fun e9=>HSR.out.ne (by injection e9))).trans HX.out);have fz:w3.frozen? ⟨ab,k,none⟩=false:=frozen_of_row w3 ab k _ _ HB3.out;obtain ⟨o3,ho3⟩:∃ o3,w3.cell? ⟨ab,k,none⟩=some o3:=(by rw [cell_of_row _ _ _ _ _ _ HB3.out];exact ⟨_,Array.getElem?_eq_getElem (by simp;have:=HKA.out;omega)⟩);clear k3 hq3 hb3) | (go_at_call 108;refine (H108b.out _ E1.out).mono ?_;rintro e w2 ⟨rfl,k2⟩;have E2:=hide (below_on E1.out k2);clear k2) | (go_at_call 112;refine (lO _ _ _ _ _).mono ?_;rintro e w1 ⟨rfl,k1'⟩;have E1:=hide k1';clear k1') | fail);go_ret;refine kT HF.out (aZ G3.out _ _) ?_;have h9:=heap_setCell_same w3 ab k _ _ (.int .i64 (j:Int)) HB3.out;rw [yd9 HKA.out] at h9;rw [GJ.out];exact h9
  ·have y2:¬ (k:Int)<(nb:Int):=by omega
   go_enter Try.func76,Try.ntmps76;have HF:=hide (HST.out (fun h=>absurd h hkn));have qb0:w.cell? ⟨sb,0,none⟩=some (.int .i64 p.time.n):=HCX.out _ (Below.refl _ _) 0;have qb1:w.cell? ⟨sb,1,none⟩=some (.slice ta p.time.cells.length tc):=HCX.out _ (Below.refl _ _) 1;have qb2:w.cell? ⟨sb,2,none⟩=some (.slice (some ⟨b,off,none⟩) nS sC):=HCX.out _ (Below.refl _ _) 2;have qs0:w.cell? ⟨b,off+i*3,none⟩=some (.int .i64 pl):=(HCS.out _ (Below.refl _ _)).1;have qs1:w.cell? ⟨b,off+i*3+1,none⟩=some (.int .i64 sv):=(HCS.out _ (Below.refl _ _)).2.1;have qs2:w.cell? ⟨b,off+i*3+2,none⟩=some (.slice ya nw yc):=(HCS.out _ (Below.refl _ _)).2.2;go_wp2_with fail
   first | (go_region_held3 (fun w'=>w'.cell? ⟨sb,0,none⟩=some (.int .i64 p.time.n)∧w'.cell? ⟨sb,1,none⟩=some (.slice ta p.time.cells.length tc)∧w'.cell? ⟨sb,2,none⟩=some (.slice (some ⟨b,off,none⟩) nS sC)∧w'.cell? ⟨b,off+i*3,none⟩=some (.int .i64 pl)∧w'.cell? ⟨b,off+i*3+1,none⟩=some (.int .i64 sv)∧w'.cell? ⟨b,off+i*3+2,none⟩=some (.slice ya nw yc)) (go_keep) (first | (go_at_call 107;refine (H107.out _ (below_on (Below.refl _ _) ((Below.refl _ _).drew))).mono ?_;rintro e w4 ⟨rfl,k4⟩;have E4:=hide (below_on (below_on (Below.refl _ _) ((Below.refl _ _).drew)) k4);have rb0:w4.cell? ⟨sb,0,none⟩=some (.int .i64 p.time.n):=HCX.out _ E4.out 0;have rb1:w4.cell? ⟨sb,1,none⟩=some (.slice ta p.time.cells.length tc):=HCX.out _ E4.out 1;have rb2:w4.cell? ⟨sb,2,none⟩=some (.slice (some ⟨b,off,none⟩) nS sC):=HCX.out _ E4.out 2;have rs0:w4.cell? ⟨b,off+i*3,none⟩=some (.int .i64 pl):=(HCS.out _ E4.out).1;have rs1:w4.cell? ⟨b,off+i*3+1,none⟩=some (.int .i64 sv):=(HCS.out _ E4.out).2.1;have rs2:w4.cell? ⟨b,off+i*3+2,none⟩=some (.slice ya nw yc):=(HCS.out _ E4.out).2.2;clear k4) | (go_at_call 108;refine (H108.out _ E4.out).mono ?_;rintro e w5 ⟨rfl,k5⟩;have E5:=hide (below_on E4.out k5);have ub0:w5.cell? ⟨sb,0,none⟩=some (.int .i64 p.time.n):=HCX.out _ E5.out 0;have ub1:w5.cell? ⟨sb,1,none⟩=some (.slice ta p.time.cells.length tc):=HCX.out _ E5.out 1;have ub2:w5.cell? ⟨sb,2,none⟩=some (.slice (some ⟨b,off,none⟩) nS sC):=HCX.out _ E5.out 2;have us0:w5.cell? ⟨b,off+i*3,none⟩=some (.int .i64 pl):=(HCS.out _ E5.out).1;have us1:w5.cell? ⟨b,off+i*3+1,none⟩=some (.int .i64 sv):=(HCS.out _ E5.out).2.1;have us2:w5.cell? ⟨b,off+i*3+2,none⟩=some (.slice ya nw yc):=(HCS.out _ E5.out).2.2;clear k5) | fail)) | fail
   rename_i hHeld;clear hHeld qb0 qb1 qb2 qs0 qs1 qs2 rb0 rb1 rb2 rs0 rs1 rs2 ub0 ub1 ub2 us0 us1 us2
   cases bo with
   | false =>
    have HR2':Hid (fE p v V i k left=none):=HF.out.trans HR2.out.symm;go_wp2_with fail;go_ret;exact jT HR2'.out E5.out
   | true =>
    have HR3:Hid (fE p v V (i+1) k (bs+sv)=r2):=HR2.out
    cases r2 with
    | none =>
     go_wp2_with (first | (go_at_call 76;rw [GI.out];refine (IH.out (nS-(i+1)+(nb-k)) (by have:=hN'.out;omega) _ A (i+1) k (bs+sv) rfl (by omega) (by omega) hk bp0 bp1 (HSR.out.on E5.out)).mono ?_;rintro e w6 hq6;obtain ⟨rfl,k6⟩:=hq6.1 HR3.out;have E6:=hide (below_on E5.out k6);clear k6 hq6) | fail);go_ret;exact jT HF.out E6.out
    | some ps =>
     go_wp2_with (first | (go_at_call 76;rw [GI.out];refine (IH.out (nS-(i+1)+(nb-k)) (by have:=hN'.out;omega) _ A (i+1) k (bs+sv) rfl (by omega) (by omega) hk bp0 bp1 (HSR.out.on E5.out)).mono ?_;rintro e w6 hq6;obtain ⟨rfl,k6,hb6⟩:=hq6.2 _ HR3.out;have E6:=hide (dX (bQ E5.out) k6);have HB6:=hide hb6;clear k6 hq6 hb6) | fail);go_ret;exact kT HF.out E6.out HB6.out
end Go.Proofs.Ytgjpkpmikbpcnaa
