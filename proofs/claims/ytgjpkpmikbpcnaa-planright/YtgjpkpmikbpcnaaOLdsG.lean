import Derived.Deep.RegionHeld3
import Derived.Test.YtgjpkpmikbpcnaaOBhd
import Derived.Test.YtgjpkpmikbpcnaaOArg
set_option maxRecDepth 100000
set_option maxHeartbeats 3200000
namespace Go.Proofs.Ytgjpkpmikbpcnaa
open Go.RowKit
abbrev Vst:=Int × Int
def kC (p:Prb) (v:Vst) (xs:List Int):List Int:=if v.1=1∧aI p v.1 v.2=true then kX xs (p.js.getD v.2.toNat jz).drop else xs
def startM (p:Prb) (dd:Nat) (V:List Vst):List Int:=V.foldl (fun xs v=>kC p v xs) (List.replicate dd 0)
def goM (p:Prb):List Int→List Vst→List (List Int)
 | _,[]=>[]
 | xs,v::V=>bK p v.1 v.2 xs::goM p (bK p v.1 v.2 xs) V
def bZ (p:Prb) (dd:Nat) (V:List Vst):List (List Int):=startM p dd V::goM p (startM p dd V) V
def dV (p:Prb) (xs:List Int) (V:List Vst):List Int:=V.foldl (fun xs v=>bK p v.1 v.2 xs) xs
theorem vC (p:Prb):∀ (V:List Vst) (xs:List Int),(goM p xs V).length=V.length
 | [],_=>rfl
 | v::V,xs=>by simp [goM,vC p V]
theorem xN (p:Prb):∀ (V:List Vst) (xs:List Int) (v:Vst),goM p xs (V ++ [v])=goM p xs V ++ [bK p v.1 v.2 (dV p xs V)]
 | [],xs,v=>rfl
 | u::V,xs,v=>by
  simp only [List.cons_append,goM,List.cons.injEq,true_and];exact xN p V _ v
theorem q8 (p:Prb) (V:List Vst) (xs:List Int) (v:Vst):dV p xs (V ++ [v])=bK p v.1 v.2 (dV p xs V):=by unfold dV;rw [List.foldl_append];rfl
theorem kL (p:Prb) (dd:Nat) (V:List Vst) (v:Vst):startM p dd (V ++ [v])=kC p v (startM p dd V):=by unfold startM;rw [List.foldl_append];rfl
section
variable {p:Prb} {dd:Nat}
theorem fW {j:Nat} (h:aY p=true) (hd:p.dims=dd) (hj:j<p.js.length):(p.js.getD j jz).drop.length=dd∧(p.js.getD j jz).pick.length=dd∧Smal 1000000 (p.js.getD j jz).drop∧Smal 1000000 (p.js.getD j jz).pick:=by
 have hJ:=lY h hj;unfold mK at hJ;simp only [Bool.and_eq_true] at hJ;have h1:=(iZ hJ.1.1.1.2).1;have h2:=(iZ hJ.1.1.2).1;exact ⟨by omega,by omega,iL hJ.1.1.1.2,iL hJ.1.1.2⟩
theorem iR {j:Nat} (h:aY p=true) (hd:p.dims=dd) (hj:j<p.ss.length):(p.ss.getD j hz).amt.length=dd∧Smal 1000000 (p.ss.getD j hz).amt:=by
 have hJ:=fV h hj;unfold jE at hJ;simp only [Bool.and_eq_true] at hJ;have h1:=(iZ hJ.1.1.2).1;exact ⟨by omega,iL hJ.1.1.2⟩
theorem yfT {v:Vst} {xs:List Int} {M:Int} (h:aY p=true) (hd:p.dims=dd) (hx:xs.length=dd) (hs:Smal M xs):(kC p v xs).length=dd∧Smal (M+1000000) (kC p v xs):=by
 unfold kC
 split
 ·rename_i hv;obtain ⟨k,i⟩:=v;simp only at hv;obtain ⟨rfl,ht⟩:=hv
  rcases aN ht with ⟨_,j,rfl,hj,_⟩ | ⟨e,_⟩ | ⟨e,_⟩
  ·obtain ⟨h1,_,h3,_⟩:=fW h hd hj;simp only [Int.toNat_natCast];exact ⟨by rw [gR];exact hx,hs.add h3 (by omega)⟩
  ·cases e
  ·cases e
 ·exact ⟨hx,hs.mono (by omega)⟩
theorem mN {k i:Int} {xs:List Int} {M:Int} (h:aY p=true) (hd:p.dims=dd) (hx:xs.length=dd) (hs:Smal M xs):(bK p k i xs).length=dd∧Smal (M+2000000) (bK p k i xs):=by
 cases ht:aI p k i with
 | false=>rw [jY ht];exact ⟨hx,hs.mono (by omega)⟩
 | true =>
  rcases aN ht with ⟨rfl,j,rfl,hj,_⟩ | ⟨rfl,j,rfl,hj,_⟩ | ⟨rfl,j,rfl,hj,_⟩
  ·rw [kW ht];obtain ⟨h1,h2,h3,h4⟩:=fW h hd hj;refine ⟨by rw [gR,eL];exact hx,?_⟩;have:=(hs.sub h3 (by omega)).add h4 (by rw [eL];omega);exact this.mono (by omega)
  ·rw [jX ht];obtain ⟨h1,h2⟩:=iR h hd hj;exact ⟨by rw [gR];exact hx,(hs.add h2 (by omega)).mono (by omega)⟩
  ·rw [jZ ht];obtain ⟨h1,h2⟩:=iR h hd hj;exact ⟨by rw [eL];exact hx,(hs.sub h2 (by omega)).mono (by omega)⟩
theorem yJ (dd:Nat):Smal 0 (List.replicate dd 0):=fun k hk=>by
 rw [getElem!_pos _ k hk,List.getElem_replicate];omega
theorem cH {α:Type} {Q:List α→Prop} (h0:Q []) (hs:∀ V v,Q V→Q (V ++ [v])):∀ V,Q V:=fun V=>by
 have:∀ n,∀ V:List α,V.length=n→Q V:=by
  intro n
  induction n with
  | zero=>intro V hV;rw [List.eq_nil_of_length_eq_zero hV];exact h0
  | succ n ih =>
   intro V hV;have hne:V≠[]:=fun e=>by rw [e] at hV;cases hV
   rw [← List.dropLast_concat_getLast hne];exact hs _ _ (ih _ (by rw [List.length_dropLast];omega))
 exact this _ V rfl
theorem g8 (h:aY p=true) (hd:p.dims=dd) (V:List Vst):(startM p dd V).length=dd∧Smal (V.length*1000000) (startM p dd V):=by
 refine cH (Q:=fun V=>(startM p dd V).length=dd∧Smal ((V.length:Int)*1000000) (startM p dd V)) ⟨by simp [startM],by simpa [startM] using yJ dd⟩ (fun V v ⟨h1,h2⟩=>?_) V;rw [kL];have:=yfT (v:=v) h hd h1 h2;exact ⟨this.1,this.2.mono (by simp;omega)⟩
theorem rA (h:aY p=true) (hd:p.dims=dd) {xs:List Int} {M:Int} (hx:xs.length=dd) (hs:Smal M xs) (V:List Vst):(dV p xs V).length=dd∧Smal (M+V.length*2000000) (dV p xs V):=by
 refine cH (Q:=fun V=>(dV p xs V).length=dd∧Smal (M+(V.length:Int)*2000000) (dV p xs V)) ⟨hx,by simpa [dV] using hs⟩ (fun V v ⟨h1,h2⟩=>?_) V;rw [q8];have:=mN (k:=v.1) (i:=v.2) h hd h1 h2;exact ⟨this.1,this.2.mono (by simp;omega)⟩
end
end Go.Proofs.Ytgjpkpmikbpcnaa
namespace Go.Proofs.Ytgjpkpmikbpcnaa
open Go.RowKit
def VsV (w:World) (v:Value) (V:List Vst):Prop:=PrV w v V.length fun k=>(.int .i64 (V.getD k (0,0)).1,.int .i64 (V.getD k (0,0)).2)
theorem bL {w:World} {a:Option Addr} {m c k:Nat} {V:List Vst} {u:Vst} (h:VsV w (.slice a m c) V) (hu:V[k]? = some u):∃ b off,a=some ⟨b,off,none⟩∧b<w.heap.size∧w.cell? ⟨b,off+k*2,none⟩=some (.int .i64 u.1)∧w.cell? ⟨b,off+k*2+1,none⟩=some (.int .i64 u.2)∧V.length=m:=by
 obtain ⟨a',c',e,_,hc⟩:=h;injection e with e1 e2 e3;subst e1;have hk:=(List.getElem?_eq_some_iff.1 hu).1;obtain ⟨b,off,e,h1,h2⟩:=hc k hk;have eg:V.getD k (0,0)=u:=by rw [List.getD_eq_getElem?_getD,hu];rfl
 simp only [eg] at h1 h2;exact ⟨b,off,e,nH h1,h1,h2,e2.symm⟩
theorem mH {w:World} {x:aU} {p:Prb} {m vc:Nat} {va:Option Addr} (h:PrbV w x p) (vi:Int):Calls Try.prog 71 #[.agg (cB p x vi (.slice va m vc))] w fun e w'=>e=.returned (.bool (decide (0≤vi) && decide (vi<(p.vs.length:Int))))∧Below w.heap.size w w':=by
 obtain ⟨ta,tc,da,dc,va',vc',ja,jc,sa,sc,rfl⟩:=h.open;have HB0:Hid (∀ A,Below w.heap.size w (w.alloc A)):=fun A=>(Below.refl _ _).alloc (Nat.le_refl _) A;clear h;unfold cB;simp only
 by_cases h0:0≤vi
 ·by_cases h1:vi<(p.vs.length:Int)
  ·rw [decide_eq_true h0,decide_eq_true h1];go_enter Try.func71,Try.ntmps71;go_wp2;go_ret;exact ⟨rfl,HB0.out _⟩
  ·rw [decide_eq_true h0,decide_eq_false h1];go_enter Try.func71,Try.ntmps71;go_wp2;go_ret;exact ⟨rfl,HB0.out _⟩
 ·rw [decide_eq_false h0];go_enter Try.func71,Try.ntmps71;go_wp2;go_ret;exact ⟨by simp,HB0.out _⟩
def gC:Nat→List Vst→Option Nat
 | n,[]=>some n
 | n,v::V=>if v.1=4 then (if v.2=(n:Int) then gC (n+1) V else none) else gC n V
def cO (V:List Vst) (n:Nat):Bool:=decide (gC 0 V=some n)
theorem jH {V:List Vst} {k n:Nat} {v:Vst} (h:V[k]? = some v):gC n (V.drop k)=if v.1=4 then (if v.2=(n:Int) then gC (n+1) (V.drop (k+1)) else none) else gC n (V.drop (k+1)):=by
 obtain ⟨hk,e⟩:=List.getElem?_eq_some_iff.1 h;rw [List.drop_eq_getElem_cons hk,e]
 rfl
end Go.Proofs.Ytgjpkpmikbpcnaa
namespace Go.Proofs.Ytgjpkpmikbpcnaa
open Go.ChangeShapes Go.WideShapes Go.ChangeAt Go.WideMaps Go.WideElems Go.RowKit Go.Deep
theorem yf8:Try.prog.bytesOf 34=16:=by kernel_rfl
theorem xZ:Try.prog.cellsOf 34=2:=by kernel_rfl
def valV:Option Value→Int
 | some (.int _ x)=>x
 | _=>0
def vS (W:World) (b off k:Nat):Vst:=(valV (W.cell? ⟨b,off+k*2,none⟩),valV (W.cell? ⟨b,off+k*2+1,none⟩))
theorem ybR (W:World) (b off m k:Nat) (h:k<m):((List.range m).map (vS W b off)).getD k (0,0)=vS W b off k:=by
 rw [List.getD_eq_getElem?_getD]
 simp [h]
theorem o6 {H:Type} {enc:TypeId × Value→H} {W:World} {a:Option Addr} {m c:Nat} {d:DataW H} {p:List MemPlace}
  (h:DataW.Trod enc Try.prog W 0 (fun _=>true) true 55 (.slice a m c) d p) (hz:∀ k ∈ d.weights Try.prog 55,k≤reachBytes):∃ L:List Vst,VsV W (.slice a m c) L∧L.length=m∧(a=none→c=0):=by
 obtain ⟨fuel,hf⟩:=h
 rcases open_slice Try.underlying55 hf with ⟨hcs,_⟩ | ⟨x,l,cc,mm,nn,D,Pl,hcs,_,hl,hmx,hmm,hx,hcell⟩
 ·simp [Value.cells] at hcs
  obtain ⟨rfl,rfl,rfl⟩:=hcs;exact ⟨[],⟨none,0,rfl,by simp,fun k hk=>by simp at hk⟩,rfl,fun _=>rfl⟩
 ·simp [Value.cells] at hcs
  obtain ⟨rfl,rfl,rfl⟩:=hcs;simp only [if_true] at hmm;have hd:d=_:=congrArg Prod.fst hx;have hsz:=hz ((m+(mm-m))*Try.prog.bytesOf 34) (by rw [hd];simp [DataW.weights,Try.underlying55]);rw [yf8] at hsz;unfold reachBytes at hsz;obtain ⟨b,off,spot⟩:=x;have hlen0:((List.range m).map (vS W b off)).length=m:=by simp
  refine ⟨(List.range m).map (vS W b off),⟨_,c,by rw [hlen0],by rw [hlen0];omega,fun k hk=>?_⟩,hlen0,fun e=>by cases e⟩;rw [hlen0] at hk;obtain ⟨cs',h1,h2⟩:=hcell k (by omega);rw [xZ] at h1;obtain ⟨_,hlen,hget⟩:=World.cells?_some h1;obtain ⟨y0,y1,n2,_,_,t0,t1⟩:=trod_struct2 Try.underlying34 h2
  match cs',hlen with
  | [v0,v1],_ =>
   obtain ⟨c0,e00,_⟩:=DataW.trod_int Try.underlying32 t0;obtain ⟨c1,e11,_⟩:=DataW.trod_int Try.underlying3 t1
   cases e00
   cases e11
   have g0:=hget 0 (by omega);have g1:=hget 1 (by omega)
   have hspot:spot=none:=by
    obtain ⟨cs0,k1,_⟩:=hcell 0 (by omega);rw [xZ] at k1;obtain ⟨_,hl0,hg0⟩:=World.cells?_some k1;have e0:=hg0 0 (by omega)
    match cs0,hl0 with
    | u0::_,_=>simpa [Addr.add] using World.cell?_spot (e0.trans rfl)
   subst hspot;rw [pD,pD] at g0 g1;refine ⟨b,off,rfl,?_⟩;simp only [ybR W b off m k hk];simp only [Nat.add_zero] at g0;have e0:W.cell? ⟨b,off+k*2,none⟩=some (.int .i64 c0):=g0;have e1:W.cell? ⟨b,off+k*2+1,none⟩=some (.int .i64 c1):=g1;unfold vS;simp only [e0,e1,valV];exact ⟨trivial,trivial⟩
end Go.Proofs.Ytgjpkpmikbpcnaa
namespace Go.Proofs.Ytgjpkpmikbpcnaa
open Go.RowKit
def tB:List Win:=[(0,1000000)]
def tE:Mat:=⟨2,[0,10,10,0]⟩
def tD:Prb:=⟨0,tE,tE,[⟨0,0,[],0,(0,1000000),0,1,0,12,[]⟩],[⟨⟨1,5,tB⟩,[],[],0,1⟩,⟨⟨1,0,tB⟩,[],[],0,5⟩],[]⟩
theorem bB {w w':World} {b o:Nat} {v:Value} (h:w'.heap[b]? = w.heap[b]?) (k:w.cell? ⟨b,o,none⟩=some v):w'.cell? ⟨b,o,none⟩=some v:=by
 rw [← k];simp only [World.cell?,h]
theorem put8 {W:World} {b:Nat} {c0 c1 c2 c3 c4 c5 c6 c7:Value} (v0 v1 v2 v3 v4 v5 v6 v7:Value) (h:W.heap[b]? = some (.cells #[c0,c1,c2,c3,c4,c5,c6,c7] 29 (0,0))) :
  ((((((((W.setCell ⟨b,0,none⟩ (v0)).setCell ⟨b,1,none⟩ (v1)).setCell ⟨b,2,none⟩ (v2)).setCell ⟨b,3,none⟩ (v3)).setCell ⟨b,4,none⟩ (v4)).setCell ⟨b,5,none⟩ (v5)).setCell ⟨b,6,none⟩ (v6)).setCell ⟨b,7,none⟩ (v7)).heap[b]? = some (.cells #[v0,v1,v2,v3,v4,v5,v6,v7] 29 (0,0))∧((((((((W.setCell ⟨b,0,none⟩ (v0)).setCell ⟨b,1,none⟩ (v1)).setCell ⟨b,2,none⟩ (v2)).setCell ⟨b,3,none⟩ (v3)).setCell ⟨b,4,none⟩ (v4)).setCell ⟨b,5,none⟩ (v5)).setCell ⟨b,6,none⟩ (v6)).setCell ⟨b,7,none⟩ (v7)).heap.size=W.heap.size∧∀ k,k≠b→((((((((W.setCell ⟨b,0,none⟩ (v0)).setCell ⟨b,1,none⟩ (v1)).setCell ⟨b,2,none⟩ (v2)).setCell ⟨b,3,none⟩ (v3)).setCell ⟨b,4,none⟩ (v4)).setCell ⟨b,5,none⟩ (v5)).setCell ⟨b,6,none⟩ (v6)).setCell ⟨b,7,none⟩ (v7)).heap[k]? = W.heap[k]?:=by
 refine ⟨?_,by simp,fun k hk=>?_⟩
 ·have h0:(W.setCell ⟨b,0,none⟩ v0).heap[b]? = some (.cells #[v0,c1,c2,c3,c4,c5,c6,c7] 29 (0,0)):=by have:=heap_setCell_same W b 0 _ _ v0 h;simpa using this
  have h1:((W.setCell ⟨b,0,none⟩ v0).setCell ⟨b,1,none⟩ v1).heap[b]? = some (.cells #[v0,v1,c2,c3,c4,c5,c6,c7] 29 (0,0)):=by have:=heap_setCell_same _ b 1 _ _ v1 h0;simpa using this
  have h2:(((W.setCell ⟨b,0,none⟩ v0).setCell ⟨b,1,none⟩ v1).setCell ⟨b,2,none⟩ v2).heap[b]? = some (.cells #[v0,v1,v2,c3,c4,c5,c6,c7] 29 (0,0)):=by have:=heap_setCell_same _ b 2 _ _ v2 h1;simpa using this
  have h3:((((W.setCell ⟨b,0,none⟩ v0).setCell ⟨b,1,none⟩ v1).setCell ⟨b,2,none⟩ v2).setCell ⟨b,3,none⟩ v3).heap[b]? = some (.cells #[v0,v1,v2,v3,c4,c5,c6,c7] 29 (0,0)):=by have:=heap_setCell_same _ b 3 _ _ v3 h2;simpa using this
  have h4:(((((W.setCell ⟨b,0,none⟩ v0).setCell ⟨b,1,none⟩ v1).setCell ⟨b,2,none⟩ v2).setCell ⟨b,3,none⟩ v3).setCell ⟨b,4,none⟩ v4).heap[b]? = some (.cells #[v0,v1,v2,v3,v4,c5,c6,c7] 29 (0,0)):=by have:=heap_setCell_same _ b 4 _ _ v4 h3;simpa using this
  have h5:((((((W.setCell ⟨b,0,none⟩ v0).setCell ⟨b,1,none⟩ v1).setCell ⟨b,2,none⟩ v2).setCell ⟨b,3,none⟩ v3).setCell ⟨b,4,none⟩ v4).setCell ⟨b,5,none⟩ v5).heap[b]? = some (.cells #[v0,v1,v2,v3,v4,v5,c6,c7] 29 (0,0)):=by have:=heap_setCell_same _ b 5 _ _ v5 h4;simpa using this
  have h6:(((((((W.setCell ⟨b,0,none⟩ v0).setCell ⟨b,1,none⟩ v1).setCell ⟨b,2,none⟩ v2).setCell ⟨b,3,none⟩ v3).setCell ⟨b,4,none⟩ v4).setCell ⟨b,5,none⟩ v5).setCell ⟨b,6,none⟩ v6).heap[b]? = some (.cells #[v0,v1,v2,v3,v4,v5,v6,c7] 29 (0,0)):=by have:=heap_setCell_same _ b 6 _ _ v6 h5;simpa using this
  have h7:((((((((W.setCell ⟨b,0,none⟩ v0).setCell ⟨b,1,none⟩ v1).setCell ⟨b,2,none⟩ v2).setCell ⟨b,3,none⟩ v3).setCell ⟨b,4,none⟩ v4).setCell ⟨b,5,none⟩ v5).setCell ⟨b,6,none⟩ v6).setCell ⟨b,7,none⟩ v7).heap[b]? = some (.cells #[v0,v1,v2,v3,v4,v5,v6,v7] 29 (0,0)):=by have:=heap_setCell_same _ b 7 _ _ v7 h6;simpa using this
  exact h7
 ·repeat rw [heap_setCell_other _ _ _ _ hk]
theorem sF {X:World} {N:Nat} (hN:X.heap.size=N) (A B:Obj):((X.alloc A).alloc B).drew.heap[N]? = some A∧((X.alloc A).alloc B).drew.heap[N+1]? = some B∧∀ b,b<N→((X.alloc A).alloc B).drew.heap[b]? = X.heap[b]?:=by
 subst hN;refine ⟨?_,?_,fun b hb=>?_⟩
 ·rw [heap_drew];exact heap_alloc2_old X A B
 ·rw [heap_drew];exact heap_alloc2_new X A B
 ·rw [heap_drew,heap_alloc_old _ _ (by simp;omega),heap_alloc_old _ _ hb]
theorem kQ (w:World):IntsV w (.slice none 0 0) []:=⟨none,0,rfl,fun _=>rfl,by decide,rB _ _⟩
theorem yf9 (w:World):BrksV w (.slice none 0 0) []:=⟨none,0,rfl,fun _=>rfl,by decide,fun k hk=>by simp at hk⟩
theorem yd8 (w:World):ShpsV w (.slice none 0 0) []:=⟨none,0,rfl,fun _=>rfl,by decide,fun k hk=>by simp at hk⟩
end Go.Proofs.Ytgjpkpmikbpcnaa
