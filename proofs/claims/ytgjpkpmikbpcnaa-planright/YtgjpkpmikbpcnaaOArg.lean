import Derived.ProofKit
import Derived.OpenShut
import Derived.Carry
import Derived.SizedLaws
import Derived.Deep.Strs
import Derived.Deep.Slices
import Derived.Test.YtgjpkpmikbpcnaaRows
import Derived.Test.YtgjpkpmikbpcnaaOMem
namespace Go.Proofs.Ytgjpkpmikbpcnaa
open Go.ChangeShapes Go.WideShapes Go.ChangeAt Go.WideMaps Go.WideElems Go.RowKit Go.Deep
set_option maxRecDepth 100000
theorem own:ownKnob Try.prog.godebug=none:=by kernel_rfl
theorem lZ:laidOutB Try.prog=true:=by kernel_rfl
theorem fZ:Try.prog.cellsOf 3=1:=by kernel_rfl
theorem nG:Try.prog.cellsOf 22=1:=by kernel_rfl
theorem vM:Try.prog.cellsOf 38=1:=by kernel_rfl
theorem ybG:Try.prog.cellsOf 43=1:=by kernel_rfl
theorem vK:Try.prog.cellsOf 61=2:=by kernel_rfl
theorem cells77:Try.prog.cellsOf 84=1:=by kernel_rfl
theorem ybC:Try.prog.cellsOf 91=2:=by kernel_rfl
theorem ybE:Try.prog.cellsOf 86=11:=by kernel_rfl
theorem pS:Try.prog.cellsOf 45=3:=by kernel_rfl
theorem ybF:Try.prog.cellsOf 67=7:=by kernel_rfl
theorem ybD:Try.prog.cellsOf 103=9:=by kernel_rfl
theorem ybH:Try.prog.cellsOf 24=2:=by kernel_rfl
theorem cells25:Try.prog.cellsOf 25=1:=by kernel_rfl
theorem cells26:Try.prog.cellsOf 26=1:=by kernel_rfl
theorem cells27:Try.prog.cellsOf 27=1:=by kernel_rfl
theorem cells29:Try.prog.cellsOf 29=8:=by kernel_rfl
theorem bytes3:Try.prog.bytesOf 3=8:=by kernel_rfl
theorem bytes66:Try.prog.bytesOf 61=16:=by kernel_rfl
theorem bytes89:Try.prog.bytesOf 91=32:=by kernel_rfl
theorem bytes79:Try.prog.bytesOf 86=120:=by kernel_rfl
theorem bytes70:Try.prog.bytesOf 67=104:=by kernel_rfl
theorem bytes85:Try.prog.bytesOf 103=120:=by kernel_rfl
theorem kO {H:Type} {e:TypeId} {d:DataW H} {k:Nat}:∀ {l:List (DataW H)},d ∈ l→k ∈ d.weights Try.prog e→k ∈ DataW.weightsAll Try.prog e l
 | [],h,_=>by cases h
 | y::r,h,hk=>by
  unfold DataW.weightsAll
  rcases List.mem_cons.1 h with rfl | h
  ·exact List.mem_append.2 (.inl hk)
  ·exact List.mem_append.2 (.inr (kO h hk))
theorem tM {α:Type} [Inhabited α] (L:List α) (z:α) (k:Nat) (h:k<L.length):L.getD k z=L[k]!:=by
 rw [getElem!_pos L k h,List.getD_eq_getElem?_getD,List.getElem?_eq_getElem h];rfl
section
variable {H:Type} {enc:TypeId × Value→H} {W:World}
theorem lQ {α:Type} {z y:Nat} {zero:α} {V:World→List Value→α→Prop} {t e:TypeId} (ht:Try.prog.underlying t=some (.slice e)) (hc:Try.prog.cellsOf e=z) (hb:Try.prog.bytesOf e=y) (hz:0<z)
  (hopen:∀ {n:Nat} {cs:List Value} {d:DataW H × List MemPlace},DataW.trod enc Try.prog W 0 (fun _=>true) true n e cs=some d→(∀ k ∈ d.1.weights Try.prog e,k≤reachBytes)→cs.length=z∧∃ x,V W cs x)
  {n:Nat} {v:Value} {d:DataW H × List MemPlace} (h:DataW.trod enc Try.prog W 0 (fun _=>true) true n t [v]=some d) (hw:∀ k ∈ d.1.weights Try.prog t,k≤reachBytes):∃ L,SlV z y zero V W v L:=by
 rcases open_slice ht h with ⟨hcs,_⟩ | ⟨ad,len,cap,m,nn,D,Pl,hcs,_,hl,hm,hmm,hx,hcell⟩
 ·cases hcs
  exact ⟨[],none,0,rfl,fun _=>rfl,by simp,fun k hk=>by simp at hk⟩
 ·cases hcs
  simp only [if_true] at hmm;unfold maxLen at hm;have hd:d.1=.slice ((List.range len).map D) ((List.range (m-len)).map fun j=>D (len+j)):=congrArg Prod.fst hx
  have hval:∀ i,i<len→∃ x,∃ b off l,some ad=some ⟨b,off,none⟩∧l.length=z∧(∀ j,j<z→W.cell? ⟨b,off+i*z+j,none⟩=l[j]?)∧V W l x:=fun i hi=>by
   obtain ⟨cs',h1,h2⟩:=hcell i (by omega);rw [hc] at h1
   obtain ⟨hl2,x,hV⟩:=hopen h2 (fun k hk=>hw k (by
    rw [hd];simp only [DataW.weights,ht];exact List.mem_cons.2 (.inr (List.mem_append.2 (.inl (kO (List.mem_map.2 ⟨i,List.mem_range.2 hi,rfl⟩) hk))))))
   obtain ⟨_,hlen,hget⟩:=World.cells?_some h1;obtain ⟨g,o,spot⟩:=ad
   have hspot:spot=none:=by
    obtain ⟨cs0,k1,_⟩:=hcell 0 (by omega);rw [hc] at k1;obtain ⟨_,hl0,hg0⟩:=World.cells?_some k1;have e0:=hg0 0 (by omega)
    rcases cs0 with _ | ⟨u0,_⟩
    ·simp at hl0;omega
    ·simpa [Addr.add] using World.cell?_spot (e0.trans rfl)
   subst hspot;refine ⟨x,g,o,cs',rfl,hl2,fun j hj=>?_,hV⟩;have e:=hget j (by omega);rw [pD,pD] at e;rw [e]
  have hch:∃ F:Nat→α,∀ i,i<len→∃ b off l,some ad=some ⟨b,off,none⟩∧l.length=z∧(∀ j,j<z→W.cell? ⟨b,off+i*z+j,none⟩=l[j]?)∧V W l (F i) :=
   ⟨fun i=>if h:i<len then (hval i h).choose else zero,fun i hi=>by simp only [dif_pos hi];exact (hval i hi).choose_spec⟩
  obtain ⟨F,hF⟩:=hch;refine ⟨(List.range len).map F,some ad,cap,by simp,(fun e=>by cases e),?_,fun k hk=>?_⟩
  ·have:=hw ((len+(cap-len))*y) (by
    rw [hd];simp only [DataW.weights,ht,hb];refine List.mem_cons.2 (.inl ?_)
    simp [hmm])
   unfold reachBytes at this;simp only [List.length_map,List.length_range];have h2:len*y≤(len+(cap-len))*y:=Nat.mul_le_mul_right y (by omega)
   omega
  ·have hk':k<len:=by simpa using hk
   have e:((List.range len).map F).getD k zero=F k:=by simp [List.getD,hk']
   rw [e];exact hF k hk'
theorem qT {n:Nat} {v:Value} {y:DataW H × List MemPlace} (h:DataW.trod enc Try.prog W 0 (fun _=>true) true n 3 [v]=some y):∃ a,v=.int .i64 a:=by
 obtain ⟨a,e,_,_⟩:=DataW.trod_int Try.underlying3 h
 cases e
 exact ⟨a,rfl⟩
theorem iI {n:Nat} {v:Value} {y:DataW H × List MemPlace} (h:DataW.trod enc Try.prog W 0 (fun _=>true) true n 22 [v]=some y) (hw:∀ k ∈ y.1.weights Try.prog 22,k≤reachBytes):∃ L,IntsV W v L:=by
 obtain ⟨L,a,c,rfl,hc,hb,hL⟩:=lQ (z:=1) (y:=8) (zero:=(0:Int)) (V:=fun _ l x=>l=[Value.int .i64 x]) Try.underlying22 fZ bytes3 (by decide) (fun {n cs d} h _=>by
  have hl:cs.length=1:=by
   obtain ⟨a,e,_,_⟩:=DataW.trod_int Try.underlying3 h;rw [e];rfl
  match cs,hl with
  | [v0],_ =>
   obtain ⟨a,rfl⟩:=qT h;exact ⟨rfl,a,rfl⟩) h hw
 refine ⟨L,a,c,rfl,hc,hb,fun k hk=>?_⟩;obtain ⟨b,off,l,e,_,h1,h2⟩:=hL k hk;refine ⟨b,off,e,?_⟩;have:=h1 0 (by decide);rw [h2] at this;simp only [Nat.mul_one,Nat.add_zero] at this;rw [this,tM L 0 k hk]
 rfl
theorem sX {n:Nat} {v0 v1:Value} {y:DataW H × List MemPlace} (h:DataW.trod enc Try.prog W 0 (fun _=>true) true n 61 [v0,v1]=some y):∃ a b,[v0,v1]=[Value.int .i64 a,.int .i64 b]:=by
 obtain ⟨y0,y1,n2,_,_,t0,t1⟩:=trod_struct2 Try.underlying61 h;obtain ⟨a,rfl⟩:=qT (v:=v0) (n:=n2) t0;obtain ⟨b,rfl⟩:=qT (v:=v1) (n:=n2) t1;exact ⟨a,b,rfl⟩
theorem qR {n:Nat} {v:Value} {y:DataW H × List MemPlace} (h:DataW.trod enc Try.prog W 0 (fun _=>true) true n 43 [v]=some y) (hw:∀ k ∈ y.1.weights Try.prog 43,k≤reachBytes):∃ L,WinsV W v L:=by
 obtain ⟨L,a,c,rfl,hc,hb,hL⟩:=lQ (z:=2) (y:=16) (zero:=((0,0):Win)) (V:=fun _ l x=>l=[Value.int .i64 x.1,.int .i64 x.2]) Try.underlying43 vK bytes66 (by decide) (fun {n cs d} h _=>by
  obtain ⟨xs,m,_,rfl,hl,hlen,hf⟩:=DataW.trod_struct Try.underlying61 h;rw [vK] at hl
  match cs,hl with
  | [v0,v1],_ =>
   obtain ⟨a,b,e⟩:=sX h;exact ⟨rfl,(a,b),e⟩) h hw
 refine ⟨L,a,c,rfl,hc,rfl,hb,fun k hk=>?_⟩;obtain ⟨b,off,l,e,_,h1,h2⟩:=hL k hk;refine ⟨b,off,e,?_⟩;have g0:=h1 0 (by decide);have g1:=h1 1 (by decide);rw [h2] at g0 g1;have e2:L.getD k (0,0)=L[k]!:=tM L (0,0) k hk;rw [e2] at g0 g1;exact ⟨g0,g1⟩
theorem uH {x:Int} (h:(Lit.int .u64 x).wf=true):Wd x:=by
 have:=bounds_u64 h;unfold Wd
 omega
theorem yeV {n:Nat} {cs:List Value} {y:DataW H × List MemPlace} (h:DataW.trod enc Try.prog W 0 (fun _=>true) true n 91 cs=some y) (hw:∀ k ∈ y.1.weights Try.prog 91,k≤reachBytes):cs.length=2∧∃ x,BrkV W cs x:=by
 obtain ⟨xs,m,_,rfl,hl,hlen,hf⟩:=DataW.trod_struct Try.underlying91 h;rw [ybC] at hl;refine ⟨hl,?_⟩
 match cs,hl with
 | [v0,v1],_ =>
  match xs,hlen with
  | [y0,y1],_ =>
   have t0:DataW.trod enc Try.prog W 0 (fun _=>true) true m 43 [v0]=some y0:=by simpa [ybG] using hf 0 _ rfl
   have t1:DataW.trod enc Try.prog W 0 (fun _=>true) true m 3 [v1]=some y1:=by simpa [fZ] using hf 1 _ rfl
   have hwe:∀ k ∈ DataW.weightsEach Try.prog [43,3] [y0.1,y1.1],k≤reachBytes:=fun k hk=>hw k (by
    simp only [DataW.weights,Try.underlying91];exact hk)
   simp only [DataW.weightsEach,List.mem_append] at hwe;obtain ⟨a0,q0⟩:=qR t0 (fun k hk=>hwe k (.inl hk));obtain ⟨a1,e1,_,_⟩:=DataW.trod_int Try.underlying3 t1
   cases e1
   exact ⟨⟨a0,a1⟩,v0,rfl,q0⟩
theorem zJ {n:Nat} {v:Value} {y:DataW H × List MemPlace} (h:DataW.trod enc Try.prog W 0 (fun _=>true) true n 84 [v]=some y) (hw:∀ k ∈ y.1.weights Try.prog 84,k≤reachBytes):∃ L,BrksV W v L:=lQ Try.underlying84 ybC bytes89 (by decide) yeV h hw
theorem qS {n:Nat} {cs:List Value} {y:DataW H × List MemPlace} (h:DataW.trod enc Try.prog W 0 (fun _=>true) true n 45 cs=some y) (hw:∀ k ∈ y.1.weights Try.prog 45,k≤reachBytes):cs.length=3∧∃ x,StpV W cs x:=by
 obtain ⟨xs,m,_,rfl,hl,hlen,hf⟩:=DataW.trod_struct Try.underlying45 h;rw [pS] at hl;refine ⟨hl,?_⟩
 match cs,hl with
 | [v0,v1,v2],_ =>
  match xs,hlen with
  | [y0,y1,y2],_ =>
   have t0:DataW.trod enc Try.prog W 0 (fun _=>true) true m 3 [v0]=some y0:=by simpa [fZ] using hf 0 _ rfl
   have t1:DataW.trod enc Try.prog W 0 (fun _=>true) true m 3 [v1]=some y1:=by simpa [fZ] using hf 1 _ rfl
   have t2:DataW.trod enc Try.prog W 0 (fun _=>true) true m 43 [v2]=some y2:=by simpa [ybG] using hf 2 _ rfl
   have hwe:∀ k ∈ DataW.weightsEach Try.prog [3,3,43] [y0.1,y1.1,y2.1],k≤reachBytes:=fun k hk=>hw k (by
    simp only [DataW.weights,Try.underlying45];exact hk)
   simp only [DataW.weightsEach,List.mem_append] at hwe;obtain ⟨a0,e0,_,_⟩:=DataW.trod_int Try.underlying3 t0;obtain ⟨a1,e1,_,_⟩:=DataW.trod_int Try.underlying3 t1;obtain ⟨a2,q2⟩:=qR t2 (fun k hk=>hwe k (.inr (.inr (.inl hk))))
   cases e0
   cases e1
   exact ⟨⟨a0,a1,a2⟩,v2,rfl,q2⟩
theorem yeS {n:Nat} {cs:List Value} {y:DataW H × List MemPlace} (h:DataW.trod enc Try.prog W 0 (fun _=>true) true n 86 cs=some y) (hw:∀ k ∈ y.1.weights Try.prog 86,k≤reachBytes):cs.length=11∧∃ x,VehV W cs x:=by
 obtain ⟨xs,m,_,rfl,hl,hlen,hf⟩:=DataW.trod_struct Try.underlying86 h;rw [ybE] at hl;refine ⟨hl,?_⟩
 match cs,hl with
 | [v0,v1,v2,v3,v4,v5,v6,v7,v8,v9,v10],_ =>
  match xs,hlen with
  | [y0,y1,y2,y3,y4,y5,y6,y7,y8,y9],_ =>
   have t0:DataW.trod enc Try.prog W 0 (fun _=>true) true m 3 [v0]=some y0:=by simpa [fZ] using hf 0 _ rfl
   have t1:DataW.trod enc Try.prog W 0 (fun _=>true) true m 3 [v1]=some y1:=by simpa [fZ] using hf 1 _ rfl
   have t2:DataW.trod enc Try.prog W 0 (fun _=>true) true m 22 [v2]=some y2:=by simpa [nG] using hf 2 _ rfl
   have t3:DataW.trod enc Try.prog W 0 (fun _=>true) true m 38 [v3]=some y3:=by simpa [vM] using hf 3 _ rfl
   have t4:DataW.trod enc Try.prog W 0 (fun _=>true) true m 61 [v4,v5]=some y4:=by simpa [vK] using hf 4 _ rfl
   have t5:DataW.trod enc Try.prog W 0 (fun _=>true) true m 3 [v6]=some y5:=by simpa [fZ] using hf 5 _ rfl
   have t6:DataW.trod enc Try.prog W 0 (fun _=>true) true m 3 [v7]=some y6:=by simpa [fZ] using hf 6 _ rfl
   have t7:DataW.trod enc Try.prog W 0 (fun _=>true) true m 3 [v8]=some y7:=by simpa [fZ] using hf 7 _ rfl
   have t8:DataW.trod enc Try.prog W 0 (fun _=>true) true m 3 [v9]=some y8:=by simpa [fZ] using hf 8 _ rfl
   have t9:DataW.trod enc Try.prog W 0 (fun _=>true) true m 84 [v10]=some y9:=by simpa [cells77] using hf 9 _ rfl
   have hwe:∀ k ∈ DataW.weightsEach Try.prog [3,3,22,38,61,3,3,3,3,84] [y0.1,y1.1,y2.1,y3.1,y4.1,y5.1,y6.1,y7.1,y8.1,y9.1],k≤reachBytes:=fun k hk=>hw k (by
    simp only [DataW.weights,Try.underlying86];exact hk)
   simp only [DataW.weightsEach,List.mem_append] at hwe;obtain ⟨a0,e0,_,_⟩:=DataW.trod_int Try.underlying3 t0;obtain ⟨a1,e1,_,_⟩:=DataW.trod_int Try.underlying3 t1;obtain ⟨a2,q2⟩:=iI t2 (fun k hk=>hwe k (.inr (.inr (.inl hk))));obtain ⟨a3,e3,_,w3⟩:=DataW.trod_int Try.underlying38 t3;obtain ⟨b4,c4,e4⟩:=sX t4;obtain ⟨a5,e5,_,_⟩:=DataW.trod_int Try.underlying3 t5;obtain ⟨a6,e6,_,_⟩:=DataW.trod_int Try.underlying3 t6;obtain ⟨a7,e7,_,_⟩:=DataW.trod_int Try.underlying3 t7;obtain ⟨a8,e8,_,_⟩:=DataW.trod_int Try.underlying3 t8;obtain ⟨a9,q9⟩:=zJ t9 (fun k hk=>hwe k (.inr (.inr (.inr (.inr (.inr (.inr (.inr (.inr (.inr (.inl hk)))))))))))
   cases e0
   cases e1
   cases e3
   cases e4
   cases e5
   cases e6
   cases e7
   cases e8
   exact ⟨⟨a0,a1,a2,a3,(b4,c4),a5,a6,a7,a8,a9⟩,v2,v10,rfl,q2,q9,uH w3⟩
theorem yeU {n:Nat} {cs:List Value} {y:DataW H × List MemPlace} (h:DataW.trod enc Try.prog W 0 (fun _=>true) true n 67 cs=some y) (hw:∀ k ∈ y.1.weights Try.prog 67,k≤reachBytes):cs.length=7∧∃ x,JobV W cs x:=by
 obtain ⟨xs,m,_,rfl,hl,hlen,hf⟩:=DataW.trod_struct Try.underlying67 h;rw [ybF] at hl;refine ⟨hl,?_⟩
 match cs,hl with
 | [v0,v1,v2,v3,v4,v5,v6],_ =>
  match xs,hlen with
  | [y0,y1,y2,y3,y4],_ =>
   have t0:DataW.trod enc Try.prog W 0 (fun _=>true) true m 45 [v0,v1,v2]=some y0:=by simpa [pS] using hf 0 _ rfl
   have t1:DataW.trod enc Try.prog W 0 (fun _=>true) true m 22 [v3]=some y1:=by simpa [nG] using hf 1 _ rfl
   have t2:DataW.trod enc Try.prog W 0 (fun _=>true) true m 22 [v4]=some y2:=by simpa [nG] using hf 2 _ rfl
   have t3:DataW.trod enc Try.prog W 0 (fun _=>true) true m 38 [v5]=some y3:=by simpa [vM] using hf 3 _ rfl
   have t4:DataW.trod enc Try.prog W 0 (fun _=>true) true m 3 [v6]=some y4:=by simpa [fZ] using hf 4 _ rfl
   have hwe:∀ k ∈ DataW.weightsEach Try.prog [45,22,22,38,3] [y0.1,y1.1,y2.1,y3.1,y4.1],k≤reachBytes:=fun k hk=>hw k (by
    simp only [DataW.weights,Try.underlying67];exact hk)
   simp only [DataW.weightsEach,List.mem_append] at hwe;obtain ⟨_,a0,u0,e0,q0⟩:=qS t0 (fun k hk=>hwe k (.inl hk));obtain ⟨a1,q1⟩:=iI t1 (fun k hk=>hwe k (.inr (.inl hk)));obtain ⟨a2,q2⟩:=iI t2 (fun k hk=>hwe k (.inr (.inr (.inl hk))));obtain ⟨a3,e3,_,w3⟩:=DataW.trod_int Try.underlying38 t3;obtain ⟨a4,e4,_,_⟩:=DataW.trod_int Try.underlying3 t4
   cases e0
   cases e3
   cases e4
   exact ⟨⟨a0,a1,a2,a3,a4⟩,v2,v3,v4,rfl,q0,q1,q2,uH w3⟩
theorem yeT {n:Nat} {cs:List Value} {y:DataW H × List MemPlace} (h:DataW.trod enc Try.prog W 0 (fun _=>true) true n 103 cs=some y) (hw:∀ k ∈ y.1.weights Try.prog 103,k≤reachBytes):cs.length=9∧∃ x,ShpV W cs x:=by
 obtain ⟨xs,m,_,rfl,hl,hlen,hf⟩:=DataW.trod_struct Try.underlying103 h;rw [ybD] at hl;refine ⟨hl,?_⟩
 match cs,hl with
 | [v0,v1,v2,v3,v4,v5,v6,v7,v8],_ =>
  match xs,hlen with
  | [y0,y1,y2,y3,y4],_ =>
   have t0:DataW.trod enc Try.prog W 0 (fun _=>true) true m 45 [v0,v1,v2]=some y0:=by simpa [pS] using hf 0 _ rfl
   have t1:DataW.trod enc Try.prog W 0 (fun _=>true) true m 45 [v3,v4,v5]=some y1:=by simpa [pS] using hf 1 _ rfl
   have t2:DataW.trod enc Try.prog W 0 (fun _=>true) true m 22 [v6]=some y2:=by simpa [nG] using hf 2 _ rfl
   have t3:DataW.trod enc Try.prog W 0 (fun _=>true) true m 38 [v7]=some y3:=by simpa [vM] using hf 3 _ rfl
   have t4:DataW.trod enc Try.prog W 0 (fun _=>true) true m 3 [v8]=some y4:=by simpa [fZ] using hf 4 _ rfl
   have hwe:∀ k ∈ DataW.weightsEach Try.prog [45,45,22,38,3] [y0.1,y1.1,y2.1,y3.1,y4.1],k≤reachBytes:=fun k hk=>hw k (by
    simp only [DataW.weights,Try.underlying103];exact hk)
   simp only [DataW.weightsEach,List.mem_append] at hwe;obtain ⟨_,a0,u0,e0,q0⟩:=qS t0 (fun k hk=>hwe k (.inl hk));obtain ⟨_,a1,u1,e1,q1⟩:=qS t1 (fun k hk=>hwe k (.inr (.inl hk)));obtain ⟨a2,q2⟩:=iI t2 (fun k hk=>hwe k (.inr (.inr (.inl hk))));obtain ⟨a3,e3,_,w3⟩:=DataW.trod_int Try.underlying38 t3;obtain ⟨a4,e4,_,_⟩:=DataW.trod_int Try.underlying3 t4
   cases e0
   cases e1
   cases e3
   cases e4
   exact ⟨⟨a0,a1,a2,a3,a4⟩,v2,v5,v6,rfl,q0,q1,q2,uH w3⟩
theorem xB {n:Nat} {v0 v1:Value} {y:DataW H × List MemPlace} (h:DataW.trod enc Try.prog W 0 (fun _=>true) true n 24 [v0,v1]=some y) (hw:∀ k ∈ y.1.weights Try.prog 24,k≤reachBytes):∃ m:Mat,v0=.int .i64 m.n∧IntsV W v1 m.cells:=by
 obtain ⟨xs,m,_,rfl,hl,hlen,hf⟩:=DataW.trod_struct Try.underlying24 h
 match xs,hlen with
 | [y0,y1],_ =>
  have t0:DataW.trod enc Try.prog W 0 (fun _=>true) true m 3 [v0]=some y0:=by simpa [fZ] using hf 0 _ rfl
  have t1:DataW.trod enc Try.prog W 0 (fun _=>true) true m 22 [v1]=some y1:=by simpa [nG] using hf 1 _ rfl
  have hwe:∀ k ∈ DataW.weightsEach Try.prog [3,22] [y0.1,y1.1],k≤reachBytes:=fun k hk=>hw k (by
   simp only [DataW.weights,Try.underlying24];exact hk)
  simp only [DataW.weightsEach,List.mem_append] at hwe;obtain ⟨a,rfl⟩:=qT t0;obtain ⟨L,q⟩:=iI t1 (fun k hk=>hwe k (.inr (.inl hk)));exact ⟨⟨a,L⟩,rfl,q⟩
theorem xA {cs:Array Value} {d:DataW H} {p:List MemPlace} (h:DataW.Trod enc Try.prog W 0 (fun _=>true) true 29 (.agg cs) d p) (hw:∀ k ∈ d.weights Try.prog 29,k≤reachBytes):∃ P x,cs=aL P x∧PrbV W x P:=by
 obtain ⟨fuel,hf⟩:=h;obtain ⟨xs,m,_,e,hl,hlen,hf⟩:=DataW.trod_struct Try.underlying29 hf;rw [cells29] at hl;have hcs:(Value.agg cs).cells.toList=cs.toList:=rfl;rw [hcs] at hl hf;have hd:d=.agg (xs.map (·.1)):=congrArg Prod.fst e;obtain ⟨l,hll⟩:∃ l,cs.toList=l:=⟨_,rfl⟩;rw [hll] at hl hf
 obtain ⟨v0,v1,v2,v3,v4,v5,v6,v7,rfl⟩:∃ v0 v1 v2 v3 v4 v5 v6 v7,l=[v0,v1,v2,v3,v4,v5,v6,v7]:=by
  match l,hl with
  | [v0,v1,v2,v3,v4,v5,v6,v7],_=>exact ⟨v0,v1,v2,v3,v4,v5,v6,v7,rfl⟩
 obtain ⟨y0,y1,y2,y3,y4,y5,rfl⟩:∃ y0 y1 y2 y3 y4 y5,xs=[y0,y1,y2,y3,y4,y5]:=by
  match xs,hlen with
  | [y0,y1,y2,y3,y4,y5],_=>exact ⟨y0,y1,y2,y3,y4,y5,rfl⟩
 have t0:DataW.trod enc Try.prog W 0 (fun _=>true) true m 3 [v0]=some y0:=by simpa [fZ] using hf 0 _ rfl
 have t1:DataW.trod enc Try.prog W 0 (fun _=>true) true m 24 [v1,v2]=some y1:=by simpa [ybH] using hf 1 _ rfl
 have t2:DataW.trod enc Try.prog W 0 (fun _=>true) true m 24 [v3,v4]=some y2:=by simpa [ybH] using hf 2 _ rfl
 have t3:DataW.trod enc Try.prog W 0 (fun _=>true) true m 25 [v5]=some y3:=by simpa [cells25] using hf 3 _ rfl
 have t4:DataW.trod enc Try.prog W 0 (fun _=>true) true m 26 [v6]=some y4:=by simpa [cells26] using hf 4 _ rfl
 have t5:DataW.trod enc Try.prog W 0 (fun _=>true) true m 27 [v7]=some y5:=by simpa [cells27] using hf 5 _ rfl
 have hwe:∀ k ∈ DataW.weightsEach Try.prog [3,24,24,25,26,27] [y0.1,y1.1,y2.1,y3.1,y4.1,y5.1],k≤reachBytes:=fun k hk=>hw k (by
  rw [hd];simp only [DataW.weights,Try.underlying29];exact hk)
 simp only [DataW.weightsEach,List.mem_append] at hwe;obtain ⟨a0,rfl⟩:=qT t0;obtain ⟨m1,rfl,q1⟩:=xB t1 (fun k hk=>hwe k (.inr (.inl hk)));obtain ⟨m2,rfl,q2⟩:=xB t2 (fun k hk=>hwe k (.inr (.inr (.inl hk))));obtain ⟨L3,q3⟩:=lQ (zero:=vz) Try.underlying25 ybE bytes79 (by decide) yeS t3 (fun k hk=>hwe k (.inr (.inr (.inr (.inl hk)))));obtain ⟨L4,q4⟩:=lQ (zero:=jz) Try.underlying26 ybF bytes70 (by decide) yeU t4 (fun k hk=>hwe k (.inr (.inr (.inr (.inr (.inl hk))))));obtain ⟨L5,q5⟩:=lQ (zero:=hz) Try.underlying27 ybD bytes85 (by decide) yeT t5 (fun k hk=>hwe k (.inr (.inr (.inr (.inr (.inr (.inl hk)))))));refine ⟨⟨a0,m1,m2,L3,L4,L5⟩,⟨v2,v4,v5,v6,v7⟩,?_,⟨q1,q2,q3,q4,q5⟩⟩
 apply Array.ext'
 rw [hll]
 rfl
end
end Go.Proofs.Ytgjpkpmikbpcnaa
