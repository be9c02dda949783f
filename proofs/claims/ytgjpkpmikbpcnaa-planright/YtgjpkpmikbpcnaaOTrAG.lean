import Derived.DeepKeys4
import Derived.Maps.OwnSet
import Derived.Maps.RangeWalk
import Derived.WideKeyEntry
import Derived.Test.YtgjpkpmikbpcnaaOStps
set_option maxRecDepth 100000
set_option maxHeartbeats 6400000
namespace Go.Proofs.Ytgjpkpmikbpcnaa
open Go.RowKit
theorem g6 {w:World} {x v:Value} {m:Mat} {L:List Stp} {i:Nat} (hx:IntsV w x m.cells) (hm:SqM m) (hv:eT w v L) (hi:i<L.length):Calls Try.prog 107 #[.agg #[.int .i64 m.n,x],v,.int .i64 (i:Int)] w fun e w'=>e=.returned (.int .i64 (aE m L i))∧Below w.heap.size w w':=by
 cases i with
 | zero =>
  obtain ⟨a,c,rfl⟩:=hx.shape;exact vU m.n ⟨_,_,_,rfl⟩
 | succ i =>
  rw [aJ];exact yN hx hm hv hi
theorem pB (a b:Nat) (ha:a<18446744073709551616) (hb:b<18446744073709551616):b &&& (18446744073709551615-a)=0↔a ||| b=a:=by
 have key:∀ k,(18446744073709551615-a).testBit k=(decide (k<64) && !a.testBit k):=fun k=>by
  have:=Nat.testBit_two_pow_sub_succ (x:=a) (n:=64) ha k;rw [show 2 ^ 64-(a+1)=18446744073709551615-a by omega] at this;exact this
 constructor
 ·intro h;refine Nat.eq_of_testBit_eq fun k=>?_;have h1:=congrArg (·.testBit k) h;simp only [Nat.testBit_and,key,Nat.zero_testBit] at h1;rw [Nat.testBit_or]
  by_cases hk:k<64
  ·cases hA:a.testBit k <;> cases hB:b.testBit k <;> simp [hA,hB,hk] at h1 ⊢
  ·have:b.testBit k=false:=Nat.testBit_lt_two_pow (Nat.lt_of_lt_of_le hb (Nat.pow_le_pow_right (n:=2) (by decide) (show 64≤k by omega)))
   simp [this]
 ·intro h;refine Nat.eq_of_testBit_eq fun k=>?_;have h1:=congrArg (·.testBit k) h;simp only [Nat.testBit_or] at h1;rw [Nat.testBit_and,key,Nat.zero_testBit]
  cases hA:a.testBit k <;> cases hB:b.testBit k <;> simp [hA,hB] at h1 ⊢
theorem zZ {a b:Int} (ha:Wd a) (hb:Wd b) (w:World):Calls Try.prog 124 #[.int .u64 a,.int .u64 b] w fun e w'=>e=.returned (.bool (eY a b))∧w'=w:=by
 obtain ⟨a,rfl⟩:∃ n:Nat,a=n:=⟨a.toNat,by have:=ha.1;omega⟩;obtain ⟨b,rfl⟩:∃ n:Nat,b=n:=⟨b.toNat,by have:=hb.1;omega⟩;have ha:a<18446744073709551616:=by have:=ha.2;omega
 have hb:b<18446744073709551616:=by have:=hb.2;omega
 have h0:=u64_andNot_nat b a hb ha;have hc:=pB a b ha hb;unfold eY;simp only [Int.toNat_natCast]
 generalize b &&& (18446744073709551615-a)=c at h0 hc
 by_cases h:a ||| b=a
 ·have hz:=hc.2 h;subst hz;have h1:(((0:Nat):Int) == 0)=true:=rfl;have HH:=hide h;clear h hc;go_enter Try.func124,Try.ntmps124;go_wp2;go_ret;exact ⟨by simp [HH.out],rfl⟩
 ·have hz:c≠0:=fun e=>h (hc.1 e);have h1:((c:Int) == 0)=false:=by simp;omega
  have h2:¬ (c:Int)=0:=by omega
  have HH:=hide h;clear h hc;go_enter Try.func124,Try.ntmps124;go_wp2;go_ret;exact ⟨by simp [HH.out],rfl⟩
theorem yd7 {w:World} {x:aU} {p:Prb} (h:PrbV w x p) (t:Tsk):Wd (gJ p t):=by
 obtain ⟨s,i⟩:=t;unfold gJ
 split
 ·rename_i ht
  split
  ·rename_i hs;subst hs;obtain ⟨k,rfl,hk⟩:=iE ht;obtain ⟨a,c,_,_,_,hc⟩:=h.s;obtain ⟨_,_,_,_,_,_,_,_,_,_,_,_,_,hw⟩:=hc k hk
   simpa using hw
  ·rename_i hs;have hs:s=false:=by cases s <;> simp_all
   subst hs;obtain ⟨k,rfl,hk⟩:=lG ht;obtain ⟨a,c,_,_,_,hc⟩:=h.j;obtain ⟨_,_,_,_,_,_,_,_,_,_,_,_,_,hw⟩:=hc k hk
   simpa using hw
 ·exact ⟨by omega,by omega⟩
theorem ydV {w:World} {x:aU} {p:Prb} (h:PrbV w x p) {k:Nat} (hk:k<p.vs.length):Wd (p.vs.getD k vz).skills:=by
 obtain ⟨a,c,_,_,_,hc⟩:=h.v;obtain ⟨_,_,_,_,_,_,_,_,_,_,_,hw⟩:=hc k hk;exact hw
end Go.Proofs.Ytgjpkpmikbpcnaa
namespace Go.Proofs.Ytgjpkpmikbpcnaa
open Go.RowKit Go.Maps
theorem ydT:(match Try.prog.underlying 31 with | some (.array _ _) | some (.struct _)=>true | _=>false)=true:=by kernel_rfl
theorem row31:(31:TypeId)<Try.prog.types.size:=of_decide_eq_true (by kernel_rfl)
theorem yfW:Try.prog.keyTypeAt 2 31=true:=by kernel_rfl
theorem tlaw:Keyed Try.prog 31:=Keyed.of_law (deep_law_laid lZ (m:=2) (by omega) row31 yfW ydT)
def qA (t:Tsk):Value:=.agg #[.bool t.1,.int .i64 t.2]
def uL (t:Tsk):Lit:=.string (keyBytes [.bool t.1,.int .i64 t.2])
def I64 (x:Int):Prop:=-9223372036854775808≤x∧x≤9223372036854775807
theorem wf64 {x:Int} (h:I64 x):(Lit.int .i64 x).wf=true:=by
 obtain ⟨h1,h2⟩:=h;have e1:IntKind.i64.min=-9223372036854775808:=by rfl
 have e2:IntKind.i64.max=9223372036854775807:=by rfl
 simp [Lit.wf,e1,e2]
 omega
theorem rX (t:Tsk) (h:I64 t.2):keyOf Try.prog 31 (qA t)=some (uL t):=by
 obtain ⟨s,i⟩:=t;have h1:Try.prog.keyType 31=true:=by kernel_rfl
 have hc:Try.prog.cellsOf 31=2:=by kernel_rfl
 have hc4:Try.prog.cellsOf 4=1:=by kernel_rfl
 have hc3:Try.prog.cellsOf 3=1:=by kernel_rfl
 have h2:(qA (s,i)).formed Try.prog 31=true:=by simp [qA,Value.formed,Try.underlying31,hc]
 have hw:=wf64 h
 have h3:∀ d,Try.prog.keyLits (d+2) 31 [.bool s,.int .i64 i]=some [.bool s,.int .i64 i]:=by
  intro d
  simp [Program.keyLits,Try.underlying31,Try.underlying4,Try.underlying3,hc,hc4,hc3,hw]
 obtain ⟨d,hd⟩:∃ d,Try.prog.types.size+1=d+2:=⟨Try.prog.types.size-1,by have:31<Try.prog.types.size:=of_decide_eq_true (by kernel_rfl);omega⟩;unfold keyOf;rw [Try.underlying31];simp only [h1,h2,Bool.and_self,if_true];rw [hd];show (Try.prog.keyLits (d+2) 31 [.bool s,.int .i64 i]).map _=_;rw [h3]
 rfl
theorem vV {t u:Tsk} (ht:I64 t.2) (hu:I64 u.2) (h:uL t=uL u):t=u:=by
 have:=tlaw.inj (rX t ht) (by rw [h];exact rX u hu);obtain ⟨s,i⟩:=t;obtain ⟨s',i'⟩:=u
 simp [qA] at this
 rw [this.1,this.2]
def j9 (v:Value):Option (DataW Value × List MemPlace):=some (.held v,[])
theorem o8 {w w':World} {mb:Nat} (h:w.grownBy w' (some mb)) (hl:mb≤w.heap.size):Below mb w w':=(Below.refl mb w).grown h hl fun q hq=>by cases hq;exact Nat.le_refl _
theorem zT {w w':World} {mb b o:Nat} (h:w.grownBy w' (some mb)) (hb:b<w.heap.size) (hne:b≠mb):w'.cell? ⟨b,o,none⟩=w.cell? ⟨b,o,none⟩:=by
 have e:=h.block b hb (by simpa using hne);unfold World.cell?;simp only [e]
end Go.Proofs.Ytgjpkpmikbpcnaa
namespace Go.Proofs.Ytgjpkpmikbpcnaa
open Go.RowKit
def aX (P:List Vst) (t:Tsk):Int:=if t.1=true then (if ((2,t.2):Vst) ∈ P then 1 else 0)+(if ((3,t.2):Vst) ∈ P then 1 else 0) else (if ((1,t.2):Vst) ∈ P then 1 else 0)
def bE (v:Vst):Tsk:=(decide (v.1≠1),v.2)
theorem ybY (t:Tsk):aX [] t=0:=by unfold aX;simp
theorem wE (P:List Vst) (t:Tsk):0≤aX P t∧aX P t≤2:=by
 unfold aX
 split
 ·split <;> split <;> omega
 ·split <;> omega
theorem yW {P:List Vst} {v:Vst} (hk:v.1=1∨v.1=2∨v.1=3) (hn:v ∉ P) (t:Tsk):aX (P ++ [v]) t=if t=bE v then aX P t+1 else aX P t:=by
 obtain ⟨k,i⟩:=v;obtain ⟨s,j⟩:=t;simp only at hk
 rcases hk with rfl | rfl | rfl
 ·unfold aX bE
  cases s with
  | true=>simp
  | false =>
   simp only [Bool.false_eq_true,if_false]
   by_cases e:j=i
   ·subst e
    simp [hn]
   ·have:¬ ((1,j):Vst)=(1,i):=fun h=>e (by injection h)
    simp [e]
 ·unfold aX bE
  cases s with
  | false=>simp
  | true =>
   simp only [if_true]
   by_cases e:j=i
   ·subst e
    simp [hn]
    omega
   ·simp [e]
 ·unfold aX bE
  cases s with
  | false=>simp
  | true =>
   simp only [if_true]
   by_cases e:j=i
   ·subst e
    simp [hn]
   ·simp [e]
theorem yb0 {P:List Vst} {v:Vst} (hk:v.1=4) (t:Tsk):aX (P ++ [v]) t=aX P t:=by
 obtain ⟨k,i⟩:=v;simp only at hk;subst hk;unfold aX
 simp
def oW (t:Tsk):Int:=if t.1=true then 2 else 1
theorem ybO {p:Prb} {V:List Vst} (h:Gd p V):ybM p V↔∀ t,0<aX V t→oW t≤aX V t:=by
 constructor
 ·rintro ⟨_,h2⟩ ⟨s,j⟩ ht;unfold oW
  cases s with
  | false=>unfold aX at ht ⊢;simp only [Bool.false_eq_true,if_false] at ht ⊢;omega
  | true =>
   unfold aX at ht ⊢;simp only [if_true] at ht ⊢
   have hp:((2,j):Vst) ∈ V:=by
    by_cases h3:((3,j):Vst) ∈ V
    ·obtain ⟨i,hi⟩:=List.getElem?_of_mem h3;have:=(h i _ hi (by simp)).2.2 rfl;exact List.mem_of_mem_take this
    ·rw [if_neg h3] at ht
     by_cases h2':((2,j):Vst) ∈ V
     ·exact h2'
     ·rw [if_neg h2'] at ht;omega
   rw [if_pos hp,if_pos (h2 j hp)]
   omega
 ·intro hs;refine ⟨h,fun j hj=>?_⟩
  by_cases h3:((3,j):Vst) ∈ V
  ·exact h3
  ·have:=hs (true,j) (by unfold aX;simp [hj,h3]);unfold oW aX at this
   simp [hj,h3] at this
end Go.Proofs.Ytgjpkpmikbpcnaa
namespace Go.Proofs.Ytgjpkpmikbpcnaa
open Go.RowKit Go.Maps Go.ChangeMaps Go.WideElems
theorem tlawK:WideMaps.KeyLaw Try.prog 31:=deep_law_laid lZ (m:=2) (by omega) row31 yfW ydT
theorem yaJ (W:World):(zeroValue 3).run Try.prog W=.ok (.int .i64 0) W:=by kernel_rfl
def MapZ (w:World) (mb n:Nat) (F:Tsk→Int):Prop:=∃ D,w.ownsMap Try.prog 31 j9 mb n D∧∀ t,I64 t.2→∀ z,D.atKey (uL t) z=if 0<F t then .held (.int .i64 (F t)) else z
section
variable {w w':World} {mb n:Nat} {F:Tsk→Int}
theorem MapZ.of_block (h:MapZ w mb n F) (e:w'.heap[mb]? = w.heap[mb]?):MapZ w' mb n F:=by
 obtain ⟨D,⟨es,clock,hb,G,hs,hD⟩,hp⟩:=h;exact ⟨D,⟨es,clock,e.trans hb,G,hs,hD⟩,hp⟩
theorem MapZ.lt (h:MapZ w mb n F):mb<w.heap.size:=by
 obtain ⟨D,h,_⟩:=h;exact h.lt
theorem MapZ.on {B:Nat} (h:MapZ w mb n F) (hB:mb<B) (f:Below B w w'):MapZ w' mb n F:=h.of_block (f.block mb hB)
theorem MapZ.made (w:World):MapZ (w.alloc (.map #[] 0)) w.heap.size 0 fun _=>0:=⟨.map [],World.ownsMap_made w Try.prog 31 j9,fun _ _ z=>by simp;rfl⟩
theorem MapZ.look {t:TypeId} (h:MapZ w mb n F) (ht:Try.prog.underlying t=some (.map 31 3)) (k:Tsk) (hk:I64 k.2) (h0:0≤F k) :
  (Instr.lookup t (.map (some mb)) (qA k) false).run Try.prog w=.ok (.int .i64 (F k)) w:=by
 obtain ⟨D,hD,hp⟩:=h;obtain ⟨v,ps,r1,r2⟩:=hD.lookup tlaw ht (yaJ w) (show j9 (.int .i64 0)=some (.held (.int .i64 0),[]) from rfl) (rX k hk);rw [hp k hk] at r2
 have e:(if 0<F k then DataW.held (Value.int .i64 (F k)) else .held (Value.int .i64 0))=.held (Value.int .i64 (F k)):=by
  split
  ·rfl
  ·have:F k=0:=by omega
   rw [this]
 rw [e] at r2;simp only [j9,Option.some.injEq,Prod.mk.injEq,DataW.held.injEq] at r2;rw [r1,r2.1]
theorem vJ {w:World} {t k e:TypeId} {b:Nat} {es:Array MapEntry} {clock:Nat} {R:Value→Option (DataW Value × List MemPlace)} (K:WideMaps.KeyLaw Try.prog k) (ht:Try.prog.underlying t=some (.map k e)) {z:Value} (hz:∀ u:World,(zeroValue e).run Try.prog u=.ok z u) (hb:w.heap[b]? = some (.map es clock)) (F:Fit Try.prog k R es clock) {key:Value} {kl:Lit} (hkey:keyOf Try.prog k key=some kl) {v:Value} (hl:(Instr.lookup t (.map (some b)) key false).run Try.prog w=.ok v w) :
  ∃ a es1 clock1,(Instr.mapEntry t (.map (some b)) key).run Try.prog w=.ok a (setBlock w b (.map es1 clock1))∧(Instr.mapUpdate t (.map (some b)) key v).run Try.prog w=.ok () (setBlock w b (.map es1 clock1)):=by
 have hlk:=Maps.fit_look false (Keyed.of_law K) ht (hz w) hb F hkey;rw [hl] at hlk;simp only [Bool.false_eq_true,if_false,Result.ok.injEq,and_true] at hlk
 rcases K.find w hkey es.toList F.keys with ⟨h1,h2⟩ | ⟨j,e0,h1,h2,h3⟩
 ·have hv:v=z:=by
   rcases hlk with ⟨e,_⟩ | ⟨e0,_,hm,hk,_⟩
   ·exact e
   ·exact absurd hk (h2 e0 hm)
  subst hv;refine ⟨.tuple #[v,goInt clock],es.push ⟨key,v,clock⟩,clock+1,?_,?_⟩;rotate_left
  ·simp [Instr.mapUpdate,run_underlying ht,MapKept.run_getObj_map hb,K.check w false hkey,h1,MapKept.run_setObj_map _ hb,Result.andThen,setBlock]
  ·simp [Instr.mapEntry,run_underlying ht,MapKept.run_getObj_map hb,K.check w false hkey,h1,hz,MapKept.run_setObj_map _ hb,Result.andThen,setBlock]
 ·have hj:es[j]? = some e0:=by simpa using h2
  have hv:v=e0.val:=by
   rcases hlk with ⟨_,hn,_⟩ | ⟨e1,_,hm,hk,e,_⟩
   ·exact absurd h3 (hn e0 (List.mem_of_getElem? h2))
   ·rw [e,entry_eq_of_key ((MapKept.stamped_iff es clock).1 F.stamped).2.2 hm (List.mem_of_getElem? h2) (hk.trans h3.symm)]
  subst hv;refine ⟨.tuple #[e0.val,goInt e0.born],es.modify j (fun e'=>{ e' with key:=key,val:=e0.val }),clock,?_,?_⟩;rotate_left
  ·simp [Instr.mapUpdate,run_underlying ht,MapKept.run_getObj_map hb,K.check w false hkey,h1,hj,h3,K.stays w hkey,MapKept.run_setObj_map _ hb,Result.andThen,setBlock]
  ·have hsame:es.modify j (fun e=>{ e with key:=key })=es.modify j (fun e'=>{ e' with key:=key,val:=e0.val }):=by
    apply Array.ext'
    rw [Array.toList_modify,Array.toList_modify,modify_eq_set _ _ _ _ h2,modify_eq_set _ _ _ _ h2]
   simp [Instr.mapEntry,run_underlying ht,MapKept.run_getObj_map hb,K.check w false hkey,h1,hj,h3,K.stays w hkey,hsame,MapKept.run_setObj_map _ hb,Result.andThen,setBlock]
theorem qH (w:World) (b:Nat) (x y:Obj):setBlock (setBlock w b x) b y=setBlock w b y:=by
 unfold setBlock
 simp [Array.setIfInBounds_setIfInBounds]
theorem MapZ.bump {t:TypeId} (h:MapZ w mb n F) (ht:Try.prog.underlying t=some (.map 31 3)) (hn:n<maxLen) (k:Tsk) (hk:I64 k.2) (h0:0≤F k) :
  ∃ v0 st w1 w2,(Instr.mapEntry t (.map (some mb)) (qA k)).run Try.prog w=.ok (.tuple #[v0,.int .i64 st]) w1∧(Instr.lookup t (.map (some mb)) (qA k) false).run Try.prog w1=.ok (.int .i64 (F k)) w1∧w.grownBy w1 (some mb) ∧
   (Instr.entryStore t (.map (some mb)) (.int .i64 st) (.int .i64 (F k+1))).run Try.prog w1=.ok () w2∧MapZ w2 mb (n+1) (fun u=>if u=k then F u+1 else F u)∧w.grownBy w2 (some mb):=by
 have hl:=h.look ht k hk h0;obtain ⟨D,hD,hp⟩:=h;obtain ⟨es,clock,hb,Ft,hs,hDe⟩:=id hD;obtain ⟨a,es1,cl1,u1,u2⟩:=vJ tlawK ht yaJ hb Ft (rX k hk) hl;obtain ⟨v0,st,es2,cl2,q1,_,q3⟩:=entry_then_store tlawK ht yaJ hb Ft (rX k hk);rw [u1] at q1;injection q1 with q1 q2;obtain ⟨es3,cl3,s1,s2⟩:=q3 (setBlock w mb (.map es2 cl2)) (.int .i64 (F k+1)) (heap_setBlock_same hb _);obtain ⟨wa,a1,a2,a3⟩:=hD.update tlaw ht hn (rX k hk) (show j9 (.int .i64 (F k))=some (.held (.int .i64 (F k)),[]) from rfl);obtain ⟨wb,b1,b2,b3⟩:=hD.update tlaw ht hn (rX k hk) (show j9 (.int .i64 (F k+1))=some (.held (.int .i64 (F k+1)),[]) from rfl);rw [u2] at a1;injection a1 with _ a1;rw [s2] at b1;injection b1 with _ b1;rw [← q2,qH] at s1;subst a1 b1 q1;refine ⟨v0,st,_,_,u1,?_,a3,s1,⟨_,b2,fun u hu z=>?_⟩,b3⟩
 ·obtain ⟨v,ps,r1,r2⟩:=a2.lookup tlaw ht (yaJ _) (show j9 (.int .i64 0)=some (.held (.int .i64 0),[]) from rfl) (rX k hk);rw [atKey_put_same hD.isMap (tlaw.key (rX k hk))] at r2;simp only [j9,Option.some.injEq,Prod.mk.injEq,DataW.held.injEq] at r2;rw [r1,r2.1]
 ·by_cases e:u=k
  ·subst e;show _=if 0<(if u=u then F u+1 else F u) then DataW.held (Value.int .i64 (if u=u then F u+1 else F u)) else z
   rw [atKey_put_same hD.isMap (tlaw.key (rX u hu)),if_pos rfl,if_pos (by omega)]
  ·show _=if 0<(if u=k then F u+1 else F u) then DataW.held (Value.int .i64 (if u=k then F u+1 else F u)) else z
   rw [atKey_put_other (fun h=>e (vV hu hk h)),hp u hu z,if_neg e]
theorem lits4 {d:Nat} {x:Value} {l:List Lit} (h:Try.prog.keyLits (d+1) 4 [x]=some l):∃ s,x=.bool s∧l=[.bool s]:=by
 unfold Program.keyLits at h;rw [Try.underlying4] at h
 cases x <;> simp at h
 exact ⟨_,rfl,h.symm⟩
theorem lits3 {d:Nat} {x:Value} {l:List Lit} (h:Try.prog.keyLits (d+1) 3 [x]=some l):∃ i,x=.int .i64 i∧l=[.int .i64 i]∧I64 i:=by
 unfold Program.keyLits at h;rw [Try.underlying3] at h
 cases x <;> simp at h
 obtain ⟨⟨rfl,hw⟩,rfl⟩:=h;refine ⟨_,rfl,rfl,?_⟩;have e1:IntKind.i64.min=-9223372036854775808:=by rfl
 have e2:IntKind.i64.max=9223372036854775807:=by rfl
 simp [Lit.wf,e1,e2] at hw
 unfold I64
 omega
theorem yaX {key:Value} {kl:Lit} (h:keyOf Try.prog 31 key=some kl):∃ t:Tsk,key=qA t∧kl=uL t∧I64 t.2:=by
 have hc:Try.prog.cellsOf 31=2:=by kernel_rfl
 have hc4:Try.prog.cellsOf 4=1:=by kernel_rfl
 have hc3:Try.prog.cellsOf 3=1:=by kernel_rfl
 unfold keyOf at h;rw [Try.underlying31] at h;simp only at h
 split at h
 ·rename_i hf;obtain ⟨_,hf⟩:=Bool.and_eq_true_iff.1 hf
  cases key with
  | agg cs =>
   simp only [Value.formed,Try.underlying31,hc,beq_iff_eq] at hf;obtain ⟨l⟩:=cs
   match l,hf with
   | [x,y],_ =>
    obtain ⟨d,hd⟩:∃ d,Try.prog.types.size+1=d+2:=⟨Try.prog.types.size-1,by have:31<Try.prog.types.size:=of_decide_eq_true (by kernel_rfl);omega⟩;rw [hd] at h;unfold Program.keyLits at h
    simp [Value.cells,Try.underlying31,hc,hc4,hc3,Option.bind_eq_some_iff] at h
    obtain ⟨a,ha,_,⟨b,hb,rfl⟩,rfl⟩:=h;obtain ⟨s,rfl,rfl⟩:=lits4 ha;obtain ⟨i,rfl,rfl,hi⟩:=lits3 hb;exact ⟨(s,i),rfl,rfl,hi⟩
  | _=>simp [Value.formed,Try.underlying31] at hf
 ·cases h
def RngZ (w:World) (mb r n:Nat) (F:Tsk→Int) (cnt:Nat):Prop:=∃ D left,w.ranges Try.prog 31 j9 mb r n D left cnt∧(∀ t,I64 t.2→∀ z,D.atKey (uL t) z=if 0<F t then .held (.int .i64 (F t)) else z)∧∀ t,I64 t.2→0<F t→left (uL t)=false→oW t≤F t
theorem RngZ.left_eq {r cnt:Nat} (h:RngZ w mb r n F cnt):w.rangeLeft mb r=cnt:=by
 obtain ⟨_,_,h,_⟩:=h;exact h.left_eq
theorem RngZ.lt {r cnt:Nat} (h:RngZ w mb r n F cnt):r<w.heap.size:=by
 obtain ⟨_,_,h,_⟩:=h;exact h.lt
theorem RngZ.on {r cnt:Nat} (h:RngZ w mb r n F cnt) (f:Below w.heap.size w w'):RngZ w' mb r n F cnt:=by
 obtain ⟨D,left,⟨es,clock,since,seen,c0,h1,h2,h3,h4,h5,h6⟩,hp,hv⟩:=h;have l1:mb<w.heap.size:=(Array.getElem?_eq_some_iff.1 h1).1;have l2:r<w.heap.size:=(Array.getElem?_eq_some_iff.1 h5).1;exact ⟨D,left,⟨es,clock,since,seen,c0,(f.block mb l1).trans h1,h2,h3,h4,(f.block r l2).trans h5,h6⟩,hp,hv⟩
theorem MapZ.range (h:MapZ w mb n F) {o:Oper} {ops:Array Oper} {rest:List Oper} {a:Act} {Q:Exit→Act→World→Prop} (hg:o.guard=none) (m:Operand) (t:TypeId) (hop:o.op=Op.range t m) (ht:Try.prog.underlying t=some (.map 31 3)) (hm:a.eval m=.map (some mb))
  (hK:∀ w' cnt,RngZ w' mb w.heap.size n F cnt→Below w.heap.size w w'→w'.heap.size=w.heap.size+1→wpList Try.prog ops Q rest (a.put o.dst (.pointer (some ⟨w.heap.size,0,none⟩))) w'):wpList Try.prog ops Q (o::rest) a w:=by
 obtain ⟨D,hD,hp⟩:=h;refine wpList_range_own w hg m t hop 31 3 tlaw ht j9 mb n D hm hD fun w' h1 h2 h3=>?_;refine hK w' _ ⟨D,_,h1,hp,fun t ht h0 hl=>?_⟩ ⟨h2.os,h2.tape,h2.output,h2.size,fun i hi=>h2.block i hi (by simp)⟩ h3;have:Maps.has D (uL t)=true:=has_true_of_atKey (y:=.held (.int .i64 (F t))) fun z=>by rw [hp t ht z,if_pos h0]
 rw [this] at hl
 cases hl
theorem RngZ.next {r cnt:Nat} (h:RngZ w mb r n F cnt) {o:Oper} {ops:Array Oper} {rest:List Oper} {a:Act} {Q:Exit→Act→World→Prop} (hg:o.guard=none) (it:Operand) (hop:o.op=Op.next it false) (hit:a.eval it=.pointer (some ⟨r,0,none⟩))
  (hDone:Hid (∀ t:Tsk,I64 t.2→0<F t→oW t≤F t)→wpList Try.prog ops Q rest (a.put o.dst (.tuple #[.bool false])) w)
  (hMore:∀ (s:Bool) (i:Int) (w':World) (cnt':Nat),Hid (0<F (s,i))→Hid (oW (s,i)≤F (s,i)→RngZ w' mb r n F cnt')→Hid (cnt'<cnt)→Hid (w.grownBy w' (some r))→w'.heap.size=w.heap.size→(Instr.entry (.pointer (some ⟨r,0,none⟩))).run Try.prog w'=.ok (.tuple #[.agg #[.bool s,.int .i64 i],.int .i64 (F (s,i))]) w'→wpList Try.prog ops Q rest (a.put o.dst (.tuple #[.bool true,.agg #[.bool s,.int .i64 i],.int .i64 (F (s,i))])) w'):wpList Try.prog ops Q (o::rest) a w:=by
 obtain ⟨D,left,hr,hp,hv⟩:=h;refine wpList_next_ranges (α:=Tsk) (β:=Value) w hg it hop 31 tlaw j9 qA id (fun key kl hk=>by obtain ⟨t,e,_⟩:=yaX hk;exact ⟨t,e⟩) (fun v _ _=>⟨v,rfl⟩) mb r n D left cnt hit hr (fun _ hl=>hDone fun t ht h0=>hv t ht h0 (hl _)) fun x c kl y w' cnt' hk hlk hy hat hr' hlt hgr hsz hen=>?_;obtain ⟨t,e1,e2,ht⟩:=yaX hk
 have ext:x=t:=by
  obtain ⟨s,i⟩:=x;obtain ⟨s',i'⟩:=t
  simp [qA] at e1
  rw [e1.1,e1.2]
 subst ext e2
 have h0:0<F x:=by
  by_cases h0:0<F x
  ·exact h0
  ·have a1:=hat (.held (.bool true));have a2:=hat (.held (.bool false));rw [hp x ht,if_neg h0] at a1 a2;rw [← a2] at a1
   cases a1
 have hc:c=.int .i64 (F x):=by
  have a1:=hat (.held (.bool true));rw [hp x ht,if_pos h0] at a1;simp only [j9,id_eq,Option.some.injEq] at hy;rw [← hy] at a1;injection a1 with a1;exact a1.symm
 subst hc;obtain ⟨s,i⟩:=x;refine hMore s i w' cnt' h0 (fun hvn=>⟨D,_,hr',hp,fun u hu hu0 hul=>?_⟩) hlt hgr hsz hen
 cases el:left (uL u) with
 | false=>exact hv u hu hu0 el
 | true =>
  simp only [el,Bool.true_and,Bool.not_eq_false'] at hul;have:=WideAt.sameKey_eq hul;rw [vV hu ht this];exact hvn
end
theorem yX {p:Prb} {P:List Vst} {kd it:Int} (h:Gd p P) (hk:kd=1∨kd=2∨kd=3):∃ n:Nat,aX P (bE (kd,it))=n∧n≤gV (bE (kd,it)).1∧((n≠gV (bE (kd,it)).1∧uJ (bE (kd,it)).1 n=kd)↔((kd,it) ∉ P∧(kd=3→((2,it):Vst) ∈ P))):=by
 have h3:((3,it):Vst) ∈ P→((2,it):Vst) ∈ P:=fun hm=>by
  obtain ⟨i,hi⟩:=List.getElem?_of_mem hm;exact List.mem_of_mem_take ((h i _ hi (by simp)).2.2 rfl)
 rcases hk with rfl | rfl | rfl
 ·by_cases e:((1,it):Vst) ∈ P
  ·exact ⟨1,by simp [aX,bE,e],by simp [bE,gV],by simp [bE,gV,e]⟩
  ·exact ⟨0,by simp [aX,bE,e],by simp [bE,gV],by simp [bE,gV,uJ,e]⟩
 ·by_cases e:((2,it):Vst) ∈ P
  ·by_cases e3:((3,it):Vst) ∈ P
   ·exact ⟨2,by simp [aX,bE,e,e3],by simp [bE,gV],by simp [bE,gV,e]⟩
   ·exact ⟨1,by simp [aX,bE,e,e3],by simp [bE,gV],by simp [bE,gV,uJ,e]⟩
  ·have e3:((3,it):Vst) ∉ P:=fun h=>e (h3 h);exact ⟨0,by simp [aX,bE,e,e3],by simp [bE,gV],by simp [bE,gV,uJ,e]⟩
 ·by_cases e:((2,it):Vst) ∈ P
  ·by_cases e3:((3,it):Vst) ∈ P
   ·exact ⟨2,by simp [aX,bE,e,e3],by simp [bE,gV],by simp [bE,gV,e3]⟩
   ·exact ⟨1,by simp [aX,bE,e,e3],by simp [bE,gV],by simp [bE,gV,uJ,e,e3]⟩
  ·have e3:((3,it):Vst) ∉ P:=fun h=>e (h3 h);exact ⟨0,by simp [aX,bE,e,e3],by simp [bE,gV],by simp [bE,gV,uJ,e]⟩
theorem qB {p:Prb} {kd it:Int} (h:aI p kd it=true):(kd=1∨kd=2∨kd=3)∧ofM kd it=(bE (kd,it),true)∧bM p (bE (kd,it))=true:=by
 unfold aI ofM at h;unfold ofM
 by_cases h1:kd=1
 ·subst h1;simpa [bE] using h
 ·by_cases h2:kd=2
  ·subst h2;simpa [bE] using h
  ·by_cases h3:kd=3
   ·subst h3;simpa [bE] using h
   ·rw [if_neg h1,if_neg h2,if_neg h3] at h;simp at h
end Go.Proofs.Ytgjpkpmikbpcnaa
namespace Go.Proofs.Ytgjpkpmikbpcnaa
open Go.RowKit
theorem yb3 {w:World} {x:aU} {p:Prb} {k m vc:Nat} {va:Option Addr} {V:List Vst} (h:PrbV w x p) (hl:aY p=true) (hk:k<p.vs.length) (hV:VsV w (.slice va m vc) V) (hm:V.length=m) (hm3:m≤100):Calls Try.prog 101 #[.agg (cB p x k (.slice va m vc))] w fun e w'=>e=.returned (.bool (cG (p.vs.getD k vz) V))∧Below w.heap.size w w':=by
 have HL:=hide hl;clear hl;obtain ⟨ca,cc,ba,bc,hcar⟩:=h.car hk;have HCAR:=hide hcar;clear hcar;have HB0:Hid (∀ A,Below w.heap.size w (w.alloc A)):=fun A=>(Below.refl _ _).alloc (Nat.le_refl _) A;have HP:=hide h;have HV:=hide hV;have HM:=hide hm;have hmb:m*16≤140737488351232:=by obtain ⟨_,_,e,hb,_⟩:=hV;rw [← hm];exact hb
 clear hV hm;obtain ⟨ta,tc,da,dc,va',vc',ja,jc,sa,sc,rfl⟩:=h.open;clear h;have HTE:Hid (cB p ⟨.slice ta p.time.cells.length tc,.slice da p.dist.cells.length dc,.slice va' p.vs.length vc',.slice ja p.js.length jc,.slice sa p.ss.length sc⟩ k (.slice va m vc)=#[.int .i64 p.dims,.int .i64 p.time.n,.slice ta p.time.cells.length tc,.int .i64 p.dist.n,.slice da p.dist.cells.length dc,.slice va' p.vs.length vc',.slice ja p.js.length jc,.slice sa p.ss.length sc,.int .i64 k,.slice va m vc]):=rfl;rw [HTE.out];obtain ⟨W,hW⟩:∃ W,W=w.alloc (.cells #[.int .i64 p.dims,.int .i64 p.time.n,.slice ta p.time.cells.length tc,.int .i64 p.dist.n,.slice da p.dist.cells.length dc,.slice va' p.vs.length vc',.slice ja p.js.length jc,.slice sa p.ss.length sc,.int .i64 k,.slice va m vc] 121):=⟨_,rfl⟩;have HBW:Hid (Below w.heap.size w W):=by rw [hW];exact HB0.out _
 have HLW:Hid (w.heap.size<W.heap.size):=by show _<_;rw [hW];simp
 have HC:Hid (∀ j,W.cell? ⟨w.heap.size,j,none⟩=(#[.int .i64 p.dims,.int .i64 p.time.n,.slice ta p.time.cells.length tc,.int .i64 p.dist.n,.slice da p.dist.cells.length dc,.slice va' p.vs.length vc',.slice ja p.js.length jc,.slice sa p.ss.length sc,.int .i64 k,.slice va m vc]:Array Value)[j]?):=fun j=>by rw [hW];exact cell_of_row _ _ _ _ _ _ (heap_alloc_new w _)
 have H123:Hid (∀ W2,Below w.heap.size w W2→Calls Try.prog 123 #[.agg #[.int .i64 p.dims,.int .i64 p.time.n,.slice ta p.time.cells.length tc,.int .i64 p.dist.n,.slice da p.dist.cells.length dc,.slice va' p.vs.length vc',.slice ja p.js.length jc,.slice sa p.ss.length sc,.int .i64 k,.slice va m vc]] W2 fun e w'=>∃ v,e=.returned v∧TRow w' W2.heap.size v (bJ V)∧Below W2.heap.size W2 w'):=fun W2 hf=>by have h9:=qC (k:=k) (va:=va) (m:=m) (vc:=vc) (HP.out.on hf) (PrV.on HV.out hf) HM.out hm3;exact h9
 have H74:Hid (∀ W2,Below w.heap.size w W2→Calls Try.prog 74 #[.agg #[.int .i64 p.dims,.int .i64 p.time.n,.slice ta p.time.cells.length tc,.int .i64 p.dist.n,.slice da p.dist.cells.length dc,.slice va' p.vs.length vc',.slice ja p.js.length jc,.slice sa p.ss.length sc,.int .i64 k,.slice va m vc]] W2 fun e w'=>e=.returned (.agg (eZ (p.vs.getD k vz) (.slice ca (p.vs.getD k vz).cap.length cc) (.slice ba (p.vs.getD k vz).brks.length bc)))∧Below W2.heap.size W2 w'):=fun W2 hf=>by have h9:=jW (va:=va) (m:=m) (vc:=vc) (HP.out.on hf) (HCAR.out.on hf);exact h9
 obtain ⟨v1,hv1⟩:∃ v1,p.vs.getD k vz=v1:=⟨_,rfl⟩;have HV1:=hide hv1;rw [hv1] at H74;clear hv1;rw [HV1.out];unfold cG;obtain ⟨n,hn⟩:∃ n,(bJ V).length=n:=⟨_,rfl⟩;have hnb:n≤100:=by have:=n9 V;have:=HM.out;omega
 have HN:=hide hn;rw [hn];clear hn;have hfd8:∀ X,(Instr.field 86 (.agg (eZ v1 (.slice ca v1.cap.length cc) (.slice ba v1.brks.length bc))) 8).run Try.prog X=.ok (.int .i64 v1.maxT) X:=fun X=>by kernel_rfl
 go_enter Try.func101,Try.ntmps101;go_wp2_with fail;rw [← hW];clear hW;obtain ⟨b0,b1,b2,b3,b4,b5,b6,b7,b8,b9⟩:=Mn.c10 (fun j=>((aA (Below.refl _ _)).1 _ j HLW.out).trans (HC.out j))
 first | (go_region_held3 (fun w'=>w'.cell? ⟨w.heap.size,0,none⟩=some (.int .i64 p.dims)∧w'.cell? ⟨w.heap.size,1,none⟩=some (.int .i64 p.time.n)∧w'.cell? ⟨w.heap.size,2,none⟩=some (.slice ta p.time.cells.length tc)∧w'.cell? ⟨w.heap.size,3,none⟩=some (.int .i64 p.dist.n)∧w'.cell? ⟨w.heap.size,4,none⟩=some (.slice da p.dist.cells.length dc)∧w'.cell? ⟨w.heap.size,5,none⟩=some (.slice va' p.vs.length vc')∧w'.cell? ⟨w.heap.size,6,none⟩=some (.slice ja p.js.length jc)∧w'.cell? ⟨w.heap.size,7,none⟩=some (.slice sa p.ss.length sc)∧w'.cell? ⟨w.heap.size,8,none⟩=some (.int .i64 k)∧w'.cell? ⟨w.heap.size,9,none⟩=some (.slice va m vc)) (go_keep) (first | (go_at_call 123;refine (H123.out _ (below_on HBW.out (Below.refl _ _).drew)).mono ?_;rintro e w1 ⟨sv,rfl,Q1,k1⟩;obtain ⟨sA,sC,rfl⟩:=TRow.shape Q1;rw [HN.out];have E1:=hide (below_on ((Below.refl _ _).drew) k1);obtain ⟨c0,c1,c2,c3,c4,c5,c6,c7,c8,c9⟩:=Mn.c10 (fun j=>((aA E1.out).1 _ j HLW.out).trans (HC.out j));clear k1 Q1) | (go_at_call 74;refine (H74.out _ (below_on HBW.out E1.out)).mono ?_;rintro e w2 ⟨rfl,k2⟩;have E2:=hide (below_on E1.out k2);obtain ⟨d0,d1,d2,d3,d4,d5,d6,d7,d8,d9⟩:=Mn.c10 (fun j=>((aA E2.out).1 _ j HLW.out).trans (HC.out j));clear k2) | fail)) | fail
 rename_i hHeld;clear hHeld;go_wp2_with fail;go_ret;exact ⟨rfl,below_on HBW.out E2.out⟩
end Go.Proofs.Ytgjpkpmikbpcnaa
