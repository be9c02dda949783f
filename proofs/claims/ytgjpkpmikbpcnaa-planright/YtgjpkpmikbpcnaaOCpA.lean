import Derived.Test.YtgjpkpmikbpcnaaORowTG
namespace Go.Proofs.Ytgjpkpmikbpcnaa
open Go.RowKit
theorem cM {t T:TypeId} {i0:TypeInfo} (ht:Try.prog.underlying t=some (.slice T)) (hi:Try.prog.info? T=some i0) {o:Oper} (ho:o.op=.buildSlice t 0 #[]) (ev:Operand→Value) (w:World) :
  (execOp ev o).run Try.prog w=.ok (.value (.slice (some ⟨w.heap.size,0,none⟩) 0 0)) (w.alloc (.cells #[] T)):=by
 unfold execOp
 simp [ho,go_sem,run_underlying ht,sizeOf,typeInfo,hi]
theorem run_app {t T z y:Nat} {i0:TypeInfo} {zv:Value} (ht:Try.prog.underlying t=some (.slice T)) (hi:Try.prog.info? T=some i0) (hz:i0.zero=some zv) (hsz:i0.size=z) (hby:i0.bytes=y) (hzs:zv.cells.size=z) (hz0:0<z)
  {o:Oper} {s x:Operand} (ho:o.op=.call { callee:=.builtin .append,args:=#[s,x],argTypes:=#[t,t] }) {ev:Operand→Value} {w:World} {B:Nat} {v:Value} (hown:w.ownsRow B T z v 0 []) (hs:ev s=v)
  {ad:Option Addr} {m c:Nat} (hx:ev x=.slice ad m c) (hc:ad=none→c=0∧m=0) {xs:List Value} (hl:xs.length=m*z) (hnews:∀ q,ad=some q→∀ j u,xs[j]? = some u→w.cell? (q.add j)=some u) (h1:∀ u ∈ xs,u.oneCell'=true) (hm:m≤maxLen) (hb:m*y≤140737488351232) (hB:B≤w.heap.size) :
  ∃ v' w',(execOp ev o).run Try.prog w=.ok (.value v') w'∧w'.ownsRow B T z v' m xs∧w.grownBy w' v.ownBlock∧(v'.ownBlock=v.ownBlock∨v'.ownBlock=some w.heap.size):=by
 cases ad with
 | none =>
  obtain ⟨rfl,rfl⟩:=hc rfl;have:xs=[]:=List.eq_nil_of_length_eq_zero (by simpa using hl);subst this;have hrun:=run_append_owned_none (P:=Try.prog) (w:=w) B t o.type T i0 z ht hi v 0 [] hown;refine ⟨v,w,?_,hown,⟨rfl,rfl,rfl,Nat.le_refl _,fun _ _ _=>rfl⟩,.inl rfl⟩;unfold execOp
  simp [ho,resolve,invoke,builtin,hs,hx,hrun,Result.andThen]
 | some q =>
  obtain ⟨v',w',hr,h2,h3,_,h5⟩:=run_append_own_at (P:=Try.prog) w B t o.type T i0 zv z y ht hi hz hsz hby hzs hz0 v 0 [] hown q m c xs hl (hnews q rfl) h1 (by omega) (by rw [Nat.zero_add];omega) hB;rw [Nat.zero_add,List.nil_append] at h2;refine ⟨v',w',?_,h2,h3,h5⟩;unfold execOp;simp only [ho,resolve,invoke,builtin,Sem.run_bind,Sem.run_pure,Result.andThen_ok,List.map_toArray,List.map_cons,List.map_nil,hs,hx,hr]
theorem fS {t:TypeId} {i1:TypeInfo} (hi:Try.prog.info? t=some i1) (h1:i1.size=1) {o:Oper} {p x:Operand} (ho:o.op=.store t p x) {ev:Operand→Value} {w:World} {SB off:Nat} {a:Option Addr} {m c:Nat} {u:Value} (hp:ev p=.pointer (some ⟨SB,off,none⟩)) (hx:ev x=.slice a m c)
  (hcell:w.cell? ⟨SB,off,none⟩=some u) (hf:w.frozen? ⟨SB,off,none⟩=false):(execOp ev o).run Try.prog w=.ok .skip (w.setCell ⟨SB,off,none⟩ (.slice a m c)):=by
 unfold execOp
 simp [ho,go_sem,hp,hx,hcell,hf,sizeOf,typeInfo,hi,h1]

structure CR where
 ops:Array Oper
 k:Nat
 b:Nat→Nat
 a:Nat→Nat
 s:Nat→Nat
 T:Nat→Nat
 z:Nat→Nat
 m:Nat→Nat
 off:Nat→Nat
 xs:Nat→List Value
 pv:Nat→Option Value
 ld:Nat→Bool
 SB:Nat
 B:Nat
 arr:Array Value
 TS:Nat
section
variable (R:CR) (L L':Nat→Bool) (x x':Nat→Value)
def CR.cur (c:Nat):Value:=if L (R.a c)=true then x (R.a c) else x (R.b c)
def CR.sbF:Nat→Array Value
 | 0=>R.arr
 | n+1=>if L (R.s n)=true then (CR.sbF n).setIfInBounds (R.off n) (x (R.a n)) else CR.sbF n
variable {R L L' x x'}
theorem CR.sbF_congr:∀ {n:Nat},(∀ c,c<n→L (R.s c)=L' (R.s c)∧x (R.a c)=x' (R.a c))→R.sbF L x n=R.sbF L' x' n
 | 0,_=>rfl
 | n+1,h=>by
  have hn:=h n (by omega);unfold CR.sbF;rw [hn.1,hn.2,CR.sbF_congr fun c hc=>h c (by omega)]
theorem CR.sbF_none:∀ {n:Nat},(∀ c,c<n→L (R.s c)=false)→R.sbF L x n=R.arr
 | 0,_=>rfl
 | n+1,h=>by
  unfold CR.sbF;rw [h n (by omega),if_neg (by simp),CR.sbF_none fun c hc=>h c (by omega)]
theorem CR.sbF_size:∀ {n:Nat},(R.sbF L x n).size=R.arr.size
 | 0=>rfl
 | n+1=>by
  unfold CR.sbF
  split
  ·simp [CR.sbF_size]
  ·exact CR.sbF_size
theorem CR.sbF_cut {c:Nat}:∀ {n:Nat},c≤n→(∀ d,c≤d→d<n→L (R.s d)=false)→R.sbF L x n=R.sbF L x c
 | 0,h,_=>by rw [show c=0 by omega]
 | n+1,h,k=>by
  by_cases e:c=n+1
  ·rw [e]
  ·conv=>lhs;unfold CR.sbF
   rw [k n (by omega) (by omega),if_neg (by simp)];exact CR.sbF_cut (by omega) fun d h1 h2=>k d h1 (by omega)
end
structure CR.Ok (R:CR):Prop where
 cls:∀ i,i<R.ops.size→(R.pv i).isSome=true∨(∃ c,c<R.k∧i=R.b c)∨(∃ c,c<R.k∧i=R.a c)∨∃ c,c<R.k∧i=R.s c
 bi:∀ c,c<R.k→∀ d,d<R.k→R.b c=R.b d→c=d
 ai:∀ c,c<R.k→∀ d,d<R.k→R.a c=R.a d→c=d
 si:∀ c,c<R.k→∀ d,d<R.k→R.s c=R.s d→c=d
 ba:∀ c,c<R.k→∀ d,d<R.k→R.b c≠R.a d
 bs:∀ c,c<R.k→∀ d,d<R.k→R.b c≠R.s d
 asx:∀ c,c<R.k→∀ d,d<R.k→R.a c≠R.s d
 pb:∀ c,c<R.k→R.pv (R.b c)=none
 pa:∀ c,c<R.k→R.pv (R.a c)=none
 ps:∀ c,c<R.k→R.pv (R.s c)=none
 wab:∀ c,c<R.k→∀ L,Clo R.ops L→L (R.a c)=true→L (R.b c)=true
 wsa:∀ c,c<R.k→∀ L,Clo R.ops L→L (R.s c)=true→L (R.a c)=true
 wba:∀ c,c<R.k→∀ o,R.ops[R.a c]? = some o→∀ L:Nat→Bool,(∀ e ∈ o.after,Region.binds .any e=true→L e.on=true)→L (R.b c)=true
 was:∀ c,c<R.k→∀ o,R.ops[R.s c]? = some o→∀ L:Nat→Bool,(∀ e ∈ o.after,Region.binds .any e=true→L e.on=true)→L (R.a c)=true
 wss:∀ c d,c<d→d<R.k→∀ L,Clo R.ops L→L (R.s d)=true→L (R.s c)=true
 wsl:∀ i,R.ld i=true→∀ c,c<R.k→∀ L,Clo R.ops L→L (R.s c)=true→L i=true
 pl:∀ i,(R.pv i).isSome=true→i<R.ops.size
 bl:∀ c,c<R.k→R.b c<R.ops.size
 al:∀ c,c<R.k→R.a c<R.ops.size
 sl:∀ c,c<R.k→R.s c<R.ops.size
 sb:R.SB<R.B
 offs:∀ c,c<R.k→R.off c<R.arr.size
structure CR.J (R:CR) (ws:World) (L:Nat→Bool) (x:Nat→Value) (w:World):Prop where
 low:∀ q,q<R.B→q≠R.SB→w.heap[q]? = ws.heap[q]?
 os:w.os=ws.os
 tape:w.tape=ws.tape
 output:w.output=ws.output
 size:R.B≤w.heap.size
 sb:w.heap[R.SB]? = some (.cells (R.sbF L x R.k) R.TS (0,0))
 pur:∀ i v,R.pv i=some v→L i=true→x i=v
 row:∀ c,c<R.k→L (R.b c)=true→w.ownsRow R.B (R.T c) (R.z c) (R.cur L x c) (if L (R.a c)=true then R.m c else 0) (if L (R.a c)=true then R.xs c else [])
 apart:∀ c,c<R.k→∀ d,d<R.k→c≠d→L (R.b c)=true→L (R.b d)=true→∀ g,(R.cur L x c).ownBlock=some g→(R.cur L x d).ownBlock≠some g
 blk:∀ c,c<R.k→L (R.b c)=true→∃ g,(R.cur L x c).ownBlock=some g
section
variable {R:CR} {ws w:World} {L:Nat→Bool} {x:Nat→Value}
theorem CR.J.pure (hR:R.Ok) (h:R.J ws L x w) {i:Nat} {v:Value} (hi:R.pv i=some v):R.J ws (gL L i) (iU x i v) w:=by
 have nb:∀ c,c<R.k→R.b c≠i:=fun c hc e=>by have:=hR.pb c hc;rw [e,hi] at this;cases this
 have na:∀ c,c<R.k→R.a c≠i:=fun c hc e=>by have:=hR.pa c hc;rw [e,hi] at this;cases this
 have ns:∀ c,c<R.k→R.s c≠i:=fun c hc e=>by have:=hR.ps c hc;rw [e,hi] at this;cases this
 have ec:∀ c,c<R.k→R.cur (gL L i) (iU x i v) c=R.cur L x c:=fun c hc=>by
  unfold CR.cur;rw [aR _ (na c hc),cS _ _ (na c hc),cS _ _ (nb c hc)]
 refine ⟨h.low,h.os,h.tape,h.output,h.size,?_,fun j u hj hL=>?_,fun c hc hL=>?_,fun c hc d hd hcd hL hL2=>?_,fun c hc hL=>?_⟩
 ·rw [h.sb,CR.sbF_congr fun c hc=>⟨(aR _ (ns c hc)).symm,(cS _ _ (na c hc)).symm⟩]
 ·by_cases e:j=i
  ·subst e;rw [lL];rw [hi] at hj;exact Option.some.inj hj
  ·rw [cS _ _ e];rw [aR _ e] at hL;exact h.pur j u hj hL
 ·rw [aR _ (nb c hc)] at hL;rw [ec c hc,aR _ (na c hc)];exact h.row c hc hL
 ·rw [aR _ (nb c hc)] at hL;rw [aR _ (nb d hd)] at hL2;rw [ec c hc,ec d hd];exact h.apart c hc d hd hcd hL hL2
 ·rw [aR _ (nb c hc)] at hL;rw [ec c hc];exact h.blk c hc hL
theorem CR.J.build (hR:R.Ok) (h:R.J ws L x w) (hcl:Clo R.ops L) {c:Nat} (hc:c<R.k) (hL:L (R.b c)=false):R.J ws (gL L (R.b c)) (iU x (R.b c) (.slice (some ⟨w.heap.size,0,none⟩) 0 0)) (w.alloc (.cells #[] (R.T c))):=by
 have ha:L (R.a c)=false:=by
  cases e:L (R.a c) with
  | false=>rfl
  | true=>rw [hR.wab c hc L hcl e] at hL;cases hL
 have ec:∀ d,d<R.k→d≠c→R.cur (gL L (R.b c)) (iU x (R.b c) (.slice (some ⟨w.heap.size,0,none⟩) 0 0)) d=R.cur L x d:=fun d hd hdc=>by
  unfold CR.cur;rw [aR _ (hR.ba c hc d hd).symm,cS _ _ (hR.ba c hc d hd).symm,cS _ _ (fun e=>hdc (hR.bi d hd c hc e))]
 have ecc:R.cur (gL L (R.b c)) (iU x (R.b c) (.slice (some ⟨w.heap.size,0,none⟩) 0 0)) c=.slice (some ⟨w.heap.size,0,none⟩) 0 0:=by
  unfold CR.cur;rw [aR _ (hR.ba c hc c hc).symm,ha,if_neg (by simp),lL]
 have hne:∀ q,q<R.B→(w.alloc (.cells #[] (R.T c))).heap[q]? = w.heap[q]?:=fun q hq=>heap_alloc_old _ _ (by have:=h.size;omega);refine ⟨fun q hq hs=>(hne q hq).trans (h.low q hq hs),h.os,h.tape,h.output,by have:=h.size;simp;omega,?_,fun j u hj hL=>?_,fun d hd hLd=>?_,fun d hd e he hde hLd hLe g=>?_,fun d hd hLd=>?_⟩
 ·rw [hne _ hR.sb,h.sb,CR.sbF_congr fun d hd=>⟨(aR _ (hR.bs c hc d hd).symm).symm,(cS _ _ (hR.ba c hc d hd).symm).symm⟩]
 ·have:j≠R.b c:=fun e=>by rw [e,hR.pb c hc] at hj;cases hj
  rw [cS _ _ this];rw [aR _ this] at hL;exact h.pur j u hj hL
 ·by_cases e:d=c
  ·subst e;rw [ecc,aR _ (hR.ba d hd d hd).symm,ha,if_neg (by simp),if_neg (by simp)];exact World.ownsRow_made w #[] 0 h.size (by decide) (by simp)
  ·rw [aR _ (fun e2=>e (hR.bi d hd c hc e2))] at hLd;rw [ec d hd e,aR _ (hR.ba c hc d hd).symm];exact World.ownsRow.alloc (h.row d hd hLd) _
 ·by_cases e1:d=c
  ·subst e1;rw [ecc,ec e he hde.symm];intro hg hg2;rw [aR _ (fun e2=>hde (hR.bi e he d hd e2).symm)] at hLe;have:=((h.row e he hLe).lt g hg2).2
   simp [Value.ownBlock] at hg
   omega
  ·rw [aR _ (fun e2=>e1 (hR.bi d hd c hc e2))] at hLd
   by_cases e2:e=c
   ·subst e2;rw [ecc,ec d hd e1];intro hg hg2;have:=((h.row d hd hLd).lt g hg).2
    simp [Value.ownBlock] at hg2
    omega
   ·rw [aR _ (fun e3=>e2 (hR.bi e he c hc e3))] at hLe;rw [ec d hd e1,ec e he e2];exact h.apart d hd e he hde hLd hLe g
 ·by_cases e:d=c
  ·subst e;rw [ecc];exact ⟨_,rfl⟩
  ·rw [aR _ (fun e2=>e (hR.bi d hd c hc e2))] at hLd;rw [ec d hd e];exact h.blk d hd hLd
theorem CR.J.fill (hR:R.Ok) (h:R.J ws L x w) {c:Nat} (hc:c<R.k) (hLb:L (R.b c)=true) (hL:L (R.a c)=false) (hs:L (R.s c)=false) {v':Value} {w':World} (h1:w'.ownsRow R.B (R.T c) (R.z c) v' (R.m c) (R.xs c)) (h2:w.grownBy w' (x (R.b c)).ownBlock) (h3:v'.ownBlock=(x (R.b c)).ownBlock∨v'.ownBlock=some w.heap.size) :
  R.J ws (gL L (R.a c)) (iU x (R.a c) v') w':=by
 have ecur:R.cur L x c=x (R.b c):=by unfold CR.cur;rw [hL,if_neg (by simp)]
 have ecc:R.cur (gL L (R.a c)) (iU x (R.a c) v') c=v':=by unfold CR.cur;rw [lN,if_pos rfl,lL]
 have ec:∀ d,d<R.k→d≠c→R.cur (gL L (R.a c)) (iU x (R.a c) v') d=R.cur L x d:=fun d hd hdc=>by
  have n1:R.a d≠R.a c:=fun e=>hdc (hR.ai d hd c hc e);unfold CR.cur;rw [aR _ n1,cS _ _ n1,cS _ _ (hR.ba d hd c hc)]
 have hrow:=h.row c hc hLb;rw [ecur] at hrow
 have hne:∀ q,q<R.B→w'.heap[q]? = w.heap[q]?:=fun q hq=>h2.block q (by have:=h.size;omega) (fun e=>by
  have:=(hrow.lt q e.symm).1
  omega)
 have hsz:w.heap.size≤w'.heap.size:=h2.size;refine ⟨fun q hq hs=>(hne q hq).trans (h.low q hq hs),h2.os.trans h.os,h2.tape.trans h.tape,h2.output.trans h.output,Nat.le_trans h.size hsz,?_,fun j u hj hLj=>?_,fun d hd hLd=>?_,fun d hd e he hde hLd hLe g=>?_,fun d hd hLd=>?_⟩
 ·rw [hne _ hR.sb,h.sb]
  congr 2
  have aux:∀ n,n≤R.k→R.sbF L x n=R.sbF (gL L (R.a c)) (iU x (R.a c) v') n:=by
   intro n
   induction n with
   | zero=>intro _;rfl
   | succ n ih =>
    intro hn;unfold CR.sbF;rw [aR _ (hR.asx c hc n (by omega)).symm,ih (by omega)]
    by_cases e:n=c
    ·subst e;rw [hs,if_neg (by simp),if_neg (by simp)]
    ·rw [cS _ _ (fun e2=>e (hR.ai n (by omega) c hc e2))]
  exact aux _ (Nat.le_refl _)
 ·have:j≠R.a c:=fun e=>by rw [e,hR.pa c hc] at hj;cases hj
  rw [cS _ _ this];rw [aR _ this] at hLj;exact h.pur j u hj hLj
 ·rw [aR _ (hR.ba d hd c hc)] at hLd
  by_cases e:d=c
  ·subst e;rw [ecc,lN,if_pos rfl,if_pos rfl];exact h1
  ·rw [ec d hd e,aR _ (fun e2=>e (hR.ai d hd c hc e2))];refine own_of_block (h.row d hd hLd) fun g hg=>h2.block g ((h.row d hd hLd).lt g hg).2 fun e2=>?_;have:=h.apart d hd c hc e hLd hLb g hg;rw [ecur] at this;exact this e2.symm
 ·rw [aR _ (hR.ba d hd c hc)] at hLd;rw [aR _ (hR.ba e he c hc)] at hLe
  have key:∀ d,d<R.k→d≠c→L (R.b d)=true→∀ g,(R.cur L x d).ownBlock=some g→v'.ownBlock≠some g:=fun d hd hdc hLd g hg hv=>by
   rcases h3 with h3 | h3
   ·have:=h.apart d hd c hc hdc hLd hLb g hg;rw [ecur,← h3] at this;exact this hv
   ·rw [h3] at hv;have:=((h.row d hd hLd).lt g hg).2;have:=Option.some.inj hv
    omega
  by_cases e1:d=c
  ·subst e1;rw [ecc,ec e he hde.symm];exact fun hg hg2=>key e he hde.symm hLe g hg2 hg
  ·by_cases e2:e=c
   ·subst e2;rw [ecc,ec d hd e1];exact fun hg hg2=>key d hd e1 hLd g hg hg2
   ·rw [ec d hd e1,ec e he e2];exact h.apart d hd e he hde hLd hLe g
 ·rw [aR _ (hR.ba d hd c hc)] at hLd
  by_cases e:d=c
  ·subst e;rw [ecc]
   rcases h3 with h3 | h3
   ·obtain ⟨g,hg⟩:=h.blk d hd hLd;rw [ecur] at hg;exact ⟨g,h3.trans hg⟩
   ·exact ⟨_,h3⟩
  ·rw [ec d hd e];exact h.blk d hd hLd
theorem CR.J.store (hR:R.Ok) (h:R.J ws L x w) (hcl:Clo R.ops L) {c:Nat} (hc:c<R.k) (hL:L (R.s c)=false) (u:Value):R.J ws (gL L (R.s c)) (iU x (R.s c) u) (w.setCell ⟨R.SB,R.off c,none⟩ (x (R.a c))):=by
 have ec:∀ d,d<R.k→R.cur (gL L (R.s c)) (iU x (R.s c) u) d=R.cur L x d:=fun d hd=>by
  unfold CR.cur;rw [aR _ (hR.asx d hd c hc),cS _ _ (hR.asx d hd c hc),cS _ _ (hR.bs d hd c hc)]
 have hso:∀ q,q≠R.SB→(w.setCell ⟨R.SB,R.off c,none⟩ (x (R.a c))).heap[q]? = w.heap[q]?:=fun q hq=>heap_setCell_other _ _ _ _ hq;refine ⟨fun q hq hs=>(hso q hs).trans (h.low q hq hs),h.os,h.tape,h.output,by simpa using h.size,?_,fun j v hj hLj=>?_,fun d hd hLd=>?_,fun d hd e he hde hLd hLe=>?_,fun d hd hLd=>?_⟩
 ·have hs:=heap_setCell_same w R.SB (R.off c) _ _ (x (R.a c)) h.sb;rw [hs]
  congr 2
  have hlate:∀ d,c<d→d<R.k→L (R.s d)=false:=fun d h1 h2=>by
   cases e:L (R.s d) with
   | false=>rfl
   | true=>rw [hR.wss c d h1 h2 L hcl e] at hL;cases hL
  have l1:R.sbF L x R.k=R.sbF L x c:=CR.sbF_cut (by omega) fun d h1 h2=>by
   by_cases e:d=c
   ·rw [e];exact hL
   ·exact hlate d (by omega) h2
  have l2:R.sbF (gL L (R.s c)) (iU x (R.s c) u) R.k=R.sbF (gL L (R.s c)) (iU x (R.s c) u) (c+1):=CR.sbF_cut (by omega) fun d h1 h2=>by
   rw [aR _ (fun e=>by have:=hR.si d h2 c hc e;omega)];exact hlate d (by omega) h2
  have l3:R.sbF (gL L (R.s c)) (iU x (R.s c) u) (c+1)=(R.sbF L x c).setIfInBounds (R.off c) (x (R.a c)):=by
   rw [CR.sbF,lN,if_pos rfl,cS _ _ (hR.asx c hc c hc)]
   congr 1
   exact (CR.sbF_congr fun d hd=>⟨(aR _ (fun e=>by have:=hR.si d (by omega) c hc e;omega)).symm,(cS _ _ (hR.asx d (by omega) c hc)).symm⟩).symm
  rw [l1,l2,l3]
 ·have:j≠R.s c:=fun e=>by rw [e,hR.ps c hc] at hj;cases hj
  rw [cS _ _ this];rw [aR _ this] at hLj;exact h.pur j v hj hLj
 ·rw [aR _ (hR.bs d hd c hc)] at hLd;rw [ec d hd,aR _ (hR.asx d hd c hc)];refine own_of_block (h.row d hd hLd) fun g hg=>hso g fun e=>?_;have:=((h.row d hd hLd).lt g hg).1;have:=hR.sb
  omega
 ·rw [aR _ (hR.bs d hd c hc)] at hLd;rw [aR _ (hR.bs e he c hc)] at hLe;rw [ec d hd,ec e he];exact h.apart d hd e he hde hLd hLe
 ·rw [aR _ (hR.bs d hd c hc)] at hLd;rw [ec d hd];exact h.blk d hd hLd
theorem CR.J.all (hR:R.Ok) (h:R.J ws L x w) (hL:∀ i,i<R.ops.size→L i=true):R.J ws (fun _=>true) x w:=by
 have ec:∀ c,c<R.k→R.cur (fun _=>true) x c=R.cur L x c:=fun c hc=>by unfold CR.cur;rw [hL _ (hR.al c hc)]
 refine ⟨h.low,h.os,h.tape,h.output,h.size,?_,fun i v hi _=>h.pur i v hi (hL i (hR.pl i (by rw [hi];rfl))),fun c hc _=>?_,fun c hc d hd hcd _ _=>?_,fun c hc _=>?_⟩
 ·rw [h.sb,CR.sbF_congr (L':=fun _=>true) (x':=x) fun c hc=>⟨hL _ (hR.sl c hc),rfl⟩]
 ·have:=h.row c hc (hL _ (hR.bl c hc));rw [hL _ (hR.al c hc)] at this;rw [ec c hc];exact this
 ·rw [ec c hc,ec d hd];exact h.apart c hc d hd hcd (hL _ (hR.bl c hc)) (hL _ (hR.bl d hd))
 ·rw [ec c hc];exact h.blk c hc (hL _ (hR.bl c hc))
def CR.Deps (R:CR) (o:Oper) (ev:Operand→Value):Prop:=∀ e ∈ o.after,Region.binds .any e=true→∀ u d,R.pv e.on=some u→bO R.ops e.on=some d→ev (.tmp d)=u
theorem CR.walk (hR:R.Ok) {a0:Act} {id:Nat} {Q:Exit→Act→World→Prop} {tb ta:Nat→Nat} (hm:Try.prog.follows .mixedOrders=true) (hup:p8 R.ops=true) (hD:ya8 R.ops=true) (hg:(R.ops.all fun o=>o.guard == none)=true)
  (hB:ws.heap.size=R.B) (harr:ws.heap[R.SB]? = some (.cells R.arr R.TS (0,0)))
  (hsz:∀ i d,bO R.ops i=some d→d<a0.tmps.size) (htb:∀ c,c<R.k→bO R.ops (R.b c)=some (tb c)) (hta:∀ c,c<R.k→bO R.ops (R.a c)=some (ta c))
  (hpure:∀ i o v ev w,R.ops[i]? = some o→R.pv i=some v→R.Deps o ev→(∀ d,(∀ i,bO R.ops i≠some d)→ev (.tmp d)=a0.eval (.tmp d))→(∀ q,q<R.B→q≠R.SB→w.heap[q]? = ws.heap[q]?)→(R.ld i=true→w.heap[R.SB]? = some (.cells R.arr R.TS (0,0)))→(execOp ev o).run Try.prog w=.ok (.value v) w)
  (hbuild:∀ c,c<R.k→∀ o,R.ops[R.b c]? = some o→∀ ev w,(execOp ev o).run Try.prog w=.ok (.value (.slice (some ⟨w.heap.size,0,none⟩) 0 0)) (w.alloc (.cells #[] (R.T c))))
  (hfill:∀ c,c<R.k→∀ o,R.ops[R.a c]? = some o→∀ ev w,(∀ q,q<R.B→q≠R.SB→w.heap[q]? = ws.heap[q]?)→R.B≤w.heap.size→w.ownsRow R.B (R.T c) (R.z c) (ev (.tmp (tb c))) 0 []→R.Deps o ev →
   ∃ v' w',(execOp ev o).run Try.prog w=.ok (.value v') w'∧w'.ownsRow R.B (R.T c) (R.z c) v' (R.m c) (R.xs c)∧w.grownBy w' (ev (.tmp (tb c))).ownBlock∧(v'.ownBlock=(ev (.tmp (tb c))).ownBlock∨v'.ownBlock=some w.heap.size))
  (hstore:∀ c,c<R.k→∀ o,R.ops[R.s c]? = some o→∀ ev w A,w.heap[R.SB]? = some (.cells A R.TS (0,0))→A.size=R.arr.size→R.Deps o ev→(∃ ad m cc,ev (.tmp (ta c))=.slice ad m cc)→(execOp ev o).run Try.prog w=.ok .skip (w.setCell ⟨R.SB,R.off c,none⟩ (ev (.tmp (ta c)))))
  (hend:∀ x w,R.J ws (fun _=>true) x w→Q .normal (acc R.ops (fun _=>true) x a0) w):(Code.region id R.ops true).wp Try.prog Q a0 ws:=by
 have hD1:=ydF hD;refine zG hm hup (fun L a w=>∃ x,a=acc R.ops L x a0∧R.J ws L x w) ⟨fun _=>undef,(ygK _ _ _).symm,?_⟩ ?_ ?_
 ·refine ⟨fun q _ _=>rfl,rfl,rfl,rfl,Nat.le_of_eq hB.symm,?_,(fun i v _ h=>by cases h),(fun c _ h=>by cases h),(fun c _ d _ _ h=>by cases h),(fun c _ h=>by cases h)⟩;rw [CR.sbF_none fun _ _=>rfl];exact harr
 ·rintro L a w i o ⟨x,rfl,hJ⟩ hcl ho hLi hdep
  have hgo:o.guard=none:=by
   have hmem:o ∈ R.ops:=Array.mem_of_getElem? ho;have:=Array.all_eq_true_iff_forall_mem.1 hg o hmem
   simpa using this
  have hil:i<R.ops.size:=(Array.getElem?_eq_some_iff.1 ho).1
  have hdeps:R.Deps o (acc R.ops L x a0).eval:=fun e he hb u d hu hd=>by
   rw [kY hD1 (hdep e he hb) hd (hsz _ _ hd)];exact hJ.pur _ _ hu (hdep e he hb)
  unfold wpOp;simp only [ho,Region.wanted,hgo,if_true];refine .inl ?_;unfold Oper.wp
  rcases hR.cls i hil with hv | ⟨c,hc,rfl⟩ | ⟨c,hc,rfl⟩ | ⟨c,hc,rfl⟩
  ·obtain ⟨v,hv⟩:=Option.isSome_iff_exists.1 hv
   rw [hpure i o v _ w ho hv hdeps (fun d hd=>vQ hd) hJ.low (fun hld=>by
    rw [hJ.sb,CR.sbF_none fun c hc=>by
     cases e:L (R.s c) with
     | false=>rfl
     | true=>rw [hR.wsl i hld c hc L hcl e] at hLi;cases hLi])]
   exact ⟨iU x i v,pX hD1 hLi ho,hJ.pure hR hv⟩
  ·rw [hbuild c hc o ho _ w];exact ⟨_,pX hD1 hLi ho,hJ.build hR hcl hc hLi⟩
  ·have hLb:L (R.b c)=true:=hR.wba c hc o ho L hdep
   have hLs:L (R.s c)=false:=by
    cases e:L (R.s c) with
    | false=>rfl
    | true=>rw [hR.wsa c hc L hcl e] at hLi;cases hLi
   have eb:(acc R.ops L x a0).eval (.tmp (tb c))=x (R.b c):=kY hD1 hLb (htb c hc) (hsz _ _ (htb c hc));have hrow:=hJ.row c hc hLb;rw [hLi,if_neg (by simp),if_neg (by simp),show R.cur L x c=x (R.b c) by unfold CR.cur;rw [hLi,if_neg (by simp)]] at hrow;obtain ⟨v',w',hr,h1,h2,h3⟩:=hfill c hc o ho _ w hJ.low hJ.size (by rw [eb];exact hrow) hdeps;rw [eb] at h2 h3;rw [hr];exact ⟨_,pX hD1 hLi ho,hJ.fill hR hc hLb hLi hLs h1 h2 h3⟩
  ·have hLa:L (R.a c)=true:=hR.was c hc o ho L hdep;have ea:(acc R.ops L x a0).eval (.tmp (ta c))=x (R.a c):=kY hD1 hLa (hta c hc) (hsz _ _ (hta c hc));have hLb:=hR.wab c hc L hcl hLa;have hrow:=hJ.row c hc hLb;rw [hLa,if_pos rfl,if_pos rfl,show R.cur L x c=x (R.a c) by unfold CR.cur;rw [hLa,if_pos rfl]] at hrow
   have hsl:∃ ad m cc,x (R.a c)=.slice ad m cc:=by
    rcases hrow.2 with ⟨e,_⟩ | ⟨g,cap,cur,e,_⟩
    ·exact ⟨_,_,_,e⟩
    ·exact ⟨_,_,_,e⟩
   rw [hstore c hc o ho _ w _ hJ.sb CR.sbF_size hdeps (by rw [ea];exact hsl),ea];exact ⟨_,pX hD1 hLi ho,hJ.store hR hcl hc hLi undef⟩
 ·rintro L a w ⟨x,rfl,hJ⟩ hall;have e:acc R.ops L x a0=acc R.ops (fun _=>true) x a0:=rN fun i hi=>⟨hall i (List.mem_range.1 hi),rfl⟩;rw [e];exact hend x w (hJ.all hR hall)
end
end Go.Proofs.Ytgjpkpmikbpcnaa
