import Derived.Maps.AppendAt
import Derived.Orders
import Derived.WalkKit
import Derived.Test.YtgjpkpmikbpcnaaOAskG
namespace Go.Proofs.Ytgjpkpmikbpcnaa
open Go.RowKit
theorem dW {z:Nat}:∀ {R:List (List Value)},(∀ l ∈ R,l.length=z)→R.flatten.length=R.length*z
 | [],_=>by simp
 | l::R,h=>by
  rw [List.flatten_cons,List.length_append,dW fun l hl=>h l (List.mem_cons_of_mem _ hl),h l List.mem_cons_self,List.length_cons,Nat.add_mul]
  omega
theorem dP {z:Nat}:∀ {R:List (List Value)},(∀ l ∈ R,l.length=z)→∀ (i c:Nat) (l:List Value),R[i]? = some l→c<z→R.flatten[i*z+c]? = l[c]?
 | [],_,i,_,_,h,_=>by simp at h
 | l::R,h,0,c,l',e,hc=>by
  simp at e;subst e;rw [List.flatten_cons,Nat.zero_mul,Nat.zero_add,List.getElem?_append_left (by rw [h l List.mem_cons_self];exact hc)]
 | l::R,h,i+1,c,l',e,hc=>by
  have hl:=h l List.mem_cons_self;rw [List.flatten_cons,List.getElem?_append_right (by rw [hl,Nat.add_mul];omega),hl,show (i+1)*z+c-z=i*z+c by rw [Nat.add_mul];omega];exact dP (fun l hl=>h l (List.mem_cons_of_mem _ hl)) i c l' (by simpa using e) hc
theorem yfL {z:Nat} (hz:0<z) {R:List (List Value)} (h:∀ l ∈ R,l.length=z) (i c:Nat) (l:List Value) (hi:R[i]? = some l) (hc:c<z) (u:Value):R.flatten.set (i*z+c) u=(R.set i (l.set c u)).flatten:=by
 have hiL:i<R.length:=(List.getElem?_eq_some_iff.1 hi).1
 have h':∀ l' ∈ R.set i (l.set c u),l'.length=z:=fun l' hl'=>by
  rcases List.mem_or_eq_of_mem_set hl' with hl' | rfl
  ·exact h l' hl'
  ·rw [List.length_set];exact h l (List.mem_of_getElem? hi)
 apply List.ext_getElem?
 intro j;have e:=Nat.div_add_mod j z;rw [Nat.mul_comm] at e;have hm:=Nat.mod_lt j hz
 by_cases hj:j / z<R.length
 ·have e1:R[j / z]? = some R[j / z]:=List.getElem?_eq_getElem hj
  by_cases ei:j / z=i
  ·have e2:(R.set i (l.set c u))[j / z]? = some (l.set c u):=by rw [ei];exact List.getElem?_set_self hiL
   rw [← e,dP h' (j / z) (j % z) _ e2 hm]
   by_cases ec:j % z=c
   ·rw [ei,ec,List.getElem?_set_self (by rw [dW h];have:(i+1)*z≤R.length*z:=Nat.mul_le_mul_right z hiL;rw [Nat.add_mul] at this;omega),List.getElem?_set_self (by rw [h l (List.mem_of_getElem? hi)];exact hc)]
   ·rw [List.getElem?_set_ne (by rw [ei];omega),List.getElem?_set_ne (fun h=>ec h.symm),ei,dP h i (j % z) l hi hm]
  ·have e2:(R.set i (l.set c u))[j / z]? = some R[j / z]:=by rw [List.getElem?_set_ne (fun h=>ei h.symm)];exact e1
   rw [← e,dP h' (j / z) (j % z) _ e2 hm,List.getElem?_set_ne,dP h (j / z) (j % z) _ e1 hm];intro he
   rcases Nat.lt_or_gt_of_ne ei with hlt | hlt
   ·have:(j / z+1)*z≤i*z:=Nat.mul_le_mul_right z hlt;rw [Nat.add_mul] at this;omega
   ·have:(i+1)*z≤j / z*z:=Nat.mul_le_mul_right z hlt;rw [Nat.add_mul] at this;omega
 ·have hge:R.length*z≤j:=by
   have:R.length*z≤j / z*z:=Nat.mul_le_mul_right z (by omega)
   omega
  rw [List.getElem?_eq_none (by rw [List.length_set,dW h];exact hge),List.getElem?_eq_none (by rw [dW h',List.length_set];exact hge)]
theorem iH {w:World} {base e size g n cap:Nat} {xs:List Value} (h:w.ownsRow base e size (.slice (some ⟨g,0,none⟩) n cap) n xs) (k:Nat) (u:Value) (hk:xs[k]? = some u):w.cell? ⟨g,k,none⟩=some u:=by
 have:=World.ownsRow.cells (g:=g) h rfl k _ hk;rw [add0] at this;exact this
theorem sV {w w':World} {base e size n B:Nat} {v:Value} {xs:List Value} (h:w.ownsRow base e size v n xs) (hB:w.heap.size≤B) (f:Below B w w'):w'.ownsRow base e size v n xs:=own_of_block h (fun k hk=>f.block k (Nat.lt_of_lt_of_le (h.lt k hk).2 hB))

def zY (t:Tsk):List Value:=[.bool t.1,.int .i64 t.2]
def tT (L:List Tsk):List Value:=(L.map zY).flatten
theorem yfO (L:List Tsk):∀ l ∈ L.map zY,l.length=2:=by
 intro l hl;obtain ⟨t,_,rfl⟩:=List.mem_map.1 hl
 rfl
theorem tQ (L:List Tsk) (i c:Nat) (t:Tsk) (h:L[i]? = some t) (hc:c<2):(tT L)[i*2+c]? = (zY t)[c]?:=dP (yfO L) i c _ (by simp [h]) hc
def TRow (w:World) (base:Nat) (v:Value) (L:List Tsk):Prop:=w.ownsRow base 31 2 v L.length (tT L)
section
variable {w w':World} {base g cap n:Nat} {v:Value} {L:List Tsk}
theorem TRow.cells (h:TRow w base (.slice (some ⟨g,0,none⟩) L.length cap) L) (i:Nat) (t:Tsk) (hi:L[i]? = some t):w.cell? ⟨g,i*2,none⟩=some (.bool t.1)∧w.cell? ⟨g,i*2+1,none⟩=some (.int .i64 t.2) :=
 ⟨iH h _ _ (tQ L i 0 t hi (by decide)),iH h _ _ (tQ L i 1 t hi (by decide))⟩
theorem TRow.later {B:Nat} (h:TRow w base v L) (hB:w.heap.size≤B) (f:Below B w w'):TRow w' base v L:=sV h hB f
theorem TRow.shape (h:TRow w base v L):∃ a c,v=.slice a L.length c:=by
 rcases h.2 with ⟨e,e2⟩ | ⟨g,cap,cur,e,_⟩
 ·exact ⟨none,0,by rw [e,e2]⟩
 ·exact ⟨_,cap,e⟩
end
theorem info37:(Try.prog.info? 31).map (fun i=>(i.zero,i.size,i.bytes))=some (some (.agg #[.bool false,.int .i64 0]),2,16):=by kernel_rfl
end Go.Proofs.Ytgjpkpmikbpcnaa
namespace Go.Proofs.Ytgjpkpmikbpcnaa
section
variable {P:Program} {ops:Array Oper} {Q:Exit→Act→World→Prop}
def gL (L:Nat→Bool) (i:Nat):Nat→Bool:=fun j=>if j=i then true else L j
def iU (x:Nat→Value) (i:Nat) (v:Value):Nat→Value:=fun j=>if j=i then v else x j
theorem lN (L:Nat→Bool) (i:Nat):gL L i i=true:=if_pos rfl
theorem aR (L:Nat→Bool) {i j:Nat} (h:j≠i):gL L i j=L j:=if_neg h
theorem lL (x:Nat→Value) (i:Nat) (v:Value):iU x i v i=v:=if_pos rfl
theorem cS (x:Nat→Value) {i j:Nat} (v:Value) (h:j≠i):iU x i v j=x j:=if_neg h
theorem yaQ {L:Nat→Bool} {i j:Nat} (h:L j=true):gL L i j=true:=by unfold gL;split <;> trivial
def Clo (ops:Array Oper) (L:Nat→Bool):Prop:=∀ j o,ops[j]? = some o→L j=true→∀ e ∈ o.after,Region.binds .any e=true→L e.on=true
def p8 (ops:Array Oper):Bool:=(List.range ops.size).all fun i=>((ops[i]?).map fun o=>o.after.all fun e=>!Region.binds .any e || decide (e.on<i)).getD true
theorem ybS (h:p8 ops=true) {i:Nat} {o:Oper} (hi:ops[i]? = some o) {e:Edge} (he:e ∈ o.after) (hb:Region.binds .any e=true):e.on<i:=by
 unfold p8 at h;have hl:i<ops.size:=(Array.getElem?_eq_some_iff.1 hi).1;have h1:=List.all_eq_true.1 h i (List.mem_range.2 hl);simp only [hi,Option.map_some,Option.getD_some] at h1;have h2:=Array.all_eq_true_iff_forall_mem.1 h1 e he
 simpa [hb] using h2
theorem tI (listed:Array Bool) (i:Nat) (hi:i<listed.size):(fun j=>(listed.setIfInBounds i true).getD j false)=gL (fun j=>listed.getD j false) i:=by
 funext j
 unfold gL
 by_cases h:j=i
 ·subst h;simp [hi]
 ·rw [if_neg h]
  simp [Array.getElem?_setIfInBounds_ne (fun e=>h e.symm)]
theorem any_inv (hup:p8 ops=true) (I:(Nat→Bool)→Act→World→Prop)
  (hstep:∀ L a w i o,I L a w→Clo ops L→ops[i]? = some o→L i=false→(∀ e ∈ o.after,Region.binds .any e=true→L e.on=true)→wpOp P ops Q i (I (gL L i)) a w)
  (hend:∀ L a w,I L a w→(∀ i,i<ops.size→L i=true)→Q .normal a w) :
  ∀ (fuel:Nat) (listed:Array Bool) (a:Act) (w:World),listed.size=ops.size→listed.toList.count false≤fuel→Clo ops (fun i=>listed.getD i false)→I (fun i=>listed.getD i false) a w→wpAny P .any ops Q fuel listed a w:=by
 have hready:∀ listed:Array Bool,listed.size=ops.size→Region.ready .any ops listed=[]→∀ n i,i<n→i<ops.size→listed.getD i false=true:=by
  intro listed hs hr n
  induction n with
  | zero=>intro i hi;omega
  | succ n ih =>
   intro i hi hio
   by_cases e:listed.getD i false=true
   ·exact e
   ·exfalso
    have hmem:i ∈ Region.ready .any ops listed:=by
     refine mem_ready.2 ⟨?_,ops[i],Array.getElem?_eq_getElem hio,fun e he hb=>?_⟩
     ·have:i<listed.size:=by omega
      simp [this] at e ⊢
      exact e
     ·have hlt:=ybS hup (Array.getElem?_eq_getElem hio) he hb;exact ih e.on (by omega) (by omega)
    rw [hr] at hmem
    cases hmem
 intro fuel
 induction fuel with
 | zero =>
  intro listed a w hs hc hcl hI
  have hall:∀ i,i<ops.size→listed.getD i false=true:=fun i hi=>by
   have h0:listed.toList.count false=0:=by omega
   have:=List.count_eq_zero.1 h0
   by_cases e:listed.getD i false=true
   ·exact e
   ·exfalso
    apply this
    have hl:i<listed.size:=by omega
    simp [hl] at e
    rw [← e]
    simp
  refine ⟨?_,hend _ _ _ hI hall⟩
  apply List.eq_nil_iff_forall_not_mem.2
  intro i hi;obtain ⟨h1,o,ho,_⟩:=mem_ready.1 hi;have hl:i<ops.size:=(Array.getElem?_eq_some_iff.1 ho).1;have:=hall i hl;have hl2:i<listed.size:=by omega
  simp [hl2] at h1 this
  rw [h1] at this
  cases this
 | succ fuel ih =>
  intro listed a w hs hc hcl hI;refine ⟨fun hr=>hend _ _ _ hI fun i hi=>hready listed hs hr (i+1) i (by omega) hi,fun i hi=>?_⟩;obtain ⟨h1,o,ho,hdep⟩:=mem_ready.1 hi;have hl:i<ops.size:=(Array.getElem?_eq_some_iff.1 ho).1;have hl2:i<listed.size:=by omega
  have hf:listed.getD i false=false:=by simp [hl2] at h1 ⊢;exact h1
  refine wpOp_mono (fun a' w' h'=>ih _ a' w' (by simpa using hs) ?_ ?_ (by rw [tI listed i hl2];exact h')) (hstep _ a w i o hI hcl ho hf hdep)
  ·rw [Array.toList_setIfInBounds,List.count_set (by simpa using hl2)];have e:listed.toList[i]'(by simpa using hl2)=false:=by simp [hl2] at hf;simpa using hf
   have hpos:0<listed.toList.count false:=List.count_pos_iff.2 (by rw [← e];exact List.getElem_mem _);rw [e];simp only [beq_self_eq_true,if_true];have:(true == false)=false:=rfl;rw [this];simp only [Bool.false_eq_true,if_false]
   omega
  ·rw [tI listed i hl2];intro j oj hj hLj e he hb
   by_cases hji:j=i
   ·subst hji;rw [ho] at hj
    cases hj
    exact yaQ (hdep e he hb)
   ·rw [aR _ hji] at hLj;exact yaQ (hcl j oj hj hLj e he hb)
theorem zG {id:Nat} {a:Act} {w:World} (hm:P.follows .mixedOrders=true) (hup:p8 ops=true) (I:(Nat→Bool)→Act→World→Prop) (h0:I (fun _=>false) a w.drew)
  (hstep:∀ L a w i o,I L a w→Clo ops L→ops[i]? = some o→L i=false→(∀ e ∈ o.after,Region.binds .any e=true→L e.on=true)→wpOp P ops Q i (I (gL L i)) a w)
  (hend:∀ L a w,I L a w→(∀ i,i<ops.size→L i=true)→Q .normal a w):(Code.region id ops true).wp P Q a w:=by
 have e:(fun i=>(Array.replicate ops.size false).getD i false)=fun _:Nat=>false:=by
  funext i
  by_cases h:i<ops.size <;> simp [h]
 refine wp_region_any hm (any_inv hup I hstep hend _ _ a _ (by simp) (by simp) ?_ ?_)
 ·rw [e];intro j o _ h;cases h
 ·rw [e];exact h0

def bO (ops:Array Oper) (i:Nat):Option Tmp:=(ops[i]?).bind (·.dst)
def gZ (ops:Array Oper) (L:Nat→Bool) (x:Nat→Value) (a:Act) (l:List Nat):Act:=l.foldl (fun a i=>if L i=true then a.put (bO ops i) (x i) else a) a
def acc (ops:Array Oper) (L:Nat→Bool) (x:Nat→Value) (a:Act):Act:=gZ ops L x a (List.range ops.size)
def rO (ops:Array Oper):Prop:=∀ i j d,bO ops i=some d→bO ops j=some d→i=j
def ya8 (ops:Array Oper):Bool:=(List.range ops.size).all fun i=>(List.range ops.size).all fun j=>i == j || bO ops i == none || bO ops i != bO ops j
theorem ydF (h:ya8 ops=true):rO ops:=by
 intro i j d hi hj
 have lt:∀ {q},bO ops q=some d→q<ops.size:=fun {q} hq=>by
  unfold bO at hq
  rcases Nat.lt_or_ge q ops.size with h | h
  ·exact h
  ·rw [Array.getElem?_eq_none h] at hq;cases hq
 have h1:=List.all_eq_true.1 (List.all_eq_true.1 h i (List.mem_range.2 (lt hi))) j (List.mem_range.2 (lt hj));rw [hi,hj] at h1
 simpa using h1
theorem ycB (a:Act) {x y:Option Tmp} (v u:Value) (h:∀ d,x=some d→y≠some d):(a.put x v).put y u=(a.put y u).put x v:=Act.put_comm a v u h
theorem rN {L L':Nat→Bool} {x x':Nat→Value}:∀ {l:List Nat} {a:Act},(∀ i ∈ l,L i=L' i∧x i=x' i)→gZ ops L x a l=gZ ops L' x' a l
 | [],_,_=>rfl
 | i::l,a,h=>by
  have hi:=h i List.mem_cons_self;show gZ ops L x (if L i=true then a.put (bO ops i) (x i) else a) l=gZ ops L' x' (if L' i=true then a.put (bO ops i) (x' i) else a) l;rw [hi.1,hi.2];exact rN fun j hj=>h j (List.mem_cons_of_mem _ hj)
theorem yE {L:Nat→Bool} {x:Nat→Value} {d:Option Tmp} {v:Value}:∀ {l:List Nat} {a:Act},(∀ i ∈ l,L i=true→∀ q,d=some q→bO ops i≠some q)→(gZ ops L x a l).put d v=gZ ops L x (a.put d v) l
 | [],_,_=>rfl
 | i::l,a,h=>by
  show (gZ ops L x (if L i=true then a.put (bO ops i) (x i) else a) l).put d v=gZ ops L x (if L i=true then (a.put d v).put (bO ops i) (x i) else a.put d v) l;rw [yE fun j hj=>h j (List.mem_cons_of_mem _ hj)]
  by_cases hL:L i=true
  ·rw [if_pos hL,if_pos hL,ycB a v (x i) (h i List.mem_cons_self hL)]
  ·rw [if_neg hL,if_neg hL]
theorem yH (hD:rO ops) {L:Nat→Bool} {x:Nat→Value} {j:Nat} {v:Value} (hj:L j=false):∀ {l:List Nat} {a:Act},l.Nodup→j ∈ l→(gZ ops L x a l).put (bO ops j) v=gZ ops (gL L j) (iU x j v) a l
 | [],_,_,h=>by cases h
 | i::l,a,hn,h=>by
  obtain ⟨hni,hn'⟩:=List.nodup_cons.1 hn;show (gZ ops L x (if L i=true then a.put (bO ops i) (x i) else a) l).put (bO ops j) v=gZ ops (gL L j) (iU x j v) (if gL L j i=true then a.put (bO ops i) (iU x j v i) else a) l
  by_cases e:i=j
  ·subst e;rw [hj,lN,lL,if_neg (by simp),if_pos rfl,yE]
   ·exact rN fun q hq=>by
     have:q≠i:=fun e=>hni (e ▸ hq);exact ⟨(aR _ this).symm,(cS _ _ this).symm⟩
   ·intro q hq _ d hd hdq;exact hni (hD q i d hdq hd ▸ hq)
  ·rw [aR _ e,cS _ _ e]
   rcases List.mem_cons.1 h with h | h
   ·exact absurd h.symm e
   ·exact yH hD hj hn' h
theorem pX (hD:rO ops) {L:Nat→Bool} {x:Nat→Value} {a:Act} {j:Nat} {o:Oper} {v:Value} (hj:L j=false) (ho:ops[j]? = some o):(acc ops L x a).put o.dst v=acc ops (gL L j) (iU x j v) a:=by
 have e:o.dst=bO ops j:=by unfold bO;rw [ho];rfl
 rw [e];exact yH hD hj List.nodup_range (List.mem_range.2 (Array.getElem?_eq_some_iff.1 ho).1)
theorem ygK (ops:Array Oper) (x:Nat→Value) (a:Act):acc ops (fun _=>false) x a=a:=by
 unfold acc
 suffices h:∀ l:List Nat,gZ ops (fun _=>false) x a l=a from h _
 intro l
 induction l with
 | nil=>rfl
 | cons i l ih=>exact ih
theorem wY (a:Act) {d:Option Tmp} {q:Tmp} (v:Value) (h:d≠some q):(a.put d v).eval (.tmp q)=a.eval (.tmp q):=by
 cases d with
 | none=>rfl
 | some d =>
  have:d≠q:=fun e=>h (by rw [e])
  simp [Act.eval,Act.put,Array.getElem?_setIfInBounds_ne this]
theorem jA {L:Nat→Bool} {x:Nat→Value} {q:Tmp}:∀ {l:List Nat} {a:Act},(∀ i ∈ l,L i=true→bO ops i≠some q)→(gZ ops L x a l).eval (.tmp q)=a.eval (.tmp q)
 | [],_,_=>rfl
 | i::l,a,h=>by
  show (gZ ops L x (if L i=true then a.put (bO ops i) (x i) else a) l).eval (.tmp q)=_;rw [jA fun j hj=>h j (List.mem_cons_of_mem _ hj)]
  by_cases hL:L i=true
  ·rw [if_pos hL];exact wY a _ (h i List.mem_cons_self hL)
  ·rw [if_neg hL]
theorem nP (hD:rO ops) {L:Nat→Bool} {x:Nat→Value} {q:Tmp} {j:Nat} (hj:L j=true) (hq:bO ops j=some q):∀ {l:List Nat} {a:Act},q<a.tmps.size→l.Nodup→j ∈ l→(gZ ops L x a l).eval (.tmp q)=x j
 | [],_,_,_,h=>by cases h
 | i::l,a,hs,hn,h=>by
  obtain ⟨hni,hn'⟩:=List.nodup_cons.1 hn;show (gZ ops L x (if L i=true then a.put (bO ops i) (x i) else a) l).eval (.tmp q)=_
  by_cases e:i=j
  ·subst e;rw [if_pos hj,jA fun k hk _ hk2=>hni (hD k i q hk2 hq ▸ hk),hq]
   simp [Act.eval,Act.put,hs]
  ·rcases List.mem_cons.1 h with h | h
   ·exact absurd h.symm e
   ·refine nP hD hj hq ?_ hn' h
    split
    ·cases bO ops i <;> simpa [Act.put] using hs
    ·exact hs
theorem kY (hD:rO ops) {L:Nat→Bool} {x:Nat→Value} {a:Act} {q:Tmp} {j:Nat} (hj:L j=true) (hq:bO ops j=some q) (hs:q<a.tmps.size):(acc ops L x a).eval (.tmp q)=x j:=by
 have hlt:j<ops.size:=by
  unfold bO at hq
  rcases Nat.lt_or_ge j ops.size with h | h
  ·exact h
  ·rw [Array.getElem?_eq_none h] at hq;cases hq
 exact nP hD hj hq hs List.nodup_range (List.mem_range.2 hlt)
theorem vQ {L:Nat→Bool} {x:Nat→Value} {a:Act} {q:Tmp} (h:∀ i,bO ops i≠some q):(acc ops L x a).eval (.tmp q)=a.eval (.tmp q):=jA fun i _ _=>h i
end
end Go.Proofs.Ytgjpkpmikbpcnaa
