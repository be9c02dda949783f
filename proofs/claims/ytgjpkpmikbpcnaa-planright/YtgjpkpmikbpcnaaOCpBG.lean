import Derived.Test.YtgjpkpmikbpcnaaOMin
import Derived.Test.YtgjpkpmikbpcnaaOCpA
namespace Go.Proofs.Ytgjpkpmikbpcnaa
open Go.RowKit
def oV (ops:Array Oper) (i j:Nat):Bool:=((ops[i]?).map fun o=>o.after.any fun e=>Region.binds .any e && e.on == j).getD false
theorem nV {ops:Array Oper} {i j:Nat} (h:oV ops i j=true) {o:Oper} (ho:ops[i]? = some o) {L:Nat→Bool} (hd:∀ e ∈ o.after,Region.binds .any e=true→L e.on=true):L j=true:=by
 unfold oV at h;rw [ho] at h;simp only [Option.map_some,Option.getD_some] at h;obtain ⟨e,he,h2⟩:=Array.any_eq_true'.1 h;simp only [Bool.and_eq_true,beq_iff_eq] at h2;rw [← h2.2];exact hd e he h2.1
theorem lB {ops:Array Oper} {i j:Nat} (h:oV ops i j=true) {L:Nat→Bool} (hc:Clo ops L) (hi:L i=true):L j=true:=by
 cases ho:ops[i]? with
 | none=>unfold oV at h;rw [ho] at h;cases h
 | some o=>exact nV h ho (hc i o ho hi)
def CR.okB (R:CR) (tl:Nat) (lds:List Nat):Bool :=
 ((List.range R.ops.size).all fun i=>(R.pv i).isSome || (List.range R.k).any fun c=>i == R.b c || i == R.a c || i == R.s c) &&
 ((List.range R.k).all fun c=>(List.range R.k).all fun d=>(c == d || (R.b c != R.b d && R.a c != R.a d && R.s c != R.s d)) && R.b c != R.a d && R.b c != R.s d && R.a c != R.s d) &&
 ((List.range R.k).all fun c=>(R.pv (R.b c)).isNone && (R.pv (R.a c)).isNone && (R.pv (R.s c)).isNone && oV R.ops (R.a c) (R.b c) && oV R.ops (R.s c) (R.a c) && (List.range c).all (fun d=>oV R.ops (R.s c) (R.s d)) && lds.all (fun i=>oV R.ops (R.s c) i) && decide (R.b c<R.ops.size) && decide (R.a c<R.ops.size) && decide (R.s c<R.ops.size)) && decide (tl≤R.ops.size)
theorem CR.ok_of {R:CR} {tl:Nat} {lds:List Nat} (h:R.okB tl lds=true) (hp:∀ i,(R.pv i).isSome=true→i<tl) (hl:∀ i,R.ld i=true→i ∈ lds) (hsb:R.SB<R.B) (ho:∀ c,c<R.k→R.off c<R.arr.size):R.Ok:=by
 unfold CR.okB at h;simp only [Bool.and_eq_true,List.all_eq_true,List.mem_range,Bool.or_eq_true,List.any_eq_true,beq_iff_eq,bne_iff_ne,ne_eq,decide_eq_true_eq,Option.isNone_iff_eq_none] at h;obtain ⟨⟨⟨h1,h2⟩,h3⟩,h4⟩:=h
 refine ⟨fun i hi=>?_,fun c hc d hd e=>?_,fun c hc d hd e=>?_,fun c hc d hd e=>?_,fun c hc d hd=>(h2 c hc d hd).1.1.2,fun c hc d hd=>(h2 c hc d hd).1.2,fun c hc d hd=>(h2 c hc d hd).2,
  fun c hc=>(h3 c hc).1.1.1.1.1.1.1.1.1,fun c hc=>(h3 c hc).1.1.1.1.1.1.1.1.2,fun c hc=>(h3 c hc).1.1.1.1.1.1.1.2,
  fun c hc L hcl hL=>lB (h3 c hc).1.1.1.1.1.1.2 hcl hL,fun c hc L hcl hL=>lB (h3 c hc).1.1.1.1.1.2 hcl hL,
  fun c hc o ho L hd=>nV (h3 c hc).1.1.1.1.1.1.2 ho hd,fun c hc o ho L hd=>nV (h3 c hc).1.1.1.1.1.2 ho hd,
  fun c d hcd hd L hcl hL=>lB ((h3 d hd).1.1.1.1.2 c hcd) hcl hL,fun i hi c hc L hcl hL=>lB ((h3 c hc).1.1.1.2 i (hl i hi)) hcl hL,
  fun i hi=>Nat.lt_of_lt_of_le (hp i hi) h4,fun c hc=>(h3 c hc).1.1.2,fun c hc=>(h3 c hc).1.2,fun c hc=>(h3 c hc).2,hsb,ho⟩
 ·rcases h1 i hi with h | ⟨c,hc,h⟩
  ·exact .inl h
  ·rcases h with (h | h) | h
   ·exact .inr (.inl ⟨c,hc,h⟩)
   ·exact .inr (.inr (.inl ⟨c,hc,h⟩))
   ·exact .inr (.inr (.inr ⟨c,hc,h⟩))
 ·rcases (h2 c hc d hd).1.1.1 with h | h
  ·exact h
  ·exact absurd e h.1.1
 ·rcases (h2 c hc d hd).1.1.1 with h | h
  ·exact h
  ·exact absurd e h.1.2
 ·rcases (h2 c hc d hd).1.1.1 with h | h
  ·exact h
  ·exact absurd e h.2
def outB (ops:Array Oper) (d:Nat):Bool:=(List.range ops.size).all fun i=>bO ops i != some d
theorem bT {ops:Array Oper} {d:Nat} (h:outB ops d=true):∀ i,bO ops i≠some d:=by
 intro i e
 have hi:i<ops.size:=by
  unfold bO at e
  rcases Nat.lt_or_ge i ops.size with h | h
  ·exact h
  ·rw [Array.getElem?_eq_none h] at e;cases e
 have:=List.all_eq_true.1 h i (List.mem_range.2 hi);rw [e] at this;simp at this
end Go.Proofs.Ytgjpkpmikbpcnaa
namespace Go.Proofs.Ytgjpkpmikbpcnaa
open Go.RowKit
theorem jR:(Try.prog.info? 61).map (fun i=>(i.zero,i.size,i.bytes))=some (some (.agg #[.int .i64 0,.int .i64 0]),2,16):=by kernel_rfl
theorem ye7:(Try.prog.info? 91).map (fun i=>(i.zero,i.size,i.bytes))=some (some (.agg #[.slice none 0 0,.int .i64 0]),2,32):=by kernel_rfl
theorem ye9:(Try.prog.info? 86).map (fun i=>(i.zero,i.size,i.bytes))=some (some (.agg #[.int .i64 0,.int .i64 0,.slice none 0 0,.int .u64 0,.int .i64 0,.int .i64 0,.int .i64 0,.int .i64 0,.int .i64 0,.int .i64 0,.slice none 0 0]),11,120):=by kernel_rfl
theorem yfA:(Try.prog.info? 67).map (fun i=>(i.zero,i.size,i.bytes))=some (some (.agg #[.int .i64 0,.int .i64 0,.slice none 0 0,.slice none 0 0,.slice none 0 0,.int .u64 0,.int .i64 0]),7,104):=by kernel_rfl
theorem ye8:(Try.prog.info? 103).map (fun i=>(i.zero,i.size,i.bytes))=some (some (.agg #[.int .i64 0,.int .i64 0,.slice none 0 0,.int .i64 0,.int .i64 0,.slice none 0 0,.slice none 0 0,.int .u64 0,.int .i64 0]),9,120):=by kernel_rfl
theorem l6:(Try.prog.info? 22).map (fun i=>(i.zero,i.size,i.bytes))=some (some (.slice none 0 0),1,24):=by kernel_rfl
theorem pN:(Try.prog.info? 43).map (fun i=>(i.zero,i.size,i.bytes))=some (some (.slice none 0 0),1,24):=by kernel_rfl
theorem infoS77:(Try.prog.info? 84).map (fun i=>(i.zero,i.size,i.bytes))=some (some (.slice none 0 0),1,24):=by kernel_rfl
theorem infoS25:(Try.prog.info? 25).map (fun i=>(i.zero,i.size,i.bytes))=some (some (.slice none 0 0),1,24):=by kernel_rfl
theorem infoS26:(Try.prog.info? 26).map (fun i=>(i.zero,i.size,i.bytes))=some (some (.slice none 0 0),1,24):=by kernel_rfl
theorem infoS27:(Try.prog.info? 27).map (fun i=>(i.zero,i.size,i.bytes))=some (some (.slice none 0 0),1,24):=by kernel_rfl
theorem gT {l:List (Option Value)} {i:Nat} (h:(l.getD i none).isSome=true):i<l.length:=by
 rcases Nat.lt_or_ge i l.length with h1 | h1
 ·exact h1
 ·rw [List.getD_eq_getElem?_getD,List.getElem?_eq_none h1] at h;cases h
theorem oP {ops:Array Oper} {n i d:Nat} (h:((List.range ops.size).all fun i=>match bO ops i with | some d=>decide (d<n) | none=>true)=true) (hd:bO ops i=some d):d<n:=by
 have hi:i<ops.size:=by
  unfold bO at hd
  rcases Nat.lt_or_ge i ops.size with h | h
  ·exact h
  ·rw [Array.getElem?_eq_none h] at hd;cases hd
 have:=List.all_eq_true.1 h i (List.mem_range.2 hi);rw [hd] at this
 simpa using this
theorem bC {w:World} {base base' e z n:Nat} {v:Value} {xs:List Value} (h:w.ownsRow base e z v n xs) (hb:base'≤base):w.ownsRow base' e z v n xs:=by
 obtain ⟨h1,h2⟩:=h;refine ⟨h1,?_⟩
 rcases h2 with h2 | ⟨g,cap,cur,e,a,r⟩
 ·exact .inl h2
 ·exact .inr ⟨g,cap,cur,e,Nat.le_trans hb a,r⟩
def encW (x:Win):List Value:=[.int .i64 x.1,.int .i64 x.2]
def cX (A:List Win):List Value:=(A.map encW).flatten
theorem xT (L:List Win):∀ l ∈ L.map encW,l.length=2:=by
 intro l hl;obtain ⟨t,_,rfl⟩:=List.mem_map.1 hl
 rfl
theorem iC (A:List Win):(cX A).length=A.length*2:=by unfold cX;rw [dW (xT A),List.length_map]
theorem ycV (A:List Win):∀ u ∈ cX A,u.oneCell'=true:=by
 intro u hu;unfold cX at hu;simp only [List.mem_flatten,List.mem_map] at hu;obtain ⟨l,⟨t,_,rfl⟩,hu⟩:=hu
 simp [encW] at hu
 rcases hu with rfl | rfl <;> rfl
theorem oM (L:List Win) (i c:Nat) (t:Win) (h:L[i]? = some t) (hc:c<2):(cX L)[i*2+c]? = (encW t)[c]?:=dP (xT L) i c _ (by simp [h]) hc
def NI (G:Nat→Prop) (v:Value):Prop:=∀ g,v.ownBlock=some g→¬ G g
def OInts (w:World) (base:Nat) (G:Nat→Prop) (v:Value) (L:List Int):Prop:=w.ownsRow base 3 1 v L.length (intsV L)∧L.length*8≤140737488351232∧NI G v
def OWins (w:World) (base:Nat) (G:Nat→Prop) (v:Value) (L:List Win):Prop:=w.ownsRow base 61 2 v L.length (cX L)∧L.length*16≤140737488351232∧NI G v
def Kp (w w':World) (base:Nat) (G G':Nat→Prop):Prop:=∀ g,¬ G g→base≤g→g<w.heap.size→w'.heap[g]? = w.heap[g]?∧¬ G' g
section
variable {w w' w0:World} {base:Nat} {G G':Nat→Prop} {v:Value}
theorem uU {e z n:Nat} {xs:List Value} (h:w.ownsRow base e z v n xs) (hn:NI G v) (hk:Kp w w' base G G'):w'.ownsRow base e z v n xs∧NI G' v :=
 ⟨own_of_block h fun g hg=>(hk g (hn g hg) (h.lt g hg).1 (h.lt g hg).2).1,fun g hg=>(hk g (hn g hg) (h.lt g hg).1 (h.lt g hg).2).2⟩
theorem OInts.kp {L:List Int} (h:OInts w base G v L) (hk:Kp w w' base G G'):OInts w' base G' v L:=by
 obtain ⟨h1,h2,h3⟩:=h;obtain ⟨k1,k2⟩:=uU h1 h3 hk;exact ⟨k1,h2,k2⟩
theorem OWins.kp {L:List Win} (h:OWins w base G v L) (hk:Kp w w' base G G'):OWins w' base G' v L:=by
 obtain ⟨h1,h2,h3⟩:=h;obtain ⟨k1,k2⟩:=uU h1 h3 hk;exact ⟨k1,h2,k2⟩
theorem cP {e z n:Nat} {xs:List Value} (h:w.ownsRow base e z v n xs):∃ a c,v=.slice a n c∧(a=none→c=0)∧∀ g off spot,a=some ⟨g,off,spot⟩→off=0∧spot=none:=by
 rcases h.2 with ⟨e,e2⟩ | ⟨g,cap,cur,e,_⟩
 ·exact ⟨none,0,by rw [e,e2],fun _=>rfl,fun _ _ _ e=>by cases e⟩
 ·exact ⟨_,cap,e,(fun e=>by cases e),fun g' off spot e=>by cases e;exact ⟨rfl,rfl⟩⟩
theorem OInts.read {L:List Int} (h:OInts w base G v L):IntsV w v L:=by
 obtain ⟨h1,h2,_⟩:=h
 rcases h1.2 with ⟨e,e2⟩ | ⟨g,cap,cur,e,_⟩
 ·have:L=[]:=List.eq_nil_of_length_eq_zero e2;subst this;exact ⟨none,0,e,fun _=>rfl,h2,rB _ _⟩
 ·subst e;refine ⟨_,cap,rfl,(fun e=>by cases e),h2,fun k hk=>⟨g,0,rfl,?_⟩⟩;rw [Nat.zero_add];exact iH h1 k _ (intsV_get L k hk)
theorem OWins.read {L:List Win} (h:OWins w base G v L):WinsV w v L:=by
 obtain ⟨h1,h2,_⟩:=h
 rcases h1.2 with ⟨e,e2⟩ | ⟨g,cap,cur,e,_⟩
 ·have:L=[]:=List.eq_nil_of_length_eq_zero e2;subst this;exact ⟨none,0,e,fun _=>rfl,rfl,h2,fun k hk=>by simp at hk⟩
 ·subst e;refine ⟨_,cap,rfl,(fun e=>by cases e),rfl,h2,fun k hk=>⟨g,0,rfl,?_⟩⟩;have hg:L[k]? = some L[k]!:=by rw [getElem!_pos L k hk];exact List.getElem?_eq_getElem hk
  simp only [Nat.zero_add];exact ⟨iH h1 _ _ (oM L k 0 _ hg (by decide)),iH h1 _ _ (oM L k 1 _ hg (by decide))⟩
def ORow {α:Type} (w:World) (base T z y:Nat) (G:Nat→Prop) (PV:Nat→List Value→α→Prop) (v:Value) (L:List α):Prop :=
 ∃ R:List (List Value),w.ownsRow base T z v L.length R.flatten∧R.length=L.length∧L.length*y≤140737488351232∧NI G v∧∀ k a,L[k]? = some a→∃ l,R[k]? = some l∧l.length=z∧(∀ u ∈ l,u.oneCell'=true)∧PV k l a
theorem ORow.kp {α:Type} {T z y:Nat} {PV PV':Nat→List Value→α→Prop} {L:List α} (h:ORow w base T z y G PV v L) (hk:Kp w w' base G G') (hp:∀ k l a,PV k l a→PV' k l a):ORow w' base T z y G' PV' v L:=by
 obtain ⟨R,h1,h2,h3,h4,h5⟩:=h;obtain ⟨k1,k2⟩:=uU h1 h4 hk;refine ⟨R,k1,h2,h3,k2,fun k a ha=>?_⟩;obtain ⟨l,e1,e2,e3,e4⟩:=h5 k a ha;exact ⟨l,e1,e2,e3,hp k l a e4⟩
theorem ORow.len {α:Type} {z:Nat} {PV:Nat→List Value→α→Prop} {L:List α} {R:List (List Value)} (h2:R.length=L.length) (h5:∀ k a,L[k]? = some a→∃ l,R[k]? = some l∧l.length=z∧(∀ u ∈ l,u.oneCell'=true)∧PV k l a):∀ l ∈ R,l.length=z:=by
 intro l hl;obtain ⟨k,hk,rfl⟩:=List.mem_iff_getElem.1 hl;obtain ⟨l',e1,e2,_⟩:=h5 k (L[k]'(by omega)) (List.getElem?_eq_getElem _);rw [List.getElem?_eq_getElem hk] at e1
 cases e1
 exact e2
theorem ORow.read {α:Type} {T z y:Nat} {zero:α} {V:World→List Value→α→Prop} {PV:Nat→List Value→α→Prop} {L:List α} (h:ORow w base T z y G PV v L) (hp:∀ k l a,L[k]? = some a→PV k l a→V w l a):SlV z y zero V w v L:=by
 obtain ⟨R,h1,h2,h3,_,h5⟩:=h;have hlen:=ORow.len h2 h5
 rcases h1.2 with ⟨e,e2⟩ | ⟨g,cap,cur,e,_⟩
 ·have:L=[]:=List.eq_nil_of_length_eq_zero e2;subst this;exact ⟨none,0,e,fun _=>rfl,h3,fun k hk=>by simp at hk⟩
 ·subst e;refine ⟨_,cap,rfl,(fun e=>by cases e),h3,fun k hk=>?_⟩;have hg:L[k]? = some (L.getD k zero):=by rw [List.getD_eq_getElem?_getD,List.getElem?_eq_getElem hk];rfl
  obtain ⟨l,e1,e2,_,e4⟩:=h5 k _ hg;refine ⟨g,0,l,rfl,e2,fun j hj=>?_,hp k l _ hg e4⟩;rw [Nat.zero_add];have hj2:j<l.length:=by omega
  rw [List.getElem?_eq_getElem hj2];refine iH h1 _ _ ?_;rw [dP hlen k j l e1 hj];exact List.getElem?_eq_getElem hj2
end
def OBrk (w0 w:World) (base:Nat) (G:Nat→Prop) (j k:Nat) (l:List Value) (b:Brk):Prop:=∃ y,l=[y,.int .i64 b.serv]∧if k<j then OWins w base G y b.wins else WinsV w0 y b.wins
def OVeh (w0 w:World) (base:Nat) (G G0:Nat→Prop) (j:Nat) (l:List Value) (v:Veh):Prop :=
 ∃ xc xb,l=kF v xc xb∧OInts w base G xc v.cap∧ORow w base 91 2 32 G0 (OBrk w0 w base G j) xb v.brks∧Wd v.skills
def OJob (w:World) (base:Nat) (G:Nat→Prop) (l:List Value) (j:Jb):Prop:=∃ xw xd xp,l=pH j xw xd xp∧OWins w base G xw j.stop.wins∧OInts w base G xd j.drop∧OInts w base G xp j.pick∧Wd j.skills
def OShp (w:World) (base:Nat) (G:Nat→Prop) (l:List Value) (s:Shp):Prop:=∃ x1 x2 xa,l=rP s x1 x2 xa∧OWins w base G x1 s.pick.wins∧OWins w base G x2 s.deli.wins∧OInts w base G xa s.amt∧Wd s.skills
section
variable {w w' w0:World} {base:Nat} {G G':Nat→Prop} {l:List Value}
theorem OBrk.kp {j k:Nat} {b:Brk} (h:OBrk w0 w base G j k l b) (hk:Kp w w' base G G'):OBrk w0 w' base G' j k l b:=by
 obtain ⟨y,e,h⟩:=h;refine ⟨y,e,?_⟩
 split
 ·rw [if_pos (by assumption)] at h;exact h.kp hk
 ·rw [if_neg (by assumption)] at h;exact h
theorem OVeh.kp {j:Nat} {v:Veh} (h:OVeh w0 w base G G j l v) (hk:Kp w w' base G G'):OVeh w0 w' base G' G' j l v:=by
 obtain ⟨xc,xb,e,h1,h2,h3⟩:=h;exact ⟨xc,xb,e,h1.kp hk,h2.kp hk fun k l a h=>h.kp hk,h3⟩
theorem OJob.kp {j:Jb} (h:OJob w base G l j) (hk:Kp w w' base G G'):OJob w' base G' l j:=by
 obtain ⟨a,b,c,e,h1,h2,h3,h4⟩:=h;exact ⟨a,b,c,e,h1.kp hk,h2.kp hk,h3.kp hk,h4⟩
theorem OShp.kp {j:Shp} (h:OShp w base G l j) (hk:Kp w w' base G G'):OShp w' base G' l j:=by
 obtain ⟨a,b,c,e,h1,h2,h3,h4⟩:=h;exact ⟨a,b,c,e,h1.kp hk,h2.kp hk,h3.kp hk,h4⟩
end
def G3 (gv gj gs:Nat):Nat→Prop:=fun g=>g=gv∨g=gj∨g=gs
def pJ (w0 w:World) (base:Nat) (G:Nat→Prop) (i:Nat) (k:Nat) (l:List Value) (v:Veh):Prop:=if k<i then OVeh w0 w base G G v.brks.length l v else VehV w0 l v
def mP (w0 w:World) (base:Nat) (G:Nat→Prop) (i:Nat) (k:Nat) (l:List Value) (j:Jb):Prop:=if k<i then OJob w base G l j else JobV w0 l j
def nQ (w0 w:World) (base:Nat) (G:Nat→Prop) (i:Nat) (k:Nat) (l:List Value) (s:Shp):Prop:=if k<i then OShp w base G l s else ShpV w0 l s
def yaI:Array Value:=#[.int .i64 0,.int .i64 0,.slice none 0 0,.int .i64 0,.slice none 0 0,.slice none 0 0,.slice none 0 0,.slice none 0 0]
structure CpG (w0 w:World) (bx gv gj gs:Nat) (G:Nat→Prop) (PV:Nat→List Value→Veh→Prop) (PJ:Nat→List Value→Jb→Prop) (PS:Nat→List Value→Shp→Prop) (p:Prb) (x:aU):Prop where
 low:Below w0.heap.size w0 w
 bxe:w0.heap.size=bx
 sz:bx+2≤w.heap.size
 box:w.heap[bx]? = some (.cells (aL p x) 29 (0,0))
 res:w.heap[bx+1]? = some (.cells yaI 29 (0,0))
 t:OInts w (bx+2) G x.t p.time.cells
 d:OInts w (bx+2) G x.d p.dist.cells
 ev:x.v.ownBlock=some gv
 ej:x.j.ownBlock=some gj
 es:x.s.ownBlock=some gs
 vj:gv≠gj
 vs:gv≠gs
 js:gj≠gs
 v:ORow w (bx+2) 86 11 120 (fun g=>G g∧g≠gv) PV x.v p.vs
 j:ORow w (bx+2) 67 7 104 (fun g=>G g∧g≠gj) PJ x.j p.js
 s:ORow w (bx+2) 103 9 120 (fun g=>G g∧g≠gs) PS x.s p.ss
abbrev CpS (w0 w:World) (bx gv gj gs:Nat) (p:Prb) (x:aU) (iv ij is:Nat):Prop:=CpG w0 w bx gv gj gs (G3 gv gj gs) (pJ w0 w (bx+2) (G3 gv gj gs) iv) (mP w0 w (bx+2) (G3 gv gj gs) ij) (nQ w0 w (bx+2) (G3 gv gj gs) is) p x
theorem VehV.of_o {w0 w:World} {base:Nat} {G:Nat→Prop} {l:List Value} {v:Veh} (h:OVeh w0 w base G G v.brks.length l v):VehV w l v:=by
 obtain ⟨xc,xb,e,h1,h2,h3⟩:=h;refine ⟨xc,xb,e,h1.read,h2.read fun k l b hb h=>?_,h3⟩;obtain ⟨y,e,h⟩:=h;rw [if_pos (List.getElem?_eq_some_iff.1 hb).1] at h;exact ⟨y,e,h.read⟩
theorem fM {A:Array Value} {R:List (List Value)} {z m i c:Nat} {l:List Value} (hz:0<z) (hl:∀ l ∈ R,l.length=z) (h:A.toList.take m=R.flatten) (hi:R[i]? = some l) (hc:c<z) (u:Value):(A.setIfInBounds (i*z+c) u).toList.take m=(R.set i (l.set c u)).flatten:=by
 rw [Array.toList_setIfInBounds,List.take_set,h,yfL hz hl i c l hi hc u]
theorem lK {R:List (List Value)} {z i:Nat} {l:List Value} (hl:∀ l ∈ R,l.length=z) (h:l.length=z):∀ l' ∈ R.set i l,l'.length=z:=by
 intro l' hl'
 rcases List.mem_or_eq_of_mem_set hl' with h' | rfl
 ·exact hl l' h'
 ·exact h
theorem fO {A:Array Value} {R:List (List Value)} {z m i c:Nat} {l:List Value} {u:Value} (hl:∀ l ∈ R,l.length=z) (h:A.toList.take m=R.flatten) (hi:R[i]? = some l) (hc:c<z) (hu:l[c]? = some u):A[i*z+c]? = some u:=by
 have h1:=dP hl i c l hi hc;rw [hu,← h] at h1
 have h2:A.toList[i*z+c]? = some u:=by
  rw [List.getElem?_take] at h1
  split at h1
  ·exact h1
  ·cases h1
 simpa using h2
theorem ORow.put {α:Type} {w w':World} {base T z y n cap g i:Nat} {G':Nat→Prop} {PV PV':Nat→List Value→α→Prop} {L:List α} {R:List (List Value)} {A':Array Value} {l':List Value}
  (h1:w.ownsRow base T z (.slice (some ⟨g,0,none⟩) n cap) L.length R.flatten) (h2:R.length=L.length) (h3:L.length*y≤140737488351232) (hG:¬ G' g) (hn:L.length=n)
  (h5:∀ k a,L[k]? = some a→∃ l,R[k]? = some l∧l.length=z∧(∀ u ∈ l,u.oneCell'=true)∧PV k l a)
  (hA:w'.heap[g]? = some (.cells A' T (0,0))) (hs:A'.size=cap*z) (ht:A'.toList.take (n*z)=(R.set i l').flatten) (hl':l'.length=z) (ho:∀ u ∈ l',u.oneCell'=true)
  (hp:∀ k l a,L[k]? = some a→k≠i→PV k l a→PV' k l a) (hpi:∀ a,L[i]? = some a→PV' i l' a):ORow w' base T z y G' PV' (.slice (some ⟨g,0,none⟩) n cap) L:=by
 have hR:=ORow.len h2 h5;refine ⟨R.set i l',⟨by rw [dW (lK hR hl'),List.length_set,h2],.inr ?_⟩,by rw [List.length_set,h2],h3,fun g' e=>by cases e;exact hG,fun k a ha=>?_⟩
 ·rcases h1.2 with ⟨e,_⟩ | ⟨g2,cap2,cur,e,b1,b2,b3,b4,b5,b6⟩
  ·cases e
  ·cases e
   exact ⟨g,cap,A',by rw [hn],b1,hA,by rw [hn];exact hn ▸ b3,b4,hs,by rw [hn];exact ht⟩
 ·have hk:k<L.length:=(List.getElem?_eq_some_iff.1 ha).1
  by_cases e:k=i
  ·subst e;exact ⟨l',List.getElem?_set_self (by omega),hl',ho,hpi a ha⟩
  ·obtain ⟨l,e1,e2,e3,e4⟩:=h5 k a ha;exact ⟨l,by rw [List.getElem?_set_ne (fun h=>e h.symm)];exact e1,e2,e3,hp k l a ha e e4⟩
end Go.Proofs.Ytgjpkpmikbpcnaa
namespace Go.Proofs.Ytgjpkpmikbpcnaa
open Go.RowKit
def Src (w:World) (v:Value) (m:Nat) (xs:List Value) (y:Nat):Prop :=
 ∃ ad c,v=.slice ad m c∧(ad=none→c=0∧m=0)∧(∀ q,ad=some q→∀ j u,xs[j]? = some u→w.cell? (q.add j)=some u)∧(∀ u ∈ xs,u.oneCell'=true)∧m*y≤140737488351232
theorem nI {w w0:World} (h:∀ b,b<w0.heap.size→w.heap[b]? = w0.heap[b]?) {b o:Nat} {u:Value} (hc:w0.cell? ⟨b,o,none⟩=some u):w.cell? ⟨b,o,none⟩=some u:=by
 rw [World.cell?_of_block (a:=⟨b,o,none⟩) (h b (block_lt_of_cell hc))];exact hc
theorem iG {w0:World} {v:Value} {L:List Int} (h:IntsV w0 v L) {w:World} (hl:∀ b,b<w0.heap.size→w.heap[b]? = w0.heap[b]?):Src w v L.length (intsV L) 8:=by
 obtain ⟨a,c,e,hc,hb,hA⟩:=h;refine ⟨a,c,e,fun ha=>⟨hc ha,?_⟩,fun q hq j u hu=>?_,ycP L,hb⟩
 ·rw [ha] at hA;rw [o7 hA];rfl
 ·have hj:j<L.length:=by have:=(List.getElem?_eq_some_iff.1 hu).1;rw [intsV_len] at this;exact this
  obtain ⟨b,off,e2,h1⟩:=hA j hj;rw [hq] at e2
  cases e2
  rw [intsV_get L j hj] at hu
  cases hu
  rw [pD];exact nI hl h1
theorem kM {w0:World} {v:Value} {L:List Win} (h:WinsV w0 v L) {w:World} (hl:∀ b,b<w0.heap.size→w.heap[b]? = w0.heap[b]?):Src w v L.length (cX L) 16:=by
 obtain ⟨a,c,e,hc,hA⟩:=h;refine ⟨a,c,e,fun ha=>⟨hc ha,?_⟩,fun q hq j u hu=>?_,ycV L,hA.max⟩
 ·rw [ha] at hA;exact rY hA
 ·have hj:j<L.length*2:=by have:=(List.getElem?_eq_some_iff.1 hu).1;rw [iC] at this;exact this
  have hk:j / 2<L.length:=by omega
  obtain ⟨b,off,e2,h0,h1⟩:=hA.cell (j / 2) hk;rw [hq] at e2
  cases e2
  have hg:L[j / 2]? = some L[j / 2]!:=by rw [getElem!_pos L (j / 2) hk];exact List.getElem?_eq_getElem hk
  have hf:=oM L (j / 2) (j % 2) _ hg (by omega);rw [show j / 2*2+j % 2=j by omega,hu] at hf;rw [pD];have:j % 2=0∨j % 2=1:=by omega
  rcases this with e | e
  ·rw [e] at hf
   cases hf
   rw [show off+j=off+j / 2*2 by omega];exact nI hl h0
  ·rw [e] at hf
   cases hf
   rw [show off+j=off+j / 2*2+1 by omega];exact nI hl h1
theorem mW {α:Type} {z y:Nat} {zero:α} {V:World→List Value→α→Prop} {w0:World} {v:Value} {L:List α} (h:SlV z y zero V w0 v L) (hz:0<z) (hone:∀ l a,V w0 l a→∀ u ∈ l,u.oneCell'=true) :
  ∃ R:List (List Value),R.length=L.length∧(∀ (k:Nat) (a:α),L[k]? = some a→∃ l,R[k]? = some l∧l.length=z∧(∀ u ∈ l,u.oneCell'=true)∧V w0 l a)∧∀ w:World,(∀ b,b<w0.heap.size→w.heap[b]? = w0.heap[b]?)→Src w v L.length R.flatten y:=by
 obtain ⟨a,c,e,hc,hb,hA⟩:=h
 have hch:∃ F:Nat→List Value,∀ k,k<L.length→∃ b off,a=some ⟨b,off,none⟩∧(F k).length=z∧(∀ j,j<z→w0.cell? ⟨b,off+k*z+j,none⟩=(F k)[j]?)∧V w0 (F k) (L.getD k zero) :=
  ⟨fun k=>if h:k<L.length then (hA k h).choose_spec.choose_spec.choose else [],fun k hk=>by
   simp only [dif_pos hk];exact ⟨_,_,(hA k hk).choose_spec.choose_spec.choose_spec⟩⟩
 obtain ⟨F,hF⟩:=hch;have hget:∀ k,k<L.length→((List.range L.length).map F)[k]? = some (F k):=fun k hk=>by rw [List.getElem?_map,List.getElem?_range hk];rfl
 have hlen:∀ l ∈ (List.range L.length).map F,l.length=z:=fun l hl=>by
  obtain ⟨k,hk,rfl⟩:=List.mem_map.1 hl;obtain ⟨_,_,_,h2,_⟩:=hF k (List.mem_range.1 hk);exact h2
 have hone':∀ k,k<L.length→∀ u ∈ F k,u.oneCell'=true:=fun k hk=>by
  obtain ⟨_,_,_,_,_,h4⟩:=hF k hk;exact hone _ _ h4
 refine ⟨(List.range L.length).map F,by simp,fun k x hx=>?_,fun w hl=>⟨a,c,e,fun ha=>⟨hc ha,?_⟩,fun q hq j u hu=>?_,fun u hu=>?_,hb⟩⟩
 ·have hk:=(List.getElem?_eq_some_iff.1 hx).1;obtain ⟨_,_,_,h2,_,h4⟩:=hF k hk;refine ⟨F k,hget k hk,h2,hone' k hk,?_⟩;rw [List.getD_eq_getElem?_getD,hx] at h4;exact h4
 ·rcases Nat.eq_zero_or_pos L.length with h | h
  ·exact h
  ·obtain ⟨_,_,e2,_⟩:=hF 0 h;rw [ha] at e2
   cases e2
 ·have hj:j<L.length*z:=by
   have:=(List.getElem?_eq_some_iff.1 hu).1;rw [dW hlen,List.length_map,List.length_range] at this;exact this
  have hk:j / z<L.length:=(Nat.div_lt_iff_lt_mul hz).2 hj;have hm:=Nat.mod_lt j hz;obtain ⟨b,off,e2,h2,h3,_⟩:=hF (j / z) hk;rw [hq] at e2
  cases e2
  have e4:j / z*z+j % z=j:=by rw [Nat.mul_comm];exact Nat.div_add_mod j z
  have hf:=dP hlen (j / z) (j % z) _ (hget _ hk) hm;rw [e4,hu] at hf;have h5:=h3 (j % z) hm;rw [← hf] at h5;rw [pD,show off+j=off+j / z*z+j % z by omega];exact nI hl h5
 ·obtain ⟨l,hl1,hl2⟩:=List.mem_flatten.1 hu;obtain ⟨k,hk,rfl⟩:=List.mem_map.1 hl1;exact hone' k (List.mem_range.1 hk) u hl2
theorem m7 {w:World} {v:Value} {L:List Int} (h:IntsV w v L):v.oneCell'=true:=by obtain ⟨a,c,rfl⟩:=h.shape;rfl
theorem mQ {w:World} {v:Value} {L:List Win} (h:WinsV w v L):v.oneCell'=true:=by obtain ⟨a,c,rfl⟩:=h.shape;rfl
theorem sl_one {α:Type} {z y:Nat} {zero:α} {V:World→List Value→α→Prop} {w:World} {v:Value} {L:List α} (h:SlV z y zero V w v L):v.oneCell'=true:=by obtain ⟨a,c,rfl⟩:=SlV.shape h;rfl
theorem veh_one {w:World} {l:List Value} {v:Veh} (h:VehV w l v):∀ u ∈ l,u.oneCell'=true:=by
 obtain ⟨xc,xb,rfl,h1,h2,_⟩:=h;intro u hu
 simp [kF] at hu
 rcases hu with rfl | rfl | rfl | rfl | rfl | rfl | rfl | rfl | rfl | rfl | rfl <;> first | rfl | exact m7 h1 | exact sl_one h2
theorem job_one {w:World} {l:List Value} {v:Jb} (h:JobV w l v):∀ u ∈ l,u.oneCell'=true:=by
 obtain ⟨xw,xd,xp,rfl,h1,h2,h3,_⟩:=h;intro u hu
 simp [pH] at hu
 rcases hu with rfl | rfl | rfl | rfl | rfl | rfl | rfl <;> first | rfl | exact mQ h1 | exact m7 h2 | exact m7 h3
theorem shp_one {w:World} {l:List Value} {v:Shp} (h:ShpV w l v):∀ u ∈ l,u.oneCell'=true:=by
 obtain ⟨xw,xd,xp,rfl,h1,h2,h3,_⟩:=h;intro u hu
 simp [rP] at hu
 rcases hu with rfl | rfl | rfl | rfl | rfl | rfl | rfl | rfl | rfl <;> first | rfl | exact mQ h1 | exact mQ h2 | exact m7 h3
theorem brk_one {w:World} {l:List Value} {v:Brk} (h:BrkV w l v):∀ u ∈ l,u.oneCell'=true:=by
 obtain ⟨x,rfl,h1⟩:=h;intro u hu;simp at hu
 rcases hu with rfl | rfl <;> first | rfl | exact mQ h1
theorem eB {t T z y:Nat} {i0:TypeInfo} {zv:Value} (ht:Try.prog.underlying t=some (.slice T)) (hi:Try.prog.info? T=some i0) (hz:i0.zero=some zv) (hsz:i0.size=z) (hby:i0.bytes=y) (hzs:zv.cells.size=z) (hz0:0<z) (hy0:0<y)
  {o:Oper} {s x:Operand} (ho:o.op=.call { callee:=.builtin .append,args:=#[s,x],argTypes:=#[t,t] }) {ev:Operand→Value} {w:World} {B:Nat} {v vs:Value} (hown:w.ownsRow B T z v 0 []) (hs:ev s=v)
  (hx:ev x=vs) {m:Nat} {xs:List Value} (hl:xs.length=m*z) (hsrc:Src w vs m xs y) (hB:B≤w.heap.size) :
  ∃ v' w',(execOp ev o).run Try.prog w=.ok (.value v') w'∧w'.ownsRow B T z v' m xs∧w.grownBy w' v.ownBlock∧(v'.ownBlock=v.ownBlock∨v'.ownBlock=some w.heap.size):=by
 obtain ⟨ad,c,e,h1,h2,h3,h4⟩:=hsrc;have hm:m≤m*y:=Nat.le_mul_of_pos_right m hy0;exact run_app ht hi hz hsz hby hzs hz0 ho hown hs (hx.trans e) h1 hl h2 h3 (by unfold maxLen;omega) h4 hB
end Go.Proofs.Ytgjpkpmikbpcnaa
namespace Go.Proofs.Ytgjpkpmikbpcnaa
open Go.RowKit
theorem ydQ {w:World} {L:List Win} {n c:Nat} {ad:Addr} {ops:Array Oper} {rest:List Oper} {o:Oper} {a:Act} {Q:Exit→Act→World→Prop} (s x:Operand)
  (hgd:o.guard=none) (ho:o.op=.call { callee:=.builtin .append,args:=#[s,x],argTypes:=#[43,43] })
  (hs:a.eval s=.slice (some ⟨w.heap.size,0,none⟩) 0 0) (hx:a.eval x=.slice (some ad) n c) (hW:WinsV w (.slice (some ad) L.length c) L) (hn:L.length=n)
  (h:∀ v' w',w'.ownsRow w.heap.size 61 2 v' n (cX L)→Below w.heap.size w w'→wpList Try.prog ops Q rest (a.put o.dst v') w'):wpList Try.prog ops Q (o::rest) a (w.alloc (.cells #[] 61)):=by
 obtain ⟨i0,hi0,hy0,hy1,hy2⟩:=info_parts jR;have fA:Below w.heap.size w (w.alloc (.cells #[] 61)):=Mn.a;have hown:(w.alloc (.cells #[] 61)).ownsRow w.heap.size 61 2 (.slice (some ⟨w.heap.size,0,none⟩) 0 0) 0 []:=World.ownsRow_made w #[] 0 (Nat.le_refl _) (by decide) (by simp);obtain ⟨ad',c',e,_,h2,h3,h4⟩:=kM hW (w:=w.alloc (.cells #[] 61)) fA.block;injection e with e1 _ e2;subst e1 e2;rw [hn] at h4;refine wpList_append_own _ hgd s x 43 ho w.heap.size 61 i0 _ 2 16 Try.underlying43 hi0 hy0 hy1 hy2 rfl (by decide) _ 0 [] hs hown ad n c (cX L) hx (by rw [iC,hn]) (h2 ad rfl) h3 (by unfold maxLen;omega) (by omega) fA.size ?_;intro v' w' h5 h6 _;rw [Nat.zero_add] at h5;exact h v' w' h5 (fA.grown h6 fA.size fun q hq=>(hown.lt q hq).1)
set_option maxRecDepth 100000 in
set_option maxHeartbeats 3200000 in
theorem oQ {w:World} {v:Value} {L:List Win} (h:WinsV w v L):Calls Try.prog 54 #[v] w fun e w'=>∃ u,e=.returned u∧w'.ownsRow w.heap.size 61 2 u L.length (cX L)∧Below w.heap.size w w':=by
 obtain ⟨a,c,rfl⟩:=h.shape;have H:=hide h;obtain ⟨n,hn⟩:∃ n,L.length=n:=⟨_,rfl⟩;have HN:=hide hn;clear h;rw [hn];clear hn
 cases a with
 | none =>
  have hnil:∀ W,(binOp .eql 43 (.slice none n c) (.slice none 0 0)).run Try.prog W=.ok (.bool true) W:=fun W=>by kernel_rfl
  have h0:n=0:=by
   obtain ⟨a,c,e,_,hA⟩:=H.out;injection e with e1 _ _;subst e1;have:=rY hA;rw [← HN.out];exact this
  have hL:L=[]:=List.length_eq_zero_iff.1 (HN.out.trans h0);subst h0;go_enter Try.func54,Try.ntmps54;go_wp2;go_ret;exact ⟨_,rfl,by subst hL;exact ⟨rfl,.inl ⟨rfl,rfl⟩⟩,Below.refl _ _⟩
 | some a =>
  have hnil:∀ W,(binOp .eql 43 (.slice (some a) n c) (.slice none 0 0)).run Try.prog W=.ok (.bool false) W:=fun W=>by kernel_rfl
  go_enter Try.func54,Try.ntmps54;go_wp2_with (at_builtin;refine ydQ (.tmp 5) (.tmp 6) rfl rfl rfl rfl H.out HN.out ?_;intro u1 w1 k1 k2;have K1:=hide k1;have K2:=hide k2;clear k1 k2);go_ret;exact ⟨_,rfl,K1.out,K2.out⟩
end Go.Proofs.Ytgjpkpmikbpcnaa
