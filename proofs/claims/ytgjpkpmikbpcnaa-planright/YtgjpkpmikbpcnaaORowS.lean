import Derived.Maps.AppendAt
import Derived.Test.YtgjpkpmikbpcnaaOCelG
namespace Go.Proofs.Ytgjpkpmikbpcnaa
open Go.RowKit
def Loc {α:Type} (Sat:World→Value→α→Prop):Prop:=∀ (w w':World) (y:Value) (x:α),Sat w y x→(∀ g,y.ownBlock=some g→w'.heap[g]? = w.heap[g]?)→Sat w' y x
def InH (w:World) (y:Value):Prop:=∀ g,y.ownBlock=some g→g<w.heap.size
def Apt (y y':Value):Prop:=∀ g,y.ownBlock=some g→y'.ownBlock≠some g
def Sep (ys:List Value):Prop:=ys.Pairwise Apt
structure RowS {α:Type} (e z:Nat) (enc:α→Value→List Value) (Sat:World→Value→α→Prop) (w:World) (base:Nat) (v:Value) (L:List α) (ys:List Value):Prop where
 len:ys.length=L.length
 own:w.ownsRow base e z v L.length (List.zipWith enc L ys).flatten
 sat:∀ (k:Nat) x y,L[k]? = some x→ys[k]? = some y→Sat w y x∧InH w y∧Apt v y
section
variable {α:Type} {e z:Nat} {enc:α→Value→List Value} {Sat:World→Value→α→Prop} {w w':World} {base:Nat} {v:Value} {L:List α} {ys:List Value}
theorem RowS.of_block (h:RowS e z enc Sat w base v L ys) (hL:Loc Sat) (hs:w.heap.size≤w'.heap.size) (hv:∀ g,v.ownBlock=some g→w'.heap[g]? = w.heap[g]?) (hy:∀ y ∈ ys,∀ g,y.ownBlock=some g→w'.heap[g]? = w.heap[g]?):RowS e z enc Sat w' base v L ys :=
 ⟨h.len,own_of_block h.own hv,fun k x y hx hk=>by
  obtain ⟨h1,h2,h3⟩:=h.sat k x y hx hk;exact ⟨hL w w' y x h1 (hy y (List.mem_of_getElem? hk)),fun g hg=>Nat.lt_of_lt_of_le (h2 g hg) hs,h3⟩⟩
theorem RowS.inH (h:RowS e z enc Sat w base v L ys):∀ y ∈ ys,InH w y:=fun y hy=>by
 obtain ⟨k,hk⟩:=List.getElem?_of_mem hy;have hl:=(List.getElem?_eq_some_iff.1 hk).1;rw [h.len] at hl;exact (h.sat k _ y (List.getElem?_eq_getElem hl) hk).2.1
theorem RowS.on (h:RowS e z enc Sat w base v L ys) (hL:Loc Sat) (f:Below w.heap.size w w'):RowS e z enc Sat w' base v L ys:=h.of_block hL f.size (fun g hg=>f.block g (h.own.lt g hg).2) (fun y hy g hg=>f.block g (h.inH y hy g hg))
theorem RowS.shape (h:RowS e z enc Sat w base v L ys):∃ a c,v=.slice a L.length c:=by
 rcases h.own.2 with ⟨e1,e2⟩ | ⟨g,cap,cur,e1,_⟩
 ·exact ⟨none,0,by rw [e1,e2]⟩
 ·exact ⟨_,cap,e1⟩
theorem zip_len (hz:∀ x y,(enc x y).length=z) (L:List α) (ys:List Value):∀ l ∈ List.zipWith enc L ys,l.length=z:=by
 intro l hl;rw [List.zipWith_eq_zipWith_take_min] at hl;obtain ⟨i,hi⟩:=List.getElem?_of_mem hl;rw [List.getElem?_zipWith] at hi
 split at hi
 ·injection hi with hi;rw [← hi];exact hz _ _
 ·cases hi
theorem RowS.cells {g cap n:Nat} (hz:∀ x y,(enc x y).length=z) (h:RowS e z enc Sat w base (.slice (some ⟨g,0,none⟩) n cap) L ys) {k:Nat} {x:α} {y:Value} (hx:L[k]? = some x) (hy:ys[k]? = some y) (j:Nat) (hj:j<z):w.cell? ⟨g,k*z+j,none⟩=(enc x y)[j]?:=by
 have h1:(List.zipWith enc L ys).flatten[k*z+j]? = (enc x y)[j]?:=dP (zip_len hz L ys) k j _ (by rw [List.getElem?_zipWith,hx,hy]) hj;have h2:(enc x y)[j]? = some ((enc x y)[j]'(by rw [hz];exact hj)):=List.getElem?_eq_getElem _;have:=World.ownsRow.cells (g:=g) h.own rfl (k*z+j) _ (h1.trans h2);rw [add0] at this;rw [this,h2]
theorem RowS.some (h:RowS e z enc Sat w base v L ys) {k:Nat} {x:α} (hx:L[k]? = some x):∃ y g cap,ys[k]? = some y∧v=.slice (some ⟨g,0,none⟩) L.length cap∧base≤g∧g<w.heap.size:=by
 have hk:=(List.getElem?_eq_some_iff.1 hx).1
 rcases h.own.2 with ⟨_,e2⟩ | ⟨g,cap,cur,e1,hb,_⟩
 ·omega
 ·exact ⟨_,g,cap,List.getElem?_eq_getElem (by rw [h.len];exact hk),e1,hb,(h.own.lt g (by rw [e1];rfl)).2⟩
theorem ydS (L:List α) (ys:List Value) (h:ys.length=L.length) (x:α) (y:Value):(List.zipWith enc (L ++ [x]) (ys ++ [y])).flatten=(List.zipWith enc L ys).flatten ++ enc x y:=by
 rw [List.zipWith_append h.symm];simp
theorem RowS.nil (h:w.ownsRow base e z v 0 []):RowS e z enc Sat w base v [] []:=⟨rfl,h,fun k x y hx=>by simp at hx⟩
end
theorem vO {w:World} {t ty e:TypeId} {i:TypeInfo} {z:Value} (ht:Try.prog.underlying t=some (.slice e)) (hi:Try.prog.info? e=some i) (hz:i.zero=some z) {base n m c:Nat} {v:Value} {xs news:List Value} (hown:w.ownsRow base e i.size v n xs)
  {ad:Addr} (hl:news.length=m*i.size) (hnews:∀ j u,news[j]? = some u→w.cell? (ad.add j)=some u) (h1:∀ u ∈ news,u.oneCell'=true) (hm:0<m) (h63:n+m≤maxLen) (hbytes:(n+m)*i.bytes≤140737488355328) {v':Value} {w':World}
  (hr:(Builtin.append_ #[t,t] ty #[v,.slice (some ad) m c]).run Try.prog w=.ok v' w'):v'.ownBlock=v.ownBlock∨(v'.ownBlock=some w.heap.size∧w.grownBy w' none):=by
 have hsmall:n+m≤9223372036854775807:=by simp only [maxLen] at h63;omega
 have far:∀ (o:Obj),w.grownBy (w.drew.alloc o) none:=fun o=>⟨rfl,rfl,rfl,by simp,fun k hk _=>Below.heap_alloc w.drew _ k hk⟩
 rcases hown.2 with ⟨rfl,rfl⟩ | ⟨g,cap,cur,rfl,_,hg,hnc,hcm,hcs,htake⟩
 ·rw [Nat.zero_add] at hbytes;have hr2:=run_append_nil (P:=Try.prog) w t ty e i z ht hi hz ad m c news hl hnews hm (by omega) (by omega);rw [hr2] at hr;injection hr with h2 h3;subst h2 h3;exact .inr ⟨rfl,far _⟩
 ·by_cases hroom:n+m≤cap
  ·have hfit:n*i.size+news.length≤cur.size:=by rw [hl,hcs,← Nat.add_mul];exact Nat.mul_le_mul_right _ hroom
   have hr2:=run_append_room (P:=Try.prog) w t ty e i ht hi g n cap cur hg ad m c news hl hnews h1 hroom hfit;rw [hr2] at hr;injection hr with h2 h3;subst h2;exact .inl rfl
  ·have holds:∀ j u,xs[j]? = some u→w.cell? ((⟨g,0,none⟩:Addr).add j)=some u:=hown.cells (g:=g) rfl;have hr2:=run_append_grow (P:=Try.prog) w t ty e i z ht hi hz ⟨g,0,none⟩ n cap xs hown.1 holds ad m c news hl hnews (by omega) (by omega) (growslice_fits (by omega) hbytes);rw [hr2] at hr;injection hr with h2 h3;subst h2 h3;exact .inr ⟨rfl,far _⟩
theorem pY {α:Type} {e z t bytes:Nat} {enc:α→Value→List Value} {Sat:World→Value→α→Prop} (hz:∀ x y,(enc x y).length=z) (hzp:0<z) (hL:Loc Sat) {zero:Value} (hinfo:(Try.prog.info? e).map (fun i=>(i.zero,i.size,i.bytes))=some (some zero,z,bytes)) (hzz:zero.cells.size=z) (ht:Try.prog.underlying t=some (.slice e))
  {w:World} {base k vc B:Nat} {fr:Nat × Nat} {va:Option Addr} {L:List α} {ys:List Value} {x:α} {y:Value} {cells:Array Value} {o:Oper} {a:Act} {K:Act→World→Prop} {Q:Exit→Act→World→Prop} (s xo:Operand)
  (ho:o.op=.call { callee:=.builtin .append,args:=#[s,xo],argTypes:=#[t,t] })
  (hs:a.eval s=.slice va k vc) (hx:a.eval xo=.slice (some ⟨B,0,none⟩) 1 1) (hblk:w.heap[B]? = some (.cells cells e fr)) (hrow:RowS e z enc Sat w base (.slice va k vc) L ys) (hk:L.length=k) (hk2:(k+1)*bytes≤140737488355328) (hkm:k≤1000000) (hb:base≤w.heap.size)
  (hcs:cells.toList=enc x y) (h1:∀ u ∈ enc x y,u.oneCell'=true) (hsat:Sat w y x) (hin:InH w y) (hap:Apt (.slice va k vc) y)
  (h:∀ g' cap' w',RowS e z enc Sat w' base (.slice (some ⟨g',0,none⟩) (k+1) cap') (L ++ [x]) (ys ++ [y])→w.grownBy w' (Value.ownBlock (.slice va k vc))→(some g'=Value.ownBlock (.slice va k vc)∨(g'=w.heap.size∧w.grownBy w' none))→K (a.put o.dst (.slice (some ⟨g',0,none⟩) (k+1) cap')) w'):o.wp Try.prog a w K Q:=by
 obtain ⟨i0,hi0,hy0,hy1,hy2⟩:=info_parts hinfo;have hown:=hrow.own;rw [hk] at hown
 have hnews:∀ (j:Nat) u,(enc x y)[j]? = some u→w.cell? ((⟨B,0,none⟩:Addr).add j)=some u:=by
  intro j u hj;rw [add0,cell_of_row _ _ _ _ _ _ hblk];rw [← hcs] at hj;rw [← Array.getElem?_toList];exact hj
 have hl:(enc x y).length=1*z:=by rw [hz];omega
 obtain ⟨v',w',hr,r1,r2,_,_⟩:=run_append_own_at (P:=Try.prog) w base t o.type e i0 zero z bytes ht hi0 hy0 hy1 hy2 hzz hzp _ k _ hown ⟨B,0,none⟩ 1 1 (enc x y) hl hnews h1 (by unfold maxLen;omega) hk2 hb;have hwhere:=vO (w:=w) (ty:=o.type) (c:=1) ht hi0 hy0 (base:=base) (by rw [hy1];exact hown) (by rw [hy1];exact hl) hnews h1 (by decide) (by unfold maxLen;omega) (by rw [hy2];exact hk2) hr
 have hv':∃ g' cap',v'=.slice (some ⟨g',0,none⟩) (k+1) cap':=by
  rcases r1.2 with ⟨_,e2⟩ | ⟨g',cap',cur,e1,_⟩
  ·omega
  ·exact ⟨g',cap',e1⟩
 obtain ⟨g',cap',rfl⟩:=hv'
 have hw2:some g'=Value.ownBlock (.slice va k vc)∨(g'=w.heap.size∧w.grownBy w' none):=by
  rcases hwhere with e1 | ⟨e1,e2⟩
  ·exact .inl e1
  ·exact .inr ⟨by injection e1,e2⟩
 have keep:∀ (u:Value) (x':α),Sat w u x'→InH w u→Apt (.slice va k vc) u→Sat w' u x'∧InH w' u∧Apt (.slice (some ⟨g',0,none⟩) (k+1) cap') u:=by
  intro u x' q1 q2 q3;refine ⟨hL w w' u x' q1 fun g hg=>r2.block g (q2 g hg) fun e1=>?_,fun g hg=>Nat.lt_of_lt_of_le (q2 g hg) r2.size,fun g hg hu=>?_⟩
  ·exact q3 g e1.symm hg
  ·have hgg:g'=g:=by injection hg
   subst hgg
   rcases hw2 with e1 | e1
   ·exact q3 g' e1.symm hu
   ·have:=q2 g' hu;omega
 have hfin:K (a.put o.dst (.slice (some ⟨g',0,none⟩) (k+1) cap')) w':=by
  refine h g' cap' w' ⟨?_,?_,?_⟩ r2 hw2
  ·rw [List.length_append,List.length_append,hrow.len];rfl
  ·rw [List.length_append,hk,ydS _ _ hrow.len];exact r1
  ·intro q x' y' hx' hy'
   by_cases hq:q<L.length
   ·rw [List.getElem?_append_left hq] at hx';rw [List.getElem?_append_left (by rw [hrow.len];exact hq)] at hy';obtain ⟨q1,q2,q3⟩:=hrow.sat q x' y' hx' hy';exact keep y' x' q1 q2 q3
   ·have hq2:=(List.getElem?_eq_some_iff.1 hx').1;rw [List.length_append] at hq2;have hqe:q=L.length:=by simp at hq2;omega
    subst hqe;rw [List.getElem?_append_right (Nat.le_refl _),Nat.sub_self] at hx';rw [← hrow.len,List.getElem?_append_right (Nat.le_refl _),Nat.sub_self] at hy';injection hx' with hx';injection hy' with hy';subst hx' hy';exact keep y x hsat hin hap
 unfold Oper.wp execOp;simp only [ho,resolve,invoke,builtin,Sem.run_bind,Sem.run_pure,Result.andThen_ok,List.map_toArray,List.map_cons,List.map_nil,hs,hx,hr];exact hfin
theorem iD {α:Type} {e z t bytes:Nat} {enc:α→Value→List Value} {Sat:World→Value→α→Prop} (hz:∀ x y,(enc x y).length=z) (hzp:0<z) (hL:Loc Sat) {zero:Value} (hinfo:(Try.prog.info? e).map (fun i=>(i.zero,i.size,i.bytes))=some (some zero,z,bytes)) (hzz:zero.cells.size=z) (ht:Try.prog.underlying t=some (.slice e))
  {w:World} {base k vc B:Nat} {fr:Nat × Nat} {va:Option Addr} {L:List α} {ys:List Value} {x:α} {y:Value} {cells:Array Value} {o:Oper} {a:Act} {ops:Array Oper} {rest:List Oper} {Q:Exit→Act→World→Prop} (s xo:Operand) (hgd:o.guard=none)
  (ho:o.op=.call { callee:=.builtin .append,args:=#[s,xo],argTypes:=#[t,t] })
  (hs:a.eval s=.slice va k vc) (hx:a.eval xo=.slice (some ⟨B,0,none⟩) 1 1) (hblk:w.heap[B]? = some (.cells cells e fr)) (hrow:RowS e z enc Sat w base (.slice va k vc) L ys) (hk:L.length=k) (hk2:(k+1)*bytes≤140737488355328) (hkm:k≤1000000) (hb:base≤w.heap.size)
  (hcs:cells.toList=enc x y) (h1:∀ u ∈ enc x y,u.oneCell'=true) (hsat:Sat w y x) (hin:InH w y) (hap:Apt (.slice va k vc) y)
  (h:∀ g' cap' w',RowS e z enc Sat w' base (.slice (some ⟨g',0,none⟩) (k+1) cap') (L ++ [x]) (ys ++ [y])→w.grownBy w' (Value.ownBlock (.slice va k vc))→(some g'=Value.ownBlock (.slice va k vc)∨(g'=w.heap.size∧w.grownBy w' none))→wpList Try.prog ops Q rest (a.put o.dst (.slice (some ⟨g',0,none⟩) (k+1) cap')) w'):wpList Try.prog ops Q (o::rest) a w :=
 wpList_plain hgd fun _ hK=>pY hz hzp hL hinfo hzz ht s xo ho hs hx hblk hrow hk hk2 hkm hb hcs h1 hsat hin hap fun g' cap' w' r1 r2 r3=>hK _ _ (h g' cap' w' r1 r2 r3)
theorem jK {α:Type} {e z t bytes:Nat} {enc:α→Value→List Value} {Sat:World→Value→α→Prop} (hz:∀ x y,(enc x y).length=z) (hzp:0<z) (hL:Loc Sat) {zero:Value} (hinfo:(Try.prog.info? e).map (fun i=>(i.zero,i.size,i.bytes))=some (some zero,z,bytes)) (hzz:zero.cells.size=z) (ht:Try.prog.underlying t=some (.slice e))
  {w:World} {base k vc B:Nat} {fr:Nat × Nat} {va:Option Addr} {L:List α} {ys:List Value} {x:α} {y:Value} {cells:Array Value} {o:Oper} {a:Act} {ops:Array Oper} {E:Prop} {K:Act→World→Prop} {Q:Exit→Act→World→Prop} (s xo:Operand) (hgd:o.guard=none)
  (ho:o.op=.call { callee:=.builtin .append,args:=#[s,xo],argTypes:=#[t,t] })
  (hs:a.eval s=.slice va k vc) (hx:a.eval xo=.slice (some ⟨B,0,none⟩) 1 1) (hblk:w.heap[B]? = some (.cells cells e fr)) (hrow:RowS e z enc Sat w base (.slice va k vc) L ys) (hk:L.length=k) (hk2:(k+1)*bytes≤140737488355328) (hkm:k≤1000000) (hb:base≤w.heap.size)
  (hcs:cells.toList=enc x y) (h1:∀ u ∈ enc x y,u.oneCell'=true) (hsat:Sat w y x) (hin:InH w y) (hap:Apt (.slice va k vc) y)
  (h:∀ g' cap' w',RowS e z enc Sat w' base (.slice (some ⟨g',0,none⟩) (k+1) cap') (L ++ [x]) (ys ++ [y])→w.grownBy w' (Value.ownBlock (.slice va k vc))→(some g'=Value.ownBlock (.slice va k vc)∨(g'=w.heap.size∧w.grownBy w' none))→K (a.put o.dst (.slice (some ⟨g',0,none⟩) (k+1) cap')) w'):if Region.wanted o (yielded ops a.tmps)=true then Oper.wp Try.prog o a w K Q else E:=by
 have hw:Region.wanted o (yielded ops a.tmps)=true:=by simp [Region.wanted,hgd]
 rw [if_pos hw];exact pY hz hzp hL hinfo hzz ht s xo ho hs hx hblk hrow hk hk2 hkm hb hcs h1 hsat hin hap h
theorem pU {w:World} {y u:Value} (h:InH w y) (hu:∀ g,u.ownBlock=some g→w.heap.size≤g):Apt y u:=fun g hg hg'=>by
 have:=h g hg;have:=hu g hg'
 omega
theorem wP {ys:List Value} {u:Value} (h:Sep ys) (hu:∀ y ∈ ys,Apt y u):Sep (ys ++ [u]):=List.pairwise_append.2 ⟨h,List.pairwise_singleton _ _,fun y hy u' hu'=>by rw [List.mem_singleton] at hu';rw [hu'];exact hu y hy⟩
theorem aF (w:World) (o:Obj):(w.alloc o).heap[w.heap.size]? = some o:=heap_alloc_new w o
theorem RowS.alloc {α:Type} {e z:Nat} {enc:α→Value→List Value} {Sat:World→Value→α→Prop} {w:World} {base:Nat} {v:Value} {L:List α} {ys:List Value} (h:RowS e z enc Sat w base v L ys) (hL:Loc Sat) (o:Obj):RowS e z enc Sat (w.alloc o) base v L ys:=h.on hL ((Below.refl _ _).alloc (Nat.le_refl _) o)
theorem InH.on {w w':World} {y:Value} (h:InH w y) (f:Below w.heap.size w w'):InH w' y:=fun g hg=>Nat.lt_of_lt_of_le (h g hg) f.size
theorem m5 {e z t bytes:Nat} {zero:Value} (hinfo:(Try.prog.info? e).map (fun i=>(i.zero,i.size,i.bytes))=some (some zero,z,bytes)) (ht:Try.prog.underlying t=some (.slice e)) {wr:World} {ops:Array Oper} {rest:List Oper} {o:Oper} {a:Act} {Q:Exit→Act→World→Prop} (l c:Operand) (hg:o.guard=none)
  (hop:o.op=Op.makeSlice t l c) {n:Nat} {C:Int} (hl:a.eval l=.int .i64 0) (hc:a.eval c=.int .i64 C) (hC:C=(n:Int)) (hby:bytes*n≤281474976710656) (hn:n≤1000000)
  (hK:∀ w',w'.ownsRow wr.heap.size e z (.slice (some ⟨wr.heap.size,0,none⟩) 0 n) 0 []→Below wr.heap.size wr w'→wr.heap.size<w'.heap.size→wpList Try.prog ops Q rest (a.put o.dst (.slice (some ⟨wr.heap.size,0,none⟩) 0 n)) w'):wpList Try.prog ops Q (o::rest) a wr:=by
 obtain ⟨i0,hi0,hy0,hy1,hy2⟩:=info_parts hinfo;refine wpList_make_own wr hg l c t hop wr.heap.size e i0 zero z ht hi0 hy0 hy1 .i64 .i64 C n hl hc hC (by rw [hy2];exact hby) (by unfold maxLen;omega) (Nat.le_refl _) fun w' h1 h2=>hK w' h1 ((Below.refl _ _).grown h2 (Nat.le_refl _) fun q hq=>by cases hq) (h1.lt _ rfl).2
theorem dU:Loc fun (w:World) (y:Value) (s:Stp)=>WinsV w y s.wins:=by
 rintro w w' y s ⟨a,c,rfl,h1,h2⟩ hb;refine ⟨a,c,rfl,h1,h2.len,h2.max,fun k hk=>?_⟩;obtain ⟨b,off,rfl,e0,e1⟩:=h2.cell k hk;have hh:=hb b rfl;exact ⟨b,off,rfl,(World.cell?_of_block (w:=w) (a:=⟨b,_,none⟩) hh).trans e0,(World.cell?_of_block (w:=w) (a:=⟨b,_,none⟩) hh).trans e1⟩
theorem qX (base:Nat):Loc fun (w:World) (y:Value) (xs:List Int)=>IRow w base y xs:=fun _ _ _ _ h hb=>own_of_block h hb
def encL (_:List Int) (y:Value):List Value:=[y]
def LdS (w:World) (base:Nat) (v:Value) (LL:List (List Int)) (ys:List Value):Prop:=RowS 22 1 encL (fun w y xs=>IRow w base y xs) w base v LL ys
def StS (w:World) (base:Nat) (v:Value) (L:List Stp) (ys:List Value):Prop:=RowS 45 3 kJ (fun w y s=>WinsV w y s.wins) w base v L ys
theorem StS.stps {w:World} {base:Nat} {v:Value} {L:List Stp} {ys:List Value} (h:StS w base v L ys) (hb:L.length*40≤140737488351232):eT w v L:=by
 obtain ⟨a,c,rfl⟩:=RowS.shape h;refine ⟨a,c,rfl,fun ha=>?_,hb,fun k hk=>?_⟩
 ·rcases h.own.2 with ⟨e1,_⟩ | ⟨g,cap,cur,e1,_⟩
  ·injection e1
  ·rw [ha] at e1;cases e1
 ·have hx:L[k]? = some L[k]:=List.getElem?_eq_getElem hk;obtain ⟨y,g,cap,hy,e1,_,_⟩:=RowS.some h hx;injection e1 with e1 _ e2;subst e1 e2;refine ⟨g,0,kJ L[k] y,rfl,rfl,fun j hj=>?_,y,?_,?_⟩
  ·rw [Nat.zero_add];exact RowS.cells (z:=3) (enc:=kJ) (fun _ _=>rfl) h hx hy j hj
  ·rw [List.getD_eq_getElem?_getD,hx];rfl
  ·rw [List.getD_eq_getElem?_getD,hx];exact (h.sat k _ y hx hy).1
theorem yfB:(Try.prog.info? 22).map (fun i=>(i.zero,i.size,i.bytes))=some (some (.slice none 0 0),1,24):=by kernel_rfl
theorem uZ:(Try.prog.info? 45).map (fun i=>(i.zero,i.size,i.bytes))=some (some (.agg #[.int .i64 0,.int .i64 0,.slice none 0 0]),3,40):=by kernel_rfl
theorem vP {wr:World} {base k vc:Nat} {va:Option Addr} {LL:List (List Int)} {ys:List Value} {xs:List Int} {ua:Option Addr} {un uc:Nat} {ops:Array Oper} {rest:List Oper} {o:Oper} {a:Act} {Q:Exit→Act→World→Prop} (s xo:Operand) (hgd:o.guard=none)
  (ho:o.op=.call { callee:=.builtin .append,args:=#[s,xo],argTypes:=#[79,79] })
  (hs:a.eval s=.slice va k vc) (hx:a.eval xo=.slice (some ⟨wr.heap.size,0,none⟩) 1 1) (hrow:LdS wr base (.slice va k vc) LL ys) (hk:LL.length=k) (hk2:k≤1000) (hb:base≤wr.heap.size) (hu:IRow wr base (.slice ua un uc) xs) (hap:Apt (.slice va k vc) (.slice ua un uc))
  (h:∀ g' cap' w',LdS w' base (.slice (some ⟨g',0,none⟩) (k+1) cap') (LL ++ [xs]) (ys ++ [.slice ua un uc])→Below base wr w'→wr.grownBy w' (Value.ownBlock (.slice va k vc))→wpList Try.prog ops Q rest (a.put o.dst (.slice (some ⟨g',0,none⟩) (k+1) cap')) w'):wpList Try.prog ops Q (o::rest) a (wr.alloc (.cells #[.slice ua un uc] 22)):=by
 have fA:Below wr.heap.size wr (wr.alloc (.cells #[.slice ua un uc] 22)):=Mn.a;refine iD (e:=22) (z:=1) (enc:=encL) (fun _ _=>rfl) (by decide) (qX base) yfB rfl Try.underlying79 s xo hgd ho hs hx (aF wr _) (RowS.alloc hrow (qX base) _) hk (by omega) (by omega) (by simp;omega) (x:=xs) (y:=.slice ua un uc) rfl (by intro u hu;simp [encL] at hu;subst hu;rfl) (hu.later (Nat.le_refl _) fA) (InH.on (fun g hg=>(World.ownsRow.lt hu g hg).2) fA) hap ?_;intro g' cap' w' r1 r2 _;refine h g' cap' w' r1 ((fA.mono hb).grown r2 (by simp;omega) fun q hq=>(World.ownsRow.lt hrow.own q hq).1) ⟨r2.os,r2.tape,r2.output,Nat.le_trans fA.size r2.size,fun q hq hn=>(r2.block q (Nat.lt_of_lt_of_le hq fA.size) hn).trans (fA.block q hq)⟩
end Go.Proofs.Ytgjpkpmikbpcnaa
