import Derived.Test.YtgjpkpmikbpcnaaOCpBG
namespace Go.Proofs.Ytgjpkpmikbpcnaa
open Go.RowKit
def G4 (gv gj gs gb:Nat):Nat→Prop:=fun g=>G3 gv gj gs g∨g=gb
def PVb (w0 w:World) (base gv gj gs gb i j:Nat) (k:Nat) (l:List Value) (v:Veh):Prop :=
 if k<i then OVeh w0 w base (G4 gv gj gs gb) (G4 gv gj gs gb) v.brks.length l v else if k=i then OVeh w0 w base (G4 gv gj gs gb) (G3 gv gj gs) j l v else VehV w0 l v
abbrev CpB (w0 w:World) (bx gv gj gs gb:Nat) (p:Prb) (x:aU) (i j:Nat):Prop:=CpG w0 w bx gv gj gs (G4 gv gj gs gb) (PVb w0 w (bx+2) gv gj gs gb i j) (mP w0 w (bx+2) (G4 gv gj gs gb) 0) (nQ w0 w (bx+2) (G4 gv gj gs gb) 0) p x
theorem yeP {w0 w w':World} {base:Nat} {G G':Nat→Prop} {k:Nat} {l:List Value} {j:Jb} (h:mP w0 w base G 0 k l j):mP w0 w' base G' 0 k l j:=by
 unfold mP at *;rw [if_neg (by omega)] at *;exact h
theorem yaT {w0 w w':World} {base:Nat} {G G':Nat→Prop} {k:Nat} {l:List Value} {j:Shp} (h:nQ w0 w base G 0 k l j):nQ w0 w' base G' 0 k l j:=by
 unfold nQ at *;rw [if_neg (by omega)] at *;exact h
structure Stp1 (w w2:World) (sb:Nat):Prop where
 os:w2.os=w.os
 tape:w2.tape=w.tape
 output:w2.output=w.output
 size:w.heap.size≤w2.heap.size
 block:∀ q,q<w.heap.size→q≠sb→w2.heap[q]? = w.heap[q]?
theorem Stp1.low {w0 w w2:World} {sb:Nat} (h:Stp1 w w2 sb) (hb:Below w0.heap.size w0 w) (hs:w0.heap.size≤sb):Below w0.heap.size w0 w2 :=
 ⟨h.os.trans hb.os,h.tape.trans hb.tape,h.output.trans hb.output,Nat.le_trans hb.size h.size,fun q hq=>(h.block q (by have:=hb.size;omega) (by omega)).trans (hb.block q hq)⟩
theorem Stp1.kp {w w2:World} {sb base:Nat} {G G':Nat→Prop} (h:Stp1 w w2 sb) (hs:G sb) (hG:∀ g,g<w.heap.size→G' g→G g):Kp w w2 base G G':=fun g h1 _ h3=>⟨h.block g h3 fun e=>h1 (e ▸ hs),fun e=>h1 (hG g h3 e)⟩
theorem jO {w:World} {B e z n:Nat} {v:Value} {xs:List Value} {G:Nat→Prop} (h:w.ownsRow B e z v n xs) (hG:∀ g,G g→g<B):NI G v:=fun g hg h2=>by
 have:=(h.lt g hg).1;have:=hG g h2
 omega
theorem veh_set (v:Veh) (xc xb a b:Value):((kF v xc xb).set 2 a).set 10 b=kF v a b:=rfl
theorem veh_len (v:Veh) (xc xb:Value):(kF v xc xb).length=11:=rfl
section
variable {w0 w w2:World} {bx gv gj gs gb:Nat} {p:Prb} {x:aU}
theorem CpG.veh {i n cap:Nat} {v:Veh} {A:Array Value} {R RB:List (List Value)} {xc xb xc' xb':Value} (h:CpS w0 w bx gv gj gs p x i 0 0) (hv:p.vs[i]? = some v) (hxv:x.v=.slice (some ⟨gv,0,none⟩) n cap) (hn:p.vs.length=n)
  (hAs:A.size=cap*11) (hAt:A.toList.take (n*11)=R.flatten)
  (h1:w.ownsRow (bx+2) 86 11 x.v p.vs.length R.flatten) (h2:R.length=p.vs.length) (h3:p.vs.length*120≤140737488351232) (h5:∀ k a,p.vs[k]? = some a→∃ l,R[k]? = some l∧l.length=11∧(∀ u ∈ l,u.oneCell'=true)∧pJ w0 w (bx+2) (G3 gv gj gs) i k l a)
  (hl:R[i]? = some (kF v xc xb)) (hstp:Stp1 w w2 gv) (hsb:w2.heap[gv]? = some (.cells ((A.setIfInBounds (i*11+2) xc').setIfInBounds (i*11+10) xb') 86 (0,0)))
  (rc:w2.ownsRow w.heap.size 3 1 xc' v.cap.length (intsV v.cap)) (rb:w2.ownsRow w.heap.size 91 2 xb' v.brks.length RB.flatten) (hap:∀ g,xc'.ownBlock=some g→xb'.ownBlock≠some g) (hgb:xb'.ownBlock=some gb)
  (hb1:RB.length=v.brks.length) (hb2:∀ (k:Nat) (b:Brk),v.brks[k]? = some b→∃ l,RB[k]? = some l∧l.length=2∧(∀ u ∈ l,u.oneCell'=true)∧BrkV w0 l b) (bc:v.cap.length*8≤140737488351232) (bb:v.brks.length*32≤140737488351232) (hw:Wd v.skills) :
  CpB w0 w2 bx gv gj gs gb p x i 0:=by
 have gl:∀ g,G3 gv gj gs g→g<w.heap.size:=fun g hg=>by
  rcases hg with rfl | rfl | rfl
  ·obtain ⟨R,r,_⟩:=h.v;exact (r.lt _ h.ev).2
  ·obtain ⟨R,r,_⟩:=h.j;exact (r.lt _ h.ej).2
  ·obtain ⟨R,r,_⟩:=h.s;exact (r.lt _ h.es).2
 have hgb2:w.heap.size≤gb:=(rb.lt gb hgb).1;have hbv:bx+2≤gv:=by obtain ⟨R,r,_⟩:=h.v;exact (r.lt _ h.ev).1
 have g4:∀ g,g<w.heap.size→G4 gv gj gs gb g→G3 gv gj gs g:=fun g hg h=>by
  rcases h with h | h
  ·exact h
  ·omega
 have kp:Kp w w2 (bx+2) (G3 gv gj gs) (G4 gv gj gs gb):=hstp.kp (.inl rfl) g4;have sz2:=h.sz;have hR:=ORow.len h2 h5
 have hxc:NI (G4 gv gj gs gb) xc':=fun g hg hG=>by
  rcases hG with hG | rfl
  ·exact jO rc gl g hg hG
  ·exact hap g hg hgb
 have hlow:=hstp.low h.low (by have:=h.bxe;omega);refine ⟨hlow,h.bxe,Nat.le_trans h.sz hstp.size,?_,?_,h.t.kp kp,h.d.kp kp,h.ev,h.ej,h.es,h.vj,h.vs,h.js,?_,?_,?_⟩
 ·rw [hstp.block bx (by omega) (by omega)];exact h.box
 ·rw [hstp.block (bx+1) (by omega) (by omega)];exact h.res
 ·rw [hxv] at h1 ⊢;refine ORow.put h1 h2 h3 (by intro hG;exact hG.2 rfl) hn h5 hsb (by simpa using hAs) (l':=kF v xc' xb') (i:=i) ?_ (veh_len _ _ _) ?_ ?_ ?_
  ·have s1:=fM (by decide) hR hAt hl (show 2<11 by decide) xc';have s2:=fM (by decide) (lK hR (by rw [List.length_set];rfl)) s1 (List.getElem?_set_self (by have:=(List.getElem?_eq_some_iff.1 hl).1;exact this)) (show 10<11 by decide) xb';rw [s2,List.set_set,veh_set]
  ·intro u hu;obtain ⟨a1,c1,e1,_⟩:=cP rc;obtain ⟨a2,c2,e2,_⟩:=cP rb;subst e1 e2
   simp [kF] at hu
   rcases hu with rfl | rfl | rfl | rfl | rfl | rfl | rfl | rfl | rfl | rfl | rfl <;> rfl
  ·intro k l a ha hk hp;unfold pJ at hp;unfold PVb
   by_cases hki:k<i
   ·rw [if_pos hki] at hp ⊢;exact hp.kp kp
   ·rw [if_neg hki] at hp;rw [if_neg hki,if_neg hk];exact hp
  ·intro a ha;rw [hv] at ha
   cases ha
   unfold PVb;rw [if_neg (by omega),if_pos rfl];refine ⟨xc',xb',rfl,⟨bC rc h.sz,bc,hxc⟩,⟨RB,bC rb h.sz,hb1,bb,jO rb gl,fun k b hb=>?_⟩,hw⟩;obtain ⟨l,e1,e2,e3,y,rfl,e4⟩:=hb2 k b hb;exact ⟨_,e1,e2,e3,y,rfl,by rw [if_neg (by omega)];exact e4⟩
 ·exact h.j.kp (hstp.kp ⟨.inl rfl,h.vj⟩ fun g hg hG=>⟨g4 g hg hG.1,hG.2⟩) fun k l a=>yeP
 ·exact h.s.kp (hstp.kp ⟨.inl rfl,h.vs⟩ fun g hg hG=>⟨g4 g hg hG.1,hG.2⟩) fun k l a=>yaT
theorem CpG.vehEnd {i:Nat} {v:Veh} (hv:p.vs[i]? = some v) (h:CpB w0 w bx gv gj gs gb p x i v.brks.length):CpS w0 w bx gv gj gs p x (i+1) 0 0:=by
 have kp:∀ (H:Nat→Prop),Kp w w (bx+2) (fun g=>G4 gv gj gs gb g∧H g) (fun g=>G3 gv gj gs g∧H g):=fun H g h1 _ _=>⟨rfl,fun h2=>h1 ⟨.inl h2.1,h2.2⟩⟩;have kp1:Kp w w (bx+2) (G4 gv gj gs gb) (G3 gv gj gs):=fun g h1 _ _=>⟨rfl,fun h2=>h1 (.inl h2)⟩;refine ⟨h.low,h.bxe,h.sz,h.box,h.res,h.t.kp kp1,h.d.kp kp1,h.ev,h.ej,h.es,h.vj,h.vs,h.js,?_,h.j.kp (kp _) fun k l a=>yeP,h.s.kp (kp _) fun k l a=>yaT⟩;obtain ⟨R,h1,h2,h3,h4,h5⟩:=h.v;refine ⟨R,h1,h2,h3,fun g hg hG=>h4 g hg ⟨.inl hG.1,hG.2⟩,fun k a ha=>?_⟩;obtain ⟨l,e1,e2,e3,e4⟩:=h5 k a ha;refine ⟨l,e1,e2,e3,?_⟩;unfold PVb at e4;unfold pJ
 by_cases hk:k<i
 ·rw [if_pos hk] at e4;rw [if_pos (by omega)];exact e4.kp kp1
 ·rw [if_neg hk] at e4
  by_cases hki:k=i
  ·subst hki;rw [if_pos rfl] at e4;rw [if_pos (by omega)];rw [hv] at ha
   cases ha
   obtain ⟨xc,xb,e,g1,g2,g3⟩:=e4;exact ⟨xc,xb,e,g1.kp kp1,g2.kp (fun g h1 _ _=>⟨rfl,h1⟩) fun k l b hb=>hb.kp kp1,g3⟩
  ·rw [if_neg hki] at e4;rw [if_neg (by omega)];exact e4
theorem CpG.brk {i j nb capb:Nat} {v:Veh} {b:Brk} {AB:Array Value} {R RB:List (List Value)} {xc y y':Value} (h:CpB w0 w bx gv gj gs gb p x i j) (hv:p.vs[i]? = some v)
  (h1:w.ownsRow (bx+2) 86 11 x.v p.vs.length R.flatten) (h2:R.length=p.vs.length) (h3:p.vs.length*120≤140737488351232) (h5:∀ k a,p.vs[k]? = some a→∃ l,R[k]? = some l∧l.length=11∧(∀ u ∈ l,u.oneCell'=true)∧PVb w0 w (bx+2) gv gj gs gb i j k l a)
  (hl:R[i]? = some (kF v xc (.slice (some ⟨gb,0,none⟩) nb capb))) (hc:OInts w (bx+2) (G4 gv gj gs gb) xc v.cap) (hng:¬ G3 gv gj gs gb) (hnb:v.brks.length=nb) (hw:Wd v.skills)
  (k1:w.ownsRow (bx+2) 91 2 (.slice (some ⟨gb,0,none⟩) nb capb) v.brks.length RB.flatten) (k2:RB.length=v.brks.length) (k3:v.brks.length*32≤140737488351232) (k5:∀ k a,v.brks[k]? = some a→∃ l,RB[k]? = some l∧l.length=2∧(∀ u ∈ l,u.oneCell'=true)∧OBrk w0 w (bx+2) (G4 gv gj gs gb) j k l a)
  (hb:v.brks[j]? = some b) (hlb:RB[j]? = some [y,.int .i64 b.serv]) (hAs:AB.size=capb*2) (hAt:AB.toList.take (nb*2)=RB.flatten)
  (hstp:Stp1 w w2 gb) (hsb:w2.heap[gb]? = some (.cells (AB.setIfInBounds (j*2) y') 91 (0,0))) (ry:w2.ownsRow w.heap.size 61 2 y' b.wins.length (cX b.wins)) (bw:b.wins.length*16≤140737488351232) :
  CpB w0 w2 bx gv gj gs gb p x i (j+1):=by
 have hgb:gb<w.heap.size∧bx+2≤gb:=by have:=k1.lt gb rfl;omega
 have gl:∀ g,G4 gv gj gs gb g→g<w.heap.size:=fun g hg=>by
  rcases hg with (rfl | rfl | rfl) | rfl
  ·obtain ⟨R,r,_⟩:=h.v;exact (r.lt _ h.ev).2
  ·obtain ⟨R,r,_⟩:=h.j;exact (r.lt _ h.ej).2
  ·obtain ⟨R,r,_⟩:=h.s;exact (r.lt _ h.es).2
  ·exact hgb.1
 have kp:Kp w w2 (bx+2) (G4 gv gj gs gb) (G4 gv gj gs gb):=hstp.kp (.inr rfl) fun _ _ h=>h;have sz2:=h.sz;have nv:gb≠gv:=fun e=>hng (.inl e);have nj:gb≠gj:=fun e=>hng (.inr (.inl e));have ns:gb≠gs:=fun e=>hng (.inr (.inr e));refine ⟨hstp.low h.low (by have:=h.bxe;omega),h.bxe,Nat.le_trans h.sz hstp.size,?_,?_,h.t.kp kp,h.d.kp kp,h.ev,h.ej,h.es,h.vj,h.vs,h.js,?_,?_,?_⟩
 ·rw [hstp.block bx (by omega) (by omega)];exact h.box
 ·rw [hstp.block (bx+1) (by omega) (by omega)];exact h.res
 ·have hni:NI (fun g=>G4 gv gj gs gb g∧g≠gv) x.v:=fun g hg hG=>by rw [h.ev] at hg;cases hg;exact hG.2 rfl
  obtain ⟨q1,q2⟩:=uU h1 hni (hstp.kp (base:=bx+2) (G':=fun g=>G4 gv gj gs gb g∧g≠gv) ⟨.inr rfl,nv⟩ fun _ _ h=>h);refine ⟨R,q1,h2,h3,q2,fun k a ha=>?_⟩;obtain ⟨l,e1,e2,e3,e4⟩:=h5 k a ha;refine ⟨l,e1,e2,e3,?_⟩;unfold PVb at e4 ⊢
  by_cases hk:k<i
  ·rw [if_pos hk] at e4 ⊢;exact e4.kp kp
  ·rw [if_neg hk] at e4 ⊢
   by_cases hki:k=i
   ·subst hki;rw [if_pos rfl];rw [hv] at ha
    cases ha
    rw [hl] at e1
    cases e1
    refine ⟨xc,_,rfl,hc.kp kp,?_,hw⟩;refine ORow.put k1 k2 k3 hng hnb k5 hsb (by simpa using hAs) (l':=[y',.int .i64 b.serv]) (i:=j) ?_ rfl ?_ ?_ ?_
    ·have s1:=fM (by decide) (ORow.len k2 k5) hAt hlb (show 0<2 by decide) y';exact s1
    ·intro u hu;obtain ⟨a1,c1,e1,_⟩:=cP ry;subst e1;simp at hu
     rcases hu with rfl | rfl <;> rfl
    ·intro k' l' a' ha' hk' hp;obtain ⟨y2,e,hp⟩:=hp;refine ⟨y2,e,?_⟩
     by_cases hlt:k'<j
     ·rw [if_pos hlt] at hp;rw [if_pos (by omega)];exact hp.kp kp
     ·rw [if_neg hlt] at hp;rw [if_neg (by omega)];exact hp
    ·intro a' ha';rw [hb] at ha'
     cases ha'
     refine ⟨y',rfl,?_⟩;rw [if_pos (by omega)];exact ⟨bC ry h.sz,bw,jO ry gl⟩
   ·rw [if_neg hki] at e4 ⊢;exact e4
 ·exact h.j.kp (hstp.kp ⟨.inr rfl,nj⟩ fun _ _ h=>h) fun k l a=>yeP
 ·exact h.s.kp (hstp.kp ⟨.inr rfl,ns⟩ fun _ _ h=>h) fun k l a=>yaT
theorem job_set (v:Jb) (xw xd xp a b c:Value):(((pH v xw xd xp).set 3 a).set 4 b).set 2 c=pH v c a b:=rfl
theorem shp_set (v:Shp) (x1 x2 xa a b c:Value):(((rP v x1 x2 xa).set 6 a).set 2 b).set 5 c=rP v b c a:=rfl
theorem CpG.job {iv i n cap:Nat} {v:Jb} {A:Array Value} {R:List (List Value)} {xw xd xp xw' xd' xp':Value} (h:CpS w0 w bx gv gj gs p x iv i 0) (hv:p.js[i]? = some v) (hxv:x.j=.slice (some ⟨gj,0,none⟩) n cap) (hn:p.js.length=n)
  (hAs:A.size=cap*7) (hAt:A.toList.take (n*7)=R.flatten)
  (h1:w.ownsRow (bx+2) 67 7 x.j p.js.length R.flatten) (h2:R.length=p.js.length) (h3:p.js.length*104≤140737488351232) (h5:∀ k a,p.js[k]? = some a→∃ l,R[k]? = some l∧l.length=7∧(∀ u ∈ l,u.oneCell'=true)∧mP w0 w (bx+2) (G3 gv gj gs) i k l a)
  (hl:R[i]? = some (pH v xw xd xp)) (hstp:Stp1 w w2 gj) (hsb:w2.heap[gj]? = some (.cells (((A.setIfInBounds (i*7+3) xd').setIfInBounds (i*7+4) xp').setIfInBounds (i*7+2) xw') 67 (0,0)))
  (rd:w2.ownsRow w.heap.size 3 1 xd' v.drop.length (intsV v.drop)) (rp:w2.ownsRow w.heap.size 3 1 xp' v.pick.length (intsV v.pick)) (rw':w2.ownsRow w.heap.size 61 2 xw' v.stop.wins.length (cX v.stop.wins))
  (bd:v.drop.length*8≤140737488351232) (bp:v.pick.length*8≤140737488351232) (bw:v.stop.wins.length*16≤140737488351232) (hw:Wd v.skills):CpS w0 w2 bx gv gj gs p x iv (i+1) 0:=by
 have gl:∀ g,G3 gv gj gs g→g<w.heap.size:=fun g hg=>by
  rcases hg with rfl | rfl | rfl
  ·obtain ⟨R,r,_⟩:=h.v;exact (r.lt _ h.ev).2
  ·obtain ⟨R,r,_⟩:=h.j;exact (r.lt _ h.ej).2
  ·obtain ⟨R,r,_⟩:=h.s;exact (r.lt _ h.es).2
 have hbj:bx+2≤gj:=by obtain ⟨R,r,_⟩:=h.j;exact (r.lt _ h.ej).1
 have kp:Kp w w2 (bx+2) (G3 gv gj gs) (G3 gv gj gs):=hstp.kp (.inr (.inl rfl)) fun _ _ h=>h;have sz2:=h.sz;have hR:=ORow.len h2 h5;refine ⟨hstp.low h.low (by have:=h.bxe;omega),h.bxe,Nat.le_trans h.sz hstp.size,?_,?_,h.t.kp kp,h.d.kp kp,h.ev,h.ej,h.es,h.vj,h.vs,h.js,?_,?_,?_⟩
 ·rw [hstp.block bx (by omega) (by omega)];exact h.box
 ·rw [hstp.block (bx+1) (by omega) (by omega)];exact h.res
 ·refine h.v.kp (hstp.kp ⟨.inr (.inl rfl),h.vj.symm⟩ fun _ _ h=>h) fun k l a hp=>?_;unfold pJ at hp ⊢
  by_cases hk:k<iv
  ·rw [if_pos hk] at hp ⊢;exact hp.kp kp
  ·rw [if_neg hk] at hp ⊢;exact hp
 ·rw [hxv] at h1 ⊢;refine ORow.put h1 h2 h3 (by intro hG;exact hG.2 rfl) hn h5 hsb (by simpa using hAs) (l':=pH v xw' xd' xp') (i:=i) ?_ rfl ?_ ?_ ?_
  ·have hlt:=(List.getElem?_eq_some_iff.1 hl).1;have s1:=fM (by decide) hR hAt hl (show 3<7 by decide) xd';have s2:=fM (by decide) (lK hR (by rw [List.length_set];rfl)) s1 (List.getElem?_set_self hlt) (show 4<7 by decide) xp';rw [List.set_set] at s2;have s3:=fM (by decide) (lK hR (by rw [List.length_set,List.length_set];rfl)) s2 (List.getElem?_set_self hlt) (show 2<7 by decide) xw';rw [s3,List.set_set,job_set]
  ·intro u hu;obtain ⟨a1,c1,e1,_⟩:=cP rd;obtain ⟨a2,c2,e2,_⟩:=cP rp;obtain ⟨a3,c3,e3,_⟩:=cP rw';subst e1 e2 e3
   simp [pH] at hu
   rcases hu with rfl | rfl | rfl | rfl | rfl | rfl | rfl <;> rfl
  ·intro k l a ha hk hp;unfold mP at hp ⊢
   by_cases hki:k<i
   ·rw [if_pos hki] at hp;rw [if_pos (by omega)];exact hp.kp kp
   ·rw [if_neg hki] at hp;rw [if_neg (by omega)];exact hp
  ·intro a ha;rw [hv] at ha
   cases ha
   unfold mP;rw [if_pos (by omega)];exact ⟨xw',xd',xp',rfl,⟨bC rw' h.sz,bw,jO rw' gl⟩,⟨bC rd h.sz,bd,jO rd gl⟩,⟨bC rp h.sz,bp,jO rp gl⟩,hw⟩
 ·exact h.s.kp (hstp.kp ⟨.inr (.inl rfl),h.js⟩ fun _ _ h=>h) fun k l a=>yaT
theorem CpG.shp {iv ij i n cap:Nat} {v:Shp} {A:Array Value} {R:List (List Value)} {x1 x2 xa x1' x2' xa':Value} (h:CpS w0 w bx gv gj gs p x iv ij i) (hv:p.ss[i]? = some v) (hxv:x.s=.slice (some ⟨gs,0,none⟩) n cap) (hn:p.ss.length=n)
  (hAs:A.size=cap*9) (hAt:A.toList.take (n*9)=R.flatten)
  (h1:w.ownsRow (bx+2) 103 9 x.s p.ss.length R.flatten) (h2:R.length=p.ss.length) (h3:p.ss.length*120≤140737488351232) (h5:∀ k a,p.ss[k]? = some a→∃ l,R[k]? = some l∧l.length=9∧(∀ u ∈ l,u.oneCell'=true)∧nQ w0 w (bx+2) (G3 gv gj gs) i k l a)
  (hl:R[i]? = some (rP v x1 x2 xa)) (hstp:Stp1 w w2 gs) (hsb:w2.heap[gs]? = some (.cells (((A.setIfInBounds (i*9+6) xa').setIfInBounds (i*9+2) x1').setIfInBounds (i*9+5) x2') 103 (0,0)))
  (ra:w2.ownsRow w.heap.size 3 1 xa' v.amt.length (intsV v.amt)) (r1:w2.ownsRow w.heap.size 61 2 x1' v.pick.wins.length (cX v.pick.wins)) (r2:w2.ownsRow w.heap.size 61 2 x2' v.deli.wins.length (cX v.deli.wins))
  (ba:v.amt.length*8≤140737488351232) (b1:v.pick.wins.length*16≤140737488351232) (b2:v.deli.wins.length*16≤140737488351232) (hw:Wd v.skills):CpS w0 w2 bx gv gj gs p x iv ij (i+1):=by
 have gl:∀ g,G3 gv gj gs g→g<w.heap.size:=fun g hg=>by
  rcases hg with rfl | rfl | rfl
  ·obtain ⟨R,r,_⟩:=h.v;exact (r.lt _ h.ev).2
  ·obtain ⟨R,r,_⟩:=h.j;exact (r.lt _ h.ej).2
  ·obtain ⟨R,r,_⟩:=h.s;exact (r.lt _ h.es).2
 have hbs:bx+2≤gs:=by obtain ⟨R,r,_⟩:=h.s;exact (r.lt _ h.es).1
 have kp:Kp w w2 (bx+2) (G3 gv gj gs) (G3 gv gj gs):=hstp.kp (.inr (.inr rfl)) fun _ _ h=>h;have sz2:=h.sz;have hR:=ORow.len h2 h5;refine ⟨hstp.low h.low (by have:=h.bxe;omega),h.bxe,Nat.le_trans h.sz hstp.size,?_,?_,h.t.kp kp,h.d.kp kp,h.ev,h.ej,h.es,h.vj,h.vs,h.js,?_,?_,?_⟩
 ·rw [hstp.block bx (by omega) (by omega)];exact h.box
 ·rw [hstp.block (bx+1) (by omega) (by omega)];exact h.res
 ·refine h.v.kp (hstp.kp ⟨.inr (.inr rfl),h.vs.symm⟩ fun _ _ h=>h) fun k l a hp=>?_;unfold pJ at hp ⊢
  by_cases hk:k<iv
  ·rw [if_pos hk] at hp ⊢;exact hp.kp kp
  ·rw [if_neg hk] at hp ⊢;exact hp
 ·refine h.j.kp (hstp.kp ⟨.inr (.inr rfl),h.js.symm⟩ fun _ _ h=>h) fun k l a hp=>?_;unfold mP at hp ⊢
  by_cases hk:k<ij
  ·rw [if_pos hk] at hp ⊢;exact hp.kp kp
  ·rw [if_neg hk] at hp ⊢;exact hp
 ·rw [hxv] at h1 ⊢;refine ORow.put h1 h2 h3 (by intro hG;exact hG.2 rfl) hn h5 hsb (by simpa using hAs) (l':=rP v x1' x2' xa') (i:=i) ?_ rfl ?_ ?_ ?_
  ·have hlt:=(List.getElem?_eq_some_iff.1 hl).1;have s1:=fM (by decide) hR hAt hl (show 6<9 by decide) xa';have s2:=fM (by decide) (lK hR (by rw [List.length_set];rfl)) s1 (List.getElem?_set_self hlt) (show 2<9 by decide) x1';rw [List.set_set] at s2;have s3:=fM (by decide) (lK hR (by rw [List.length_set,List.length_set];rfl)) s2 (List.getElem?_set_self hlt) (show 5<9 by decide) x2';rw [s3,List.set_set,shp_set]
  ·intro u hu;obtain ⟨a1,c1,e1,_⟩:=cP ra;obtain ⟨a2,c2,e2,_⟩:=cP r1;obtain ⟨a3,c3,e3,_⟩:=cP r2;subst e1 e2 e3
   simp [rP] at hu
   rcases hu with rfl | rfl | rfl | rfl | rfl | rfl | rfl | rfl | rfl <;> rfl
  ·intro k l a ha hk hp;unfold nQ at hp ⊢
   by_cases hki:k<i
   ·rw [if_pos hki] at hp;rw [if_pos (by omega)];exact hp.kp kp
   ·rw [if_neg hki] at hp;rw [if_neg (by omega)];exact hp
  ·intro a ha;rw [hv] at ha
   cases ha
   unfold nQ;rw [if_pos (by omega)];exact ⟨x1',x2',xa',rfl,⟨bC r1 h.sz,b1,jO r1 gl⟩,⟨bC r2 h.sz,b2,jO r2 gl⟩,⟨bC ra h.sz,ba,jO ra gl⟩,hw⟩
theorem ydG {w1:World} {xt xd xv xj xs:Value} {RV RJ RS:List (List Value)} (hlow:Below w0.heap.size w0 w1) (bxe:w0.heap.size=bx) (hsz:bx+2≤w1.heap.size) (hres:w1.heap[bx+1]? = some (.cells yaI 29 (0,0)))
  (ht:w1.ownsRow (bx+2) 3 1 xt p.time.cells.length (intsV p.time.cells)) (hd:w1.ownsRow (bx+2) 3 1 xd p.dist.cells.length (intsV p.dist.cells)) (bt:p.time.cells.length*8≤140737488351232) (bd:p.dist.cells.length*8≤140737488351232)
  (hstp:Stp1 w1 w2 bx) (hsb:w2.heap[bx]? = some (.cells (aL p ⟨xt,xd,xv,xj,xs⟩) 29 (0,0)))
  (r0:w2.ownsRow w1.heap.size 86 11 xv p.vs.length RV.flatten) (r1:w2.ownsRow w1.heap.size 67 7 xj p.js.length RJ.flatten) (r2:w2.ownsRow w1.heap.size 103 9 xs p.ss.length RS.flatten)
  (gv1:xv.ownBlock=some gv) (gj1:xj.ownBlock=some gj) (gs1:xs.ownBlock=some gs) (vj:gv≠gj) (vs:gv≠gs) (js:gj≠gs)
  (v1:RV.length=p.vs.length) (v2:∀ (k:Nat) (a:Veh),p.vs[k]? = some a→∃ l,RV[k]? = some l∧l.length=11∧(∀ u ∈ l,u.oneCell'=true)∧VehV w0 l a) (v3:p.vs.length*120≤140737488351232)
  (j1:RJ.length=p.js.length) (j2:∀ (k:Nat) (a:Jb),p.js[k]? = some a→∃ l,RJ[k]? = some l∧l.length=7∧(∀ u ∈ l,u.oneCell'=true)∧JobV w0 l a) (j3:p.js.length*104≤140737488351232)
  (s1:RS.length=p.ss.length) (s2:∀ (k:Nat) (a:Shp),p.ss[k]? = some a→∃ l,RS[k]? = some l∧l.length=9∧(∀ u ∈ l,u.oneCell'=true)∧ShpV w0 l a) (s3:p.ss.length*120≤140737488351232) :
  CpS w0 w2 bx gv gj gs p ⟨xt,xd,xv,xj,xs⟩ 0 0 0:=by
 have gl:∀ g,G3 gv gj gs g→w1.heap.size≤g:=fun g hg=>by
  rcases hg with rfl | rfl | rfl
  ·exact (r0.lt _ gv1).1
  ·exact (r1.lt _ gj1).1
  ·exact (r2.lt _ gs1).1
 have old:∀ {v:Value} {L:List Int},w1.ownsRow (bx+2) 3 1 v L.length (intsV L)→L.length*8≤140737488351232→OInts w2 (bx+2) (G3 gv gj gs) v L:=fun {v L} h hb =>
  ⟨own_of_block h fun g hg=>hstp.block g (h.lt g hg).2 (by have:=(h.lt g hg).1;omega),hb,fun g hg hG=>by have:=(h.lt g hg).2;have:=gl g hG;omega⟩
 refine ⟨hstp.low hlow (by omega),bxe,Nat.le_trans hsz hstp.size,hsb,?_,old ht bt,old hd bd,gv1,gj1,gs1,vj,vs,js,?_,?_,?_⟩
 ·rw [hstp.block (bx+1) (by omega) (by omega)];exact hres
 ·refine ⟨RV,bC r0 hsz,v1,v3,fun g hg hG=>?_,fun k a ha=>?_⟩
  ·rw [gv1] at hg;cases hg;exact hG.2 rfl
  ·obtain ⟨l,e1,e2,e3,e4⟩:=v2 k a ha;exact ⟨l,e1,e2,e3,by unfold pJ;rw [if_neg (by omega)];exact e4⟩
 ·refine ⟨RJ,bC r1 hsz,j1,j3,fun g hg hG=>?_,fun k a ha=>?_⟩
  ·rw [gj1] at hg;cases hg;exact hG.2 rfl
  ·obtain ⟨l,e1,e2,e3,e4⟩:=j2 k a ha;exact ⟨l,e1,e2,e3,by unfold mP;rw [if_neg (by omega)];exact e4⟩
 ·refine ⟨RS,bC r2 hsz,s1,s3,fun g hg hG=>?_,fun k a ha=>?_⟩
  ·rw [gs1] at hg;cases hg;exact hG.2 rfl
  ·obtain ⟨l,e1,e2,e3,e4⟩:=s2 k a ha;exact ⟨l,e1,e2,e3,by unfold nQ;rw [if_neg (by omega)];exact e4⟩
theorem cps_end (h:CpS w0 w bx gv gj gs p x p.vs.length p.js.length p.ss.length) (hstp:Stp1 w w2 (bx+1)):PrbV w2 x p∧Below w0.heap.size w0 w2:=by
 have kp:∀ (G:Nat→Prop),Kp w w2 (bx+2) G G:=fun G g h1 h2 h3=>⟨hstp.block g h3 (by omega),h1⟩;refine ⟨⟨(h.t.kp (kp _)).read,(h.d.kp (kp _)).read,(h.v.kp (kp _) (PV':=pJ w0 w2 (bx+2) (G3 gv gj gs) p.vs.length) fun k l a hp=>?_).read fun k l a ha hp=>?_,(h.j.kp (kp _) (PV':=mP w0 w2 (bx+2) (G3 gv gj gs) p.js.length) fun k l a hp=>?_).read fun k l a ha hp=>?_,(h.s.kp (kp _) (PV':=nQ w0 w2 (bx+2) (G3 gv gj gs) p.ss.length) fun k l a hp=>?_).read fun k l a ha hp=>?_⟩,hstp.low h.low (by have:=h.bxe;omega)⟩
 ·unfold pJ at hp ⊢
  by_cases hk:k<p.vs.length
  ·rw [if_pos hk] at hp ⊢;exact hp.kp (kp _)
  ·rw [if_neg hk] at hp ⊢;exact hp
 ·unfold pJ at hp;rw [if_pos (List.getElem?_eq_some_iff.1 ha).1] at hp;exact VehV.of_o hp
 ·unfold mP at hp ⊢
  by_cases hk:k<p.js.length
  ·rw [if_pos hk] at hp ⊢;exact hp.kp (kp _)
  ·rw [if_neg hk] at hp ⊢;exact hp
 ·unfold mP at hp;rw [if_pos (List.getElem?_eq_some_iff.1 ha).1] at hp;obtain ⟨a,b,c,e,h1,h2,h3,h4⟩:=hp;exact ⟨a,b,c,e,h1.read,h2.read,h3.read,h4⟩
 ·unfold nQ at hp ⊢
  by_cases hk:k<p.ss.length
  ·rw [if_pos hk] at hp ⊢;exact hp.kp (kp _)
  ·rw [if_neg hk] at hp ⊢;exact hp
 ·unfold nQ at hp;rw [if_pos (List.getElem?_eq_some_iff.1 ha).1] at hp;obtain ⟨a,b,c,e,h1,h2,h3,h4⟩:=hp;exact ⟨a,b,c,e,h1.read,h2.read,h3.read,h4⟩
end
end Go.Proofs.Ytgjpkpmikbpcnaa
