import Derived.Test.YtgjpkpmikbpcnaaOTimG
namespace Go.Proofs.Ytgjpkpmikbpcnaa
open Go.RowKit
theorem vR {w:World} {base m c:Nat} {a:Option Addr} {V:List Vst} (h:VRow w base (.slice a m c) V) (hm:0<m):∃ g,a=some ⟨g,0,none⟩∧m≤c:=by
 rcases h.2 with ⟨e1,e2⟩ | ⟨g,cap,cur,e1,_,_,hnc,_⟩
 ·injection e1 with _ e3 _;omega
 ·injection e1 with e2 e3 e4;subst e2 e4;exact ⟨g,rfl,by rw [e3];exact hnc⟩
set_option maxRecDepth 100000 in
set_option maxHeartbeats 3200000 in
theorem xY {w:World} {m vc:Nat} {va:Option Addr} {V:List Vst} (hV:VsV w (.slice va m vc) V) (hm:V.length=m) (hm2:m≤900) (hz:va=none→vc=0) :
  Calls Try.prog 37 #[.slice va m vc] w fun e w'=>∃ g c,e=.returned (.slice (some ⟨g,0,none⟩) m c)∧(VRow w' w.heap.size (.slice (some ⟨g,0,none⟩) m c) V∧m≤c)∧Below w.heap.size w w':=by
 have HV:=hide hV;have HM:=hide hm;have HZ:=hide hz;clear hV hm hz;have f0:Below w.heap.size w (w.alloc (.cells #[] 34)):=Mn.a;have HF0:=hide f0;have HROW:Hid (VRow (w.alloc (.cells #[] 34)) w.heap.size (.slice (some ⟨w.heap.size,0,none⟩) 0 0) []):=World.ownsRow_made w #[] 0 (Nat.le_refl _) (by unfold maxLen;omega) rfl;clear f0
 rcases Nat.eq_zero_or_pos m with e | e
 ·subst e;have hV0:V=[]:=List.eq_nil_of_length_eq_zero HM.out;subst hV0
  cases va with
  | none =>
   have hv0:=HZ.out rfl;subst hv0;obtain ⟨i0,hi0,_,_,_⟩:=info_parts rC;go_enter Try.func37,Try.ntmps37;go_wp2_with (first | (at_builtin;refine wpList_append_own_none rfl (.tmp 3) (.tmp 4) 55 rfl w.heap.size 34 i0 2 Try.underlying55 hi0 _ 0 _ rfl HROW.out rfl ?_) | fail);go_ret;exact ⟨_,_,rfl,HROW.out,HF0.out⟩
  | some ad =>
   go_enter Try.func37,Try.ntmps37;go_wp2_with fail;go_ret;exact ⟨_,_,rfl,⟨HROW.out,Nat.le_refl _⟩,HF0.out⟩
 ·go_enter Try.func37,Try.ntmps37;go_wp2_with (first | (at_builtin;refine bS (.tmp 3) (.tmp 4) rfl rfl rfl rfl HROW.out rfl (PrV.on HV.out HF0.out) HM.out HZ.out (by omega) HF0.out.size ?_;intro a2 c2 w2 r1 r2 _;have HR:=hide r1;have HB:=hide (HF0.out.trans r2);clear r1 r2) | fail);have HR2:Hid (VRow w2 w.heap.size (.slice a2 m c2) V):=by have h9:=HR.out;rw [Nat.zero_add,List.nil_append] at h9;exact h9
  obtain ⟨g,hg,hc⟩:=vR HR2.out e;subst hg;go_ret;exact ⟨g,c2,rfl,⟨HR2.out,hc⟩,HB.out⟩
end Go.Proofs.Ytgjpkpmikbpcnaa
namespace Go.Proofs.Ytgjpkpmikbpcnaa
open Go.RowKit
structure CpF (w:World) (base gv gj gs:Nat) (p:Prb) (x:aU):Prop where
 t:OInts w base (G3 gv gj gs) x.t p.time.cells
 d:OInts w base (G3 gv gj gs) x.d p.dist.cells
 ev:x.v.ownBlock=some gv
 ej:x.j.ownBlock=some gj
 es:x.s.ownBlock=some gs
 vj:gv≠gj
 vs:gv≠gs
 js:gj≠gs
 v:ORow w base 86 11 120 (fun g=>G3 gv gj gs g∧g≠gv) (fun _ l v=>OVeh w w base (G3 gv gj gs) (G3 gv gj gs) v.brks.length l v) x.v p.vs
 j:ORow w base 67 7 104 (fun g=>G3 gv gj gs g∧g≠gj) (fun _ l j=>OJob w base (G3 gv gj gs) l j) x.j p.js
 s:ORow w base 103 9 120 (fun g=>G3 gv gj gs g∧g≠gs) (fun _ l s=>OShp w base (G3 gv gj gs) l s) x.s p.ss
theorem ORow.imp {α:Type} {w:World} {base T z y:Nat} {G:Nat→Prop} {v:Value} {PV PV':Nat→List Value→α→Prop} {L:List α} (h:ORow w base T z y G PV v L) (hp:∀ k l a,L[k]? = some a→PV k l a→PV' k l a):ORow w base T z y G PV' v L:=by
 obtain ⟨R,h1,h2,h3,h4,h5⟩:=h;refine ⟨R,h1,h2,h3,h4,fun k a ha=>?_⟩;obtain ⟨l,e1,e2,e3,e4⟩:=h5 k a ha;exact ⟨l,e1,e2,e3,hp k l a ha e4⟩
theorem OVeh.free {w0 w0' w:World} {base:Nat} {G G0:Nat→Prop} {l:List Value} {v:Veh} (h:OVeh w0 w base G G0 v.brks.length l v):OVeh w0' w base G G0 v.brks.length l v:=by
 obtain ⟨xc,xb,e,h1,h2,h3⟩:=h;refine ⟨xc,xb,e,h1,h2.imp fun k l b hb h=>?_,h3⟩;obtain ⟨y,e,h⟩:=h;have hk:=(List.getElem?_eq_some_iff.1 hb).1;rw [if_pos hk] at h;exact ⟨y,e,by rw [if_pos hk];exact h⟩
theorem cps_fin {w0 w w2:World} {bx gv gj gs:Nat} {p:Prb} {x:aU} (h:CpS w0 w bx gv gj gs p x p.vs.length p.js.length p.ss.length) (hstp:Stp1 w w2 (bx+1)):CpF w2 (bx+2) gv gj gs p x:=by
 have kp:∀ (G:Nat→Prop),Kp w w2 (bx+2) G G:=fun G g h1 h2 h3=>⟨hstp.block g h3 (by omega),h1⟩;refine ⟨h.t.kp (kp _),h.d.kp (kp _),h.ev,h.ej,h.es,h.vj,h.vs,h.js,?_,?_,?_⟩
 ·have h1:ORow w (bx+2) 86 11 120 (fun g=>G3 gv gj gs g∧g≠gv) (fun _ l v=>OVeh w0 w (bx+2) (G3 gv gj gs) (G3 gv gj gs) v.brks.length l v) x.v p.vs:=h.v.imp fun k l a ha hp=>by
   unfold pJ at hp;rw [if_pos (List.getElem?_eq_some_iff.1 ha).1] at hp;exact hp
  exact h1.kp (kp _) fun _ _ _ h=>OVeh.free (h.kp (kp _))
 ·have h1:ORow w (bx+2) 67 7 104 (fun g=>G3 gv gj gs g∧g≠gj) (fun _ l j=>OJob w (bx+2) (G3 gv gj gs) l j) x.j p.js:=h.j.imp fun k l a ha hp=>by
   unfold mP at hp;rw [if_pos (List.getElem?_eq_some_iff.1 ha).1] at hp;exact hp
  exact h1.kp (kp _) fun _ _ _ h=>h.kp (kp _)
 ·have h1:ORow w (bx+2) 103 9 120 (fun g=>G3 gv gj gs g∧g≠gs) (fun _ l s=>OShp w (bx+2) (G3 gv gj gs) l s) x.s p.ss:=h.s.imp fun k l a ha hp=>by
   unfold nQ at hp;rw [if_pos (List.getElem?_eq_some_iff.1 ha).1] at hp;exact hp
  exact h1.kp (kp _) fun _ _ _ h=>h.kp (kp _)
def CpQ (w:World) (base:Nat) (p:Prb) (x:aU):Prop:=∃ gv gj gs,CpF w base gv gj gs p x
theorem CpF.prb {w:World} {base gv gj gs:Nat} {p:Prb} {x:aU} (h:CpF w base gv gj gs p x):PrbV w x p:=by
 refine ⟨h.t.read,h.d.read,h.v.read fun k l a ha hp=>VehV.of_o hp,h.j.read fun k l a ha hp=>?_,h.s.read fun k l a ha hp=>?_⟩
 ·obtain ⟨a,b,c,e,h1,h2,h3,h4⟩:=hp;exact ⟨a,b,c,e,h1.read,h2.read,h3.read,h4⟩
 ·obtain ⟨a,b,c,e,h1,h2,h3,h4⟩:=hp;exact ⟨a,b,c,e,h1.read,h2.read,h3.read,h4⟩
theorem CpQ.prb {w:World} {base:Nat} {p:Prb} {x:aU} (h:CpQ w base p x):PrbV w x p:=by
 obtain ⟨_,_,_,h⟩:=h;exact h.prb
end Go.Proofs.Ytgjpkpmikbpcnaa
