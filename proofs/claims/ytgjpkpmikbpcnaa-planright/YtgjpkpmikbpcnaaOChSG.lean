import Derived.Test.YtgjpkpmikbpcnaaORstWG
import Derived.Test.YtgjpkpmikbpcnaaOWhlW
import Derived.Test.YtgjpkpmikbpcnaaOPlnW
set_option maxRecDepth 100000
set_option maxHeartbeats 6400000
namespace Go.Proofs.Ytgjpkpmikbpcnaa
open Go.RowKit
def pR:Array Value:=#[.func (.func 71) #[] #[],.int .i64 160,.func (.func 98) #[] #[],.int .i64 161,.func (.func 99) #[] #[],.int .i64 162,.func (.func 100) #[] #[],.int .i64 163,.func (.func 101) #[] #[],.int .i64 164,.func (.func 102) #[] #[],.int .i64 165,.func (.func 103) #[] #[],.int .i64 166,.func (.func 104) #[] #[],.int .i64 167]
theorem yaB (w:World):Calls Try.prog 68 #[] w fun e w'=>e=.returned (.slice (some ⟨w.heap.size,0,none⟩) 8 8)∧w'=w.alloc (.cells pR 126):=by
 unfold pR;go_enter Try.func68,Try.ntmps68;go_wp2;go_ret;exact ⟨rfl,rfl⟩
theorem ygG {V:List Vst} {q:Nat} {u:Vst} (h:V[q]? = some u):(V.drop q).any (fun v=>v.1 == 4)=((u.1 == 4) || (V.drop (q+1)).any fun v=>v.1 == 4):=by
 obtain ⟨hk,e⟩:=List.getElem?_eq_some_iff.1 h;rw [List.drop_eq_getElem_cons hk,e];rfl
theorem ycQ {w:World} {a:Option Addr} {m c:Nat} {V:List Vst} (h:VsV w (.slice a m c) V) (hm:V.length=m) (hm2:m≤1000):Calls Try.prog 110 #[.slice a m c,.func (.func 73) #[] #[]] w fun e w'=>∃ r:Int,e=.returned (.int .i64 r)∧-1≤r∧r≤1000∧(decide (0≤r))=V.any (fun v=>v.1 == 4)∧Below w.heap.size w w':=by
 have HV:=hide h;have HM:=hide hm;clear h hm;go_enter Try.func110,Try.ntmps110;go_wp2_with fail
 go_loopw [8] (fun vi wr=>∃ q:Nat,vi=.int .i64 q∧q≤m∧Hid (V.any (fun v=>v.1 == 4)=(V.drop q).any fun v=>v.1 == 4)∧Hid (Below w.heap.size w wr)) (fun vi _=>m-(intOf vi).toNat)
 case atStart=>exact ⟨0,rfl,Nat.zero_le _,by rw [List.drop_zero];rfl,Below.refl _ _⟩
 case round =>
  obtain ⟨q,rfl,hq,HI,HB⟩:=hrel
  by_cases hqm:q<m
  ·have i1:(q:Int)<(m:Int):=by omega
   have i2:(0:Int)≤(q:Int):=by omega
   have i3:¬ (m:Int)≤(q:Int):=by omega
   obtain ⟨⟨kd,it⟩,hu⟩:∃ u,V[q]? = some u:=⟨_,List.getElem?_eq_getElem (by rw [HM.out];exact hqm)⟩;obtain ⟨b,off,rfl,hb,c1,c2,_⟩:=bL HV.out hu;simp only at c1 c2;have d1:wr.cell? ⟨b,off+q*2,none⟩=some (.int .i64 kd):=((aA HB.out).1 _ _ hb).trans c1;have d2:wr.cell? ⟨b,off+q*2+1,none⟩=some (.int .i64 it):=((aA HB.out).1 _ _ hb).trans c2;have HD:=hide (HI.out.trans (ygG hu));simp only at HD;clear c1 c2 hu hb
   by_cases hk4:kd=4
   ·subst hk4;have HF:Hid (V.any (fun v=>v.1 == 4)=true):=HD.out.trans (by simp);have y4:((4:Int) == 4)=true:=rfl;go_wp2_with (first | (go_at_call 73;refine (cW _ _ _).mono ?_;rintro e w1 ⟨rfl,k1⟩;have B1:=hide (below_on HB.out k1);clear k1) | fail);go_ret;exact ⟨q,rfl,by omega,by omega,by rw [HF.out];simp,B1.out⟩
   ·have y4:(kd == 4)=false:=by simpa using hk4
    have HF:Hid (V.any (fun v=>v.1 == 4)=(V.drop (q+1)).any fun v=>v.1 == 4):=HD.out.trans (by rw [y4];rfl);go_wp2_with (first | (go_at_call 73;refine (cW _ _ _).mono ?_;rintro e w1 ⟨rfl,k1⟩;have B1:=hide (below_on HB.out k1);clear k1) | fail);go_roundw
    case rel=>exact ⟨q+1,by go_num,by omega,HF.out,B1.out⟩
    case measure=>simp [intOf];omega
  ·have i1:¬ (q:Int)<(m:Int):=by omega
   have HF:Hid (V.any (fun v=>v.1 == 4)=false):=HI.out.trans (by rw [List.drop_eq_nil_of_le (by rw [HM.out];omega)];rfl);go_wp2;go_ret;exact ⟨-1,rfl,by omega,by omega,by rw [HF.out];rfl,HB.out⟩
theorem m8 {w:World} {a:Option Addr} {m c:Nat} {V:List Vst} (h:VsV w (.slice a m c) V) (hm:V.length=m) (hm2:m≤1000):Calls Try.prog 72 #[.slice a m c,.func (.func 73) #[] #[]] w fun e w'=>e=.returned (.bool (V.any fun v=>v.1 == 4))∧Below w.heap.size w w':=by
 have H:=hide (ycQ (c:=c) h hm hm2);clear h hm;go_enter Try.func72,Try.ntmps72;go_wp2_with (first | (go_at_call 110;refine H.out.mono ?_;rintro e w1 ⟨r,rfl,r1,r2,r3,k1⟩;have HR:=hide r3;have B1:=hide k1;clear r1 r2 r3 k1) | fail);go_ret;exact ⟨by rw [← HR.out];rfl,B1.out⟩
end Go.Proofs.Ytgjpkpmikbpcnaa
namespace Go.Proofs.Ytgjpkpmikbpcnaa
open Go.RowKit
theorem lP {w:World} {base base':Nat} {e:TypeId} {size:Nat} {v:Value} {n:Nat} {xs:List Value} (h:w.ownsRow base e size v n xs) (hb:base'≤base):w.ownsRow base' e size v n xs:=by
 refine ⟨h.1,h.2.imp id ?_⟩;rintro ⟨g,cap,cur,h1,h2,h3⟩;exact ⟨g,cap,cur,h1,Nat.le_trans hb h2,h3⟩
theorem PlanV.mono {w:World} {base base':Nat} {v:Value} {pl:dQ} (h:PlanV w base v pl) (hb:base'≤base):PlanV w base' v pl:=by
 obtain ⟨a,n,c,ys,e,hr,hs,hn⟩:=h;exact ⟨a,n,c,ys,e,⟨hr.len,lP hr.own hb,fun k x y hx hy=>by obtain ⟨h1,h2,h3⟩:=hr.sat k x y hx hy;exact ⟨lP h1 hb,h2,h3⟩⟩,hs,hn⟩
theorem PlanV.on {w w':World} {base:Nat} {v:Value} {pl:dQ} (h:PlanV w base v pl) (f:Below w.heap.size w w'):PlanV w' base v pl:=by
 obtain ⟨a,n,c,ys,e,hr,hs,hn⟩:=h;exact ⟨a,n,c,ys,e,RowS.on hr (eJ base) f,hs,hn⟩
theorem PlanV.set {w w':World} {base r:Nat} {v:Value} {pl:dQ} (h:PlanV w base v pl) (hg:w.grownBy w' (some r)) (hr:r<base):PlanV w' base v pl:=by
 obtain ⟨a,n,c,ys,e,hR,hs,hn⟩:=h;refine ⟨a,n,c,ys,e,gE hR hg (fun g h9=>?_) (fun y hy g h9=>?_),hs,hn⟩
 ·have:=(World.ownsRow.lt hR.own g h9).1;omega
 ·obtain ⟨k,hk⟩:=List.getElem?_of_mem hy;have hl:=(List.getElem?_eq_some_iff.1 hk).1;rw [hR.len] at hl;have:=(World.ownsRow.lt (hR.sat k _ y (List.getElem?_eq_getElem hl) hk).1 g h9).1
  omega
theorem dJ (w:World) (base:Nat):PlanV w base (.agg (bV 0 (.slice none 0 0) 0 0 0 0 0)) planZ:=⟨none,0,0,[],rfl,RowS.nil (World.ownsRow_nil w base 88 9),List.Pairwise.nil,rfl⟩
def jG (p:Prb) (vi:Int) (V:List Vst):Nat→Bool
 | 0=>decide (0≤vi) && decide (vi<(p.vs.length:Int))
 | 1=>aQ p V
 | 2=>cO V (p.vs.getD vi.toNat vz).brks.length
 | 3=>dH p (p.vs.getD vi.toNat vz) V
 | 4=>cG (p.vs.getD vi.toNat vz) V
 | 5=>cA p p.dims.toNat (p.vs.getD vi.toNat vz) V
 | 6=>bN p (aB p (p.vs.getD vi.toNat vz) V)
 | _=>cR p.time (aB p (p.vs.getD vi.toNat vz) V) (p.vs.getD vi.toNat vz).shift.1
def fnC:Nat→Nat
 | 0=>71
 | n+1=>98+n
theorem p9 (p:Prb) (vi:Int):upB vi ((p.vs.length:Int)-1)=(decide (0≤vi) && decide (vi<(p.vs.length:Int))):=by
 unfold upB
 by_cases h1:0≤vi
 ·by_cases h2:vi<(p.vs.length:Int)
  ·simp [h1,h2];omega
  ·simp [h1,h2];omega
 ·simp [h1]
theorem iQ {p:Prb} {vi:Int} {V:List Vst} {i:Nat} (hi:i<8) (h:∀ j,j<i→jG p vi V j=true) (hb:jG p vi V i=false):ofE p vi V=160+(i:Int):=by
 unfold ofE dI;rw [p9]
 match i,hi with
 | 0,_=>have e:(decide (0≤vi) && decide (vi<(p.vs.length:Int)))=false:=hb;rw [e];rfl
 | 1,_ =>
  have e0:(decide (0≤vi) && decide (vi<(p.vs.length:Int)))=true:=h 0 (by omega);have e:aQ p V=false:=hb;rw [e0,e];rfl
 | 2,_ =>
  have e0:(decide (0≤vi) && decide (vi<(p.vs.length:Int)))=true:=h 0 (by omega);have e1:aQ p V=true:=h 1 (by omega);have e:cO V (p.vs.getD vi.toNat vz).brks.length=false:=hb;rw [e0,e1,e];rfl
 | 3,_ =>
  have e0:(decide (0≤vi) && decide (vi<(p.vs.length:Int)))=true:=h 0 (by omega);have e1:aQ p V=true:=h 1 (by omega);have e2:cO V (p.vs.getD vi.toNat vz).brks.length=true:=h 2 (by omega);have e:dH p (p.vs.getD vi.toNat vz) V=false:=hb;rw [e0,e1,e2,e];rfl
 | 4,_ =>
  have e0:(decide (0≤vi) && decide (vi<(p.vs.length:Int)))=true:=h 0 (by omega);have e1:aQ p V=true:=h 1 (by omega);have e2:cO V (p.vs.getD vi.toNat vz).brks.length=true:=h 2 (by omega);have e3:dH p (p.vs.getD vi.toNat vz) V=true:=h 3 (by omega);have e:cG (p.vs.getD vi.toNat vz) V=false:=hb;rw [e0,e1,e2,e3,e];rfl
 | 5,_ =>
  have e0:(decide (0≤vi) && decide (vi<(p.vs.length:Int)))=true:=h 0 (by omega);have e1:aQ p V=true:=h 1 (by omega);have e2:cO V (p.vs.getD vi.toNat vz).brks.length=true:=h 2 (by omega);have e3:dH p (p.vs.getD vi.toNat vz) V=true:=h 3 (by omega);have e4:cG (p.vs.getD vi.toNat vz) V=true:=h 4 (by omega);have e:cA p p.dims.toNat (p.vs.getD vi.toNat vz) V=false:=hb;rw [e0,e1,e2,e3,e4,e];rfl
 | 6,_ =>
  have e0:(decide (0≤vi) && decide (vi<(p.vs.length:Int)))=true:=h 0 (by omega);have e1:aQ p V=true:=h 1 (by omega);have e2:cO V (p.vs.getD vi.toNat vz).brks.length=true:=h 2 (by omega);have e3:dH p (p.vs.getD vi.toNat vz) V=true:=h 3 (by omega);have e4:cG (p.vs.getD vi.toNat vz) V=true:=h 4 (by omega);have e5:cA p p.dims.toNat (p.vs.getD vi.toNat vz) V=true:=h 5 (by omega);have e:bN p (aB p (p.vs.getD vi.toNat vz) V)=false:=hb;rw [e0,e1,e2,e3,e4,e5,e];rfl
 | 7,_ =>
  have e0:(decide (0≤vi) && decide (vi<(p.vs.length:Int)))=true:=h 0 (by omega);have e1:aQ p V=true:=h 1 (by omega);have e2:cO V (p.vs.getD vi.toNat vz).brks.length=true:=h 2 (by omega);have e3:dH p (p.vs.getD vi.toNat vz) V=true:=h 3 (by omega);have e4:cG (p.vs.getD vi.toNat vz) V=true:=h 4 (by omega);have e5:cA p p.dims.toNat (p.vs.getD vi.toNat vz) V=true:=h 5 (by omega);have e6:bN p (aB p (p.vs.getD vi.toNat vz) V)=true:=h 6 (by omega);have e:cR p.time (aB p (p.vs.getD vi.toNat vz) V) (p.vs.getD vi.toNat vz).shift.1=false:=hb;rw [e0,e1,e2,e3,e4,e5,e6,e];rfl
theorem yeX {p:Prb} {vi:Int} {V:List Vst} (h:∀ j,j<8→jG p vi V j=true):ofE p vi V=0:=by
 unfold ofE dI;rw [p9];have e0:(decide (0≤vi) && decide (vi<(p.vs.length:Int)))=true:=h 0 (by omega);have e1:aQ p V=true:=h 1 (by omega);have e2:cO V (p.vs.getD vi.toNat vz).brks.length=true:=h 2 (by omega);have e3:dH p (p.vs.getD vi.toNat vz) V=true:=h 3 (by omega);have e4:cG (p.vs.getD vi.toNat vz) V=true:=h 4 (by omega);have e5:cA p p.dims.toNat (p.vs.getD vi.toNat vz) V=true:=h 5 (by omega);have e6:bN p (aB p (p.vs.getD vi.toNat vz) V)=true:=h 6 (by omega);have e7:cR p.time (aB p (p.vs.getD vi.toNat vz) V) (p.vs.getD vi.toNat vz).shift.1=true:=h 7 (by omega);rw [e0,e1,e2,e3,e4,e5,e6,e7];rfl
theorem eX {p:Prb} {vi:Int} {V:List Vst} (h:ofE p vi V≠0):ofP p vi V=planZ:=by unfold ofP;rw [decide_eq_false h];rfl
theorem qU {p:Prb} {vi:Int} {V:List Vst} (h:ofE p vi V=0):ofP p vi V=dK p vi (p.vs.getD vi.toNat vz) V:=by unfold ofP;rw [decide_eq_true h];rfl
theorem pT:∀ (V:List Vst) (n q:Nat),gC n V=some q→n≤q∧∀ u ∈ V,u.1=4→∃ j:Nat,u.2=j∧j<q
 | [],n,q,h=>by simp [gC] at h;exact ⟨by omega,fun u hu=>by simp at hu⟩
 | v::V,n,q,h=>by
  unfold gC at h
  split at h
  ·split at h
   ·obtain ⟨h1,h2⟩:=pT V (n+1) q h;refine ⟨by omega,fun u hu h4=>?_⟩
    rcases List.mem_cons.1 hu with rfl | hu
    ·exact ⟨n,by assumption,by omega⟩
    ·exact h2 u hu h4
   ·cases h
  ·obtain ⟨h1,h2⟩:=pT V n q h;refine ⟨h1,fun u hu h4=>?_⟩
   rcases List.mem_cons.1 hu with rfl | hu
   ·exact absurd h4 (by assumption)
   ·exact h2 u hu h4
theorem qN {p:Prb} {k:Nat} {V:List Vst} (h:cO V (p.vs.getD k vz).brks.length=true):∀ u ∈ V,u.1=4→∃ j:Nat,u.2=j∧j<(p.vs.getD k vz).brks.length:=(pT V 0 _ (of_decide_eq_true h)).2
theorem fU {p:Prb} {vi:Int} (h:(decide (0≤vi) && decide (vi<(p.vs.length:Int)))=true):∃ k:Nat,vi=k∧k<p.vs.length:=by
 simp at h;exact ⟨vi.toNat,by omega,by omega⟩
theorem yaC {w:World} {x:aU} {p:Prb} {vi:Int} {m vc:Nat} {va:Option Addr} {V:List Vst} (h:PrbV w x p) (hl:aY p=true) (hV:VsV w (.slice va m vc) V) (hm:V.length=m) (hm2:m≤100) {i:Nat} (hi:i<8) (hp:∀ j,j<i→jG p vi V j=true) :
  Calls Try.prog (fnC i) #[.agg (cB p x vi (.slice va m vc))] w fun e w'=>e=.returned (.bool (jG p vi V i))∧Below w.heap.size w w':=by
 match i,hi with
 | 0,_=>exact mH h vi
 | j+1,hj =>
  obtain ⟨k,rfl,hk⟩:=fU (hp 0 (by omega))
  match j,hj with
  | 0,_=>exact ybQ h hl hV hm (by omega)
  | 1,_=>exact zF h hk hV hm
  | 2,_=>exact ygL h hl hk hV hm hm2
  | 3,_=>exact yb3 h hl hk hV hm hm2
  | 4,_=>exact ycL h hl hk hV hm (by omega)
  | 5,_=>exact zN h hl hk hV hm (by omega) (qN (hp 2 (by omega)))
  | 6,_=>exact yQ h hl hk hV hm (by omega) (qN (hp 2 (by omega)))
end Go.Proofs.Ytgjpkpmikbpcnaa
