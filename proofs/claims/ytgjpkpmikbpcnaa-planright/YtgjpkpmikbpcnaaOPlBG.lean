import Derived.Test.YtgjpkpmikbpcnaaORTskG
import Derived.Test.YtgjpkpmikbpcnaaORowS
set_option maxRecDepth 100000
set_option maxHeartbeats 12800000
namespace Go.Proofs.Ytgjpkpmikbpcnaa
theorem kZ {L:List Win} (h:uI L=true):1≤L.length∧L.length≤4∧Lw L:=chk_ok (of_decide_eq_true h)
theorem gS {x m:Int} (h:upB x m=true):0≤x∧x≤m:=of_decide_eq_true h
theorem eC {p:Prb} (h:aY p=true) {k:Nat} (hk:k<p.vs.length):pE p.dims p.time.n (p.vs.getD k vz)=true:=by
 obtain ⟨_,_,_,_,h5⟩:=jP h;unfold ydR at h5;simp only [Bool.and_eq_true] at h5;exact List.all_eq_true.1 h5.1.1 _ (kS _ _ _ hk)
structure iS (d n:Int) (v:Veh):Prop where
 start:0≤v.start∧v.start≤n-1
 stop:0≤v.stop∧v.stop≤n-1
 cap:pI v.cap d=true
 skills:v.skills<4611686018427387904
 shift:0≤v.shift.1∧v.shift.1≤v.shift.2∧v.shift.2≤1000000
 fixed:0≤v.fixed∧v.fixed≤1000000
 perT:0≤v.perT∧v.perT≤1000000
 perD:0≤v.perD∧v.perD≤1000000
 maxT:0≤v.maxT∧v.maxT≤12
 two:v.brks.length≤2
 brks:∀ b ∈ v.brks,1≤b.wins.length∧b.wins.length≤4∧Lw b.wins∧0≤b.serv∧b.serv≤1000000
theorem fL {d n:Int} {v:Veh} (h:pE d n v=true):iS d n v:=by
 unfold pE at h;simp only [Bool.and_eq_true] at h;obtain ⟨⟨⟨⟨⟨⟨⟨⟨⟨⟨h1,h2⟩,h3⟩,h4⟩,h5⟩,h6⟩,h7⟩,h8⟩,h9⟩,h10⟩,h11⟩:=h;have hs:=(kZ h5).2.2.1 v.shift (by simp);refine ⟨gS h1,gS h2,h3,of_decide_eq_true h4,⟨hs.2.1,hs.1,hs.2.2⟩,gS h6,gS h7,gS h8,gS h9,of_decide_eq_true h10,fun b hb=>?_⟩;have:=List.all_eq_true.1 h11 b hb;unfold rL at this;simp only [Bool.and_eq_true] at this;have h1:=kZ this.1;have h2:=gS this.2;exact ⟨h1.1,h1.2.1,h1.2.2,h2.1,h2.2⟩
def iT (s:Stp):Prop:=Lw s.wins∧0≤s.serv∧s.serv≤1000000
theorem ye0:Lw []:=⟨fun _ h=>by simp at h,List.Pairwise.nil⟩
theorem yaN:iT sz:=⟨ye0,by decide,by decide⟩
theorem lI {n:Int} {s:Stp} (h:oD n s=true):iT s∧1≤s.wins.length∧0≤s.place∧s.place≤n-1:=by
 unfold oD at h;simp only [Bool.and_eq_true] at h;have h1:=gS h.1.1;have h2:=gS h.1.2;have h3:=kZ h.2;exact ⟨⟨h3.2.2,h2⟩,h3.1,h1⟩
theorem stpM_ok {p:Prb} (h:aY p=true) (k i:Int):iT (aS p k i):=by
 cases ht:aI p k i with
 | false=>rw [lH ht];exact yaN
 | true =>
  rcases aN ht with ⟨_,j,_,hj,e⟩ | ⟨_,j,_,hj,e⟩ | ⟨_,j,_,hj,e⟩ <;> rw [e]
  ·have:=lY h hj;unfold mK at this;simp only [Bool.and_eq_true] at this;exact (lI this.1.1.1.1).1
  ·have:=fV h hj;unfold jE at this;simp only [Bool.and_eq_true] at this;exact (lI this.1.1.1.1).1
  ·have:=fV h hj;unfold jE at this;simp only [Bool.and_eq_true] at this;exact (lI this.1.1.1.2).1
section
variable {p:Prb} {v:Veh} {d n:Int}
theorem ygA (hv:iS d n v) (i:Nat):Lw (v.brks.getD i bz).wins∧0≤(v.brks.getD i bz).serv∧(v.brks.getD i bz).serv≤1000000:=by
 by_cases hi:i<v.brks.length
 ·have:=hv.brks _ (kS v.brks bz i hi);exact ⟨this.2.2.1,this.2.2.2⟩
 ·rw [List.getD_eq_getElem?_getD,List.getElem?_eq_none (by omega)];exact ⟨ye0,by decide,by decide⟩
theorem ya7 (hv:iS d n v) (x:Int):iT (mC v x):=by
 refine ⟨⟨fun w hw=>?_,by simp [mC]⟩,by simp [mC],by simp [mC]⟩
 simp [mC] at hw
 subst hw;have:=hv.shift
 omega
theorem yd5 (hl:aY p=true) (hv:iS d n v) (was:Int) (u:Vst):iT (aM p v was u):=by
 unfold aM
 split
 ·exact ygA hv _
 ·exact stpM_ok hl _ _
theorem fP (hl:aY p=true) (hv:iS d n v) (V:List Vst) (i:Nat):iT ((aB p v V).getD i sz):=by
 rcases Nat.lt_trichotomy i (V.length+1) with h | h | h
 ·cases i with
  | zero=>rw [cK];exact ya7 hv _
  | succ i=>rw [gD (List.getElem?_eq_getElem (show i<V.length by omega))];exact yd5 hl hv _ _
 ·subst h;rw [fQ];exact ya7 hv _
 ·rw [List.getD_eq_getElem?_getD,List.getElem?_eq_none (by rw [aO];omega)];exact yaN
end
theorem ybI {n:Int} {m:Mat} (h:gW n m=true) (hm:SqM m) (f t:Int):-1≤aK m f t∧aK m f t≤32000000:=by
 unfold aK
 split
 ·rename_i hb;simp only [Bool.and_eq_true] at hb;have h1:=gS hb.1;have h2:=gS hb.2;obtain ⟨k1,k2,k3⟩:=hm;unfold gW at h;simp only [Bool.and_eq_true] at h;have hn:m.n=n:=of_decide_eq_true h.1.1
  have e0:f*m.n+t<m.n*m.n:=by
   have:f*m.n≤(m.n-1)*m.n:=Int.mul_le_mul_of_nonneg_right h1.2 (by omega);rw [Int.sub_mul] at this
   omega
  have e1:0≤f*m.n:=Int.mul_nonneg h1.1 (by omega);have hi:(f*m.n+t).toNat<m.cells.length:=by omega
  have:=List.all_eq_true.1 h.2 _ (List.mem_range.2 hi);unfold yA at this;simp only [Bool.and_eq_true] at this;exact of_decide_eq_true this.1
 ·omega
theorem iF {L:List Win} (h:Lw L) (t:Int):0≤(Hr.startM t L).1∧(Hr.startM t L).1≤1000000:=by
 rcases Hr.startM_is t L h with ⟨_,_,⟨w,hw,h1,h2⟩,_⟩ | ⟨e,_⟩
 ·have:=h.1 w hw;omega
 ·rw [e];decide
structure WaysOk (p:Prb):Prop where
 st:SqM p.time
 sd:SqM p.dist
 mt:∀ f t,-1≤aK p.time f t∧aK p.time f t≤32000000
 md:∀ f t,-1≤aK p.dist f t∧aK p.dist f t≤32000000
 dim:0≤p.dims∧p.dims≤3
 vs:p.vs.length≤4
 ts:p.js.length+p.ss.length≤12
theorem bF {p:Prb} (h:aY p=true):WaysOk p:=by
 obtain ⟨h1,h2,h3,h4,_⟩:=jP h;unfold xX at h1;simp only [Bool.and_eq_true] at h1;have hd:=gS h1.1;have hn:1≤p.time.n∧p.time.n≤32:=of_decide_eq_true h1.2;have s1:=sK h2 hn.1 hn.2;have s2:=sK h3 hn.1 hn.2;have hf:=of_decide_eq_true h4;exact ⟨s1,s2,ybI h2 s1,ybI h3 s2,hd,hf.1,hf.2⟩
theorem dD {m:Mat} (h:∀ f t,-1≤aK m f t∧aK m f t≤32000000) (S:List Stp) (i:Nat):-1≤aE m S i∧aE m S i≤32000000:=by
 unfold aE
 split
 ·omega
 ·exact h _ _
section
variable {m:Mat} {S:List Stp} {f:Int}
theorem tF (hS:∀ i,iT (S.getD i sz)) (hf:0≤f∧f≤1000000):∀ i,0≤lfM m S f i∧lfM m S f i≤2000000
 | 0=>by show 0≤f∧f≤2000000;omega
 | i+1=>by
  rw [eP];have h1:=hS i;have h2:=iF h1.1 (eQ m S f i);have h3:=h1.2;unfold dR
  omega
theorem yaG (hm:∀ f t,-1≤aK m f t∧aK m f t≤32000000) (hS:∀ i,iT (S.getD i sz)) (hf:0≤f∧f≤1000000) (i:Nat):-1≤eQ m S f i∧eQ m S f i≤34000000:=by
 have h1:=tF (m:=m) hS hf i;have h2:=dD hm S i;unfold eQ
 omega
theorem ygE (hS:∀ i,iT (S.getD i sz)) (i:Nat):0≤(dR m S f i).1∧(dR m S f i).1≤1000000:=iF (hS i).1 _
theorem wait_ok (hm:∀ f t,-1≤aK m f t∧aK m f t≤32000000) (hS:∀ i,iT (S.getD i sz)) (hf:0≤f∧f≤1000000) (i:Nat):-34000000≤bW m S f i∧bW m S f i≤34000000:=by
 have h1:=yaG hm hS hf i;have h2:=ygE (m:=m) (f:=f) hS i;unfold bW
 omega
theorem eA (hm:∀ f t,-1≤aK m f t∧aK m f t≤32000000) (k:Nat) (hk:k≤110):-110≤aH (aE m S) k∧aH (aE m S) k≤3520000000:=by
 have:=mU (f:=aE m S) (l:=-1) (u:=32000000) k fun i _=>dD hm S i
 omega
theorem pK (hm:∀ f t,-1≤aK m f t∧aK m f t≤32000000) (hS:∀ i,iT (S.getD i sz)) (hf:0≤f∧f≤1000000) (k:Nat) (hk:k≤110):-3740000000≤aH (bW m S f) k∧aH (bW m S f) k≤3740000000:=by
 have:=mU (f:=bW m S f) (l:=-34000000) (u:=34000000) k fun i _=>wait_ok hm hS hf i
 omega
theorem pL (hS:∀ i,iT (S.getD i sz)) (k:Nat) (hk:k≤110):0≤aH (fR S) k∧aH (fR S) k≤110000000:=by
 have:=mU (f:=fR S) (l:=0) (u:=1000000) k fun i _=>(hS i).2
 omega
end
end Go.Proofs.Ytgjpkpmikbpcnaa
namespace Go.Proofs.Ytgjpkpmikbpcnaa
open Go.RowKit
structure CarV (w:World) (x:aU) (p:Prb) (k:Nat) (ca:Option Addr) (cc:Nat) (ba:Option Addr) (bc:Nat):Prop where
 lt:k<p.vs.length
 at_:∃ b off c,x.v=.slice (some ⟨b,off,none⟩) p.vs.length c∧b<w.heap.size∧∀ j,j<11→w.cell? ⟨b,off+k*11+j,none⟩=(kF (p.vs.getD k vz) (.slice ca (p.vs.getD k vz).cap.length cc) (.slice ba (p.vs.getD k vz).brks.length bc))[j]?
 cap:IntsV w (.slice ca (p.vs.getD k vz).cap.length cc) (p.vs.getD k vz).cap
 brks:BrksV w (.slice ba (p.vs.getD k vz).brks.length bc) (p.vs.getD k vz).brks
theorem CarV.on {w w':World} {x:aU} {p:Prb} {k:Nat} {ca ba:Option Addr} {cc bc:Nat} (h:CarV w x p k ca cc ba bc) (f:Below w.heap.size w w'):CarV w' x p k ca cc ba bc:=by
 obtain ⟨h0,⟨b,off,c,h1,h2,h3⟩,h4,h5⟩:=h;exact ⟨h0,⟨b,off,c,h1,Nat.lt_of_lt_of_le h2 f.size,fun j hj=>(f.cell (p:=⟨b,_,none⟩) h2).trans (h3 j hj)⟩,h4.on f,h5.on f⟩
theorem PrbV.car {w:World} {x:aU} {p:Prb} {k:Nat} (h:PrbV w x p) (hk:k<p.vs.length):∃ ca cc ba bc,CarV w x p k ca cc ba bc:=by
 obtain ⟨b,off,c,xc,xb,he,hb,hcs,q1,q2⟩:=nX h.v hk;obtain ⟨ca,cc,rfl⟩:=q1.shape;obtain ⟨ba,bc,rfl⟩:=SlV.shape q2;exact ⟨ca,cc,ba,bc,hk,⟨b,off,c,he,hb,hcs⟩,q1,q2⟩
theorem jW {w:World} {x:aU} {p:Prb} {k m vc cc bc:Nat} {va ca ba:Option Addr} (h:PrbV w x p) (hc:CarV w x p k ca cc ba bc):Calls Try.prog 74 #[.agg (cB p x k (.slice va m vc))] w fun e w'=>e=.returned (.agg (eZ (p.vs.getD k vz) (.slice ca (p.vs.getD k vz).cap.length cc) (.slice ba (p.vs.getD k vz).brks.length bc)))∧Below w.heap.size w w':=by
 obtain ⟨hk,⟨b,off,c,he,hb,hcs⟩,q1,q2⟩:=hc;have hbd:=SlV.bound h.v;obtain ⟨ta,tc,da,dc,va',vc',ja,jc,sa,sc,rfl⟩:=h.open;simp only at he;injection he with he1 _ he3;subst he1 he3;obtain ⟨V,hV⟩:∃ V,p.vs.getD k vz=V:=⟨_,rfl⟩;rw [hV] at hcs ⊢;clear hV q1 q2;obtain ⟨lc,hlc⟩:∃ q,V.cap.length=q:=⟨_,rfl⟩;obtain ⟨lb,hlb⟩:∃ q,V.brks.length=q:=⟨_,rfl⟩;rw [hlc,hlb] at hcs ⊢;clear hlc hlb;have c0v:w.cell? ⟨b,off+k*11,none⟩=some (.int .i64 V.start):=hcs 0 (by decide);have c1v:w.cell? ⟨b,off+k*11+1,none⟩=some (.int .i64 V.stop):=hcs 1 (by decide);have c2v:w.cell? ⟨b,off+k*11+2,none⟩=some (.slice ca lc cc):=hcs 2 (by decide);have c3v:w.cell? ⟨b,off+k*11+3,none⟩=some (.int .u64 V.skills):=hcs 3 (by decide);have c4v:w.cell? ⟨b,off+k*11+4,none⟩=some (.int .i64 V.shift.1):=hcs 4 (by decide);have c5v:w.cell? ⟨b,off+k*11+5,none⟩=some (.int .i64 V.shift.2):=hcs 5 (by decide);have c6v:w.cell? ⟨b,off+k*11+6,none⟩=some (.int .i64 V.fixed):=hcs 6 (by decide);have c7v:w.cell? ⟨b,off+k*11+7,none⟩=some (.int .i64 V.perT):=hcs 7 (by decide);have c8v:w.cell? ⟨b,off+k*11+8,none⟩=some (.int .i64 V.perD):=hcs 8 (by decide);have c9v:w.cell? ⟨b,off+k*11+9,none⟩=some (.int .i64 V.maxT):=hcs 9 (by decide);have c10v:w.cell? ⟨b,off+k*11+10,none⟩=some (.slice ba lb bc):=hcs 10 (by decide);have HB0:Hid (∀ A B,Below w.heap.size w ((w.alloc A).alloc B)):=fun A B=>((Below.refl _ _).alloc (Nat.le_refl _) A).alloc (by simp) B;obtain ⟨ln,hln⟩:∃ q,p.vs.length=q:=⟨_,rfl⟩;rw [hln] at hk hbd;unfold cB;simp only;rw [hln];have i1:(0:Int)≤(k:Int):=by omega
 have i2:(k:Int)<(ln:Int):=by omega
 have i3:¬ (ln:Int)≤(k:Int):=by omega
 have n0:¬ b=w.heap.size:=by omega
 have n1:¬ b=w.heap.size+1:=by omega
 clear hcs h hln;go_enter Try.func74,Try.ntmps74;go_wp2;refine bodyPost_ret (v:=.agg (eZ V (.slice ca lc cc) (.slice ba lb bc))) ?_ rfl ⟨rfl,?_⟩
 ·simp [results,Try.results74,go_sem,eZ]
 ·(repeat (first | exact HB0.out _ _ | (refine Below.setCell ?_ (by simp) _) | refine Below.drew ?_))
end Go.Proofs.Ytgjpkpmikbpcnaa
namespace Go.Proofs.Ytgjpkpmikbpcnaa
open Go.RowKit
theorem wI {p:Prb} {dd q:Nat} {V:List Vst} {u:Vst} (h:V[q]? = some u):startM p dd (V.take (q+1))=kC p u (startM p dd (V.take q)):=by rw [eI h,kL]
theorem yZ {p:Prb} {dd:Nat} (h:aY p=true) (hd:p.dims=dd) (V:List Vst) (q:Nat) (hq:q≤110):(startM p dd (V.take q)).length=dd∧Smal 1000000000 (startM p dd (V.take q)):=by
 obtain ⟨h1,h2⟩:=g8 h hd (V.take q);have:=List.length_take_le q V;exact ⟨h1,h2.mono (by omega)⟩
theorem ycN {p:Prb} {dd:Nat} (h:aY p=true) (hd:p.dims=dd) (V:List Vst) (q:Nat) (hq:q≤110) (hV:V.length≤110):(dV p (startM p dd V) (V.take q)).length=dd∧Smal 10000000000 (dV p (startM p dd V) (V.take q)):=by
 obtain ⟨h1,h2⟩:=g8 h hd V;obtain ⟨h3,h4⟩:=rA h hd h1 h2 (V.take q);have:=List.length_take_le q V;exact ⟨h3,h4.mono (by omega)⟩
def ldQ (p:Prb) (dd:Nat) (V:List Vst) (q:Nat):List (List Int):=startM p dd V::goM p (startM p dd V) (V.take q)
theorem ldQ_len {p:Prb} {dd q:Nat} {V:List Vst} (h:q≤V.length):(ldQ p dd V q).length=q+1:=by unfold ldQ;rw [List.length_cons,vC,List.length_take,Nat.min_eq_left h]
theorem ye3 {p:Prb} {dd q:Nat} {V:List Vst} {u:Vst} (h:V[q]? = some u):ldQ p dd V (q+1)=ldQ p dd V q ++ [bK p u.1 u.2 (dV p (startM p dd V) (V.take q))]:=by
 unfold ldQ;rw [eI h,xN];rfl
theorem tG {p:Prb} {dd q:Nat} {V:List Vst} {u:Vst} (h:V[q]? = some u):dV p (startM p dd V) (V.take (q+1))=bK p u.1 u.2 (dV p (startM p dd V) (V.take q)):=by rw [eI h,q8]
theorem pP {p:Prb}:∀ (V:List Vst) (xs:List Int) (q:Nat),q<V.length→(goM p xs V)[q]? = some (dV p xs (V.take (q+1)))
 | [],_,_,h=>by simp at h
 | v::V,xs,0,_=>by simp [goM,dV]
 | v::V,xs,q+1,h=>by
  simp only [goM,List.getElem?_cons_succ,List.take_succ_cons];rw [pP V _ q (by simpa using h)];rfl
theorem xH {p:Prb} {dd q:Nat} {V:List Vst} (h:q≤V.length):(ldQ p dd V q)[q]? = some (dV p (startM p dd V) (V.take q)):=by
 unfold ldQ
 cases q with
 | zero=>rfl
 | succ q=>rw [List.getElem?_cons_succ,pP _ _ q (by rw [List.length_take];omega),List.take_take,Nat.min_self]
theorem tH {w:World} {base:Nat} {xs:List Int} {n c:Nat} (h:IRow w base (.slice none n c) xs):c=0:=by
 rcases h.2 with ⟨e,_⟩ | ⟨g,cap,cur,e,_⟩
 ·injection e
 ·cases e
theorem jQ {w:World} {base:Nat} {xs:List Int} {v:Value} (h:IRow w base v xs):InH w v:=fun g hg=>(World.ownsRow.lt h g hg).2
theorem cF {b n c g:Nat} (h:(Value.slice (some ⟨b,0,none⟩) n c).ownBlock=some g):b=g:=by
 have h:some b=some g:=h;injection h
theorem apt_old {w:World} {y u:Value} (h:InH w u) (hy:∀ g,y.ownBlock=some g→w.heap.size≤g):Apt y u:=fun g hg hg'=>by
 have:=h g hg';have:=hy g hg
 omega
theorem LdS.mono {w:World} {base base':Nat} {v:Value} {LL:List (List Int)} {ys:List Value} (h:LdS w base v LL ys) (hb:base'≤base):LdS w base' v LL ys:=⟨h.len,bC h.own hb,fun k x y hx hy=>⟨(h.sat k x y hx hy).1.mono hb,(h.sat k x y hx hy).2⟩⟩
theorem LdS.on {w w':World} {base:Nat} {v:Value} {LL:List (List Int)} {ys:List Value} (h:LdS w base v LL ys) (f:Below w.heap.size w w'):LdS w' base v LL ys:=RowS.on h (qX base) f
theorem sZ {w:World} {x:aU} {p:Prb} {m vc:Nat} {va:Option Addr} {V:List Vst} (h:PrbV w x p) (hL:aY p=true) (hV:VsV w (.slice va m vc) V) (hm:V.length=m) (hm2:m≤110):Calls Try.prog 42 #[.agg (aL p x),.slice va m vc] w fun e w'=>∃ v ys,e=.returned v∧LdS w' w.heap.size v (bZ p p.dims.toNat V) ys∧Sep ys∧Below w.heap.size w w':=by
 have HB0:Hid (∀ A,Below w.heap.size w (w.alloc A)):=fun A=>(Below.refl _ _).alloc (Nat.le_refl _) A;have HP:=hide h;have HV:=hide hV;have HM:=hide hm;have HLW:=hide hL;have hjb:=SlV.bound h.j;obtain ⟨dd,hdd⟩:∃ dd:Nat,p.dims=dd:=⟨p.dims.toNat,by have:=(bF hL).dim;omega⟩;have hd3:dd≤3:=by have:=(bF hL).dim;omega
 have HDD:=hide hdd;rw [show p.dims.toNat=dd by omega];clear hV hm hL;obtain ⟨ta,tc,da,dc,va',vc',ja,jc,sa,sc,rfl⟩:=h.open;clear h;have HTE:Hid (aL p ⟨.slice ta p.time.cells.length tc,.slice da p.dist.cells.length dc,.slice va' p.vs.length vc',.slice ja p.js.length jc,.slice sa p.ss.length sc⟩=#[.int .i64 p.dims,.int .i64 p.time.n,.slice ta p.time.cells.length tc,.int .i64 p.dist.n,.slice da p.dist.cells.length dc,.slice va' p.vs.length vc',.slice ja p.js.length jc,.slice sa p.ss.length sc]):=rfl;rw [HTE.out];have H77:Hid (∀ W2,Calls Try.prog 77 #[.int .i64 p.dims] W2 fun e w'=>e=.returned (.slice (some ⟨W2.heap.size,0,none⟩) dd dd)∧w'=W2.alloc (.cells (Array.replicate dd (.int .i64 0)) 3)):=fun W2=>by rw [hdd];exact Ld.zero_in dd W2 hd3
 have H78:Hid (∀ W2 (k i:Int),PrbV W2 ⟨.slice ta p.time.cells.length tc,.slice da p.dist.cells.length dc,.slice va' p.vs.length vc',.slice ja p.js.length jc,.slice sa p.ss.length sc⟩ p→Calls Try.prog 78 #[.agg #[.int .i64 p.dims,.int .i64 p.time.n,.slice ta p.time.cells.length tc,.int .i64 p.dist.n,.slice da p.dist.cells.length dc,.slice va' p.vs.length vc',.slice ja p.js.length jc,.slice sa p.ss.length sc],.agg #[.int .i64 k,.int .i64 i]] W2 fun e w'=>e=.returned (.bool (aI p k i))∧Below W2.heap.size W2 w'):=fun W2 k i hp=>fH hp k i;have H81:Hid (∀ W2 (k i:Int) {aa:Option Addr} {ac:Nat} {xs:List Int},PrbV W2 ⟨.slice ta p.time.cells.length tc,.slice da p.dist.cells.length dc,.slice va' p.vs.length vc',.slice ja p.js.length jc,.slice sa p.ss.length sc⟩ p→IntsAt W2 aa xs→(aa=none→ac=0)→xs.length=dd→Smal 10000000000 xs→Calls Try.prog 81 #[.agg #[.int .i64 p.dims,.int .i64 p.time.n,.slice ta p.time.cells.length tc,.int .i64 p.dist.n,.slice da p.dist.cells.length dc,.slice va' p.vs.length vc',.slice ja p.js.length jc,.slice sa p.ss.length sc],.agg #[.int .i64 k,.int .i64 i],.slice aa dd ac] W2 fun e w'=>∃ u,e=.returned u∧w'.ownsRow W2.heap.size 3 1 u dd (intsV (bK p k i xs))∧Below W2.heap.size W2 w'):=fun W2 k i _ _ _ hp ha hc hn hs=>yaF hp HLW.out k i hdd ha hc hn hd3 hs;clear hdd;have hw1:IntKind.i64.wrap ((m:Int)+1)=(m:Int)+1:=by rw [IntKind.wrap_i64];omega
 go_enter Try.func42,Try.ntmps42;go_wp2_with (first | (go_at_call 77;refine (H77.out _).mono ?_;rintro e w1 ⟨rfl,hw1⟩;have HL1:Hid (w.heap.size<w1.heap.size):=(by show _<_;rw [hw1];simp;omega);have HB1:Hid (Below w.heap.size w w1):=(by show Below _ _ _;rw [hw1];exact below_on (HB0.out _) Mn.a);have HC1:Hid (∀ j,w1.cell? ⟨w.heap.size,j,none⟩=(#[.int .i64 p.dims,.int .i64 p.time.n,.slice ta p.time.cells.length tc,.int .i64 p.dist.n,.slice da p.dist.cells.length dc,.slice va' p.vs.length vc',.slice ja p.js.length jc,.slice sa p.ss.length sc]:Array Value)[j]?):=(fun j=>by rw [hw1,((aA ((Below.refl _ (w.alloc (.cells #[.int .i64 p.dims,.int .i64 p.time.n,.slice ta p.time.cells.length tc,.int .i64 p.dist.n,.slice da p.dist.cells.length dc,.slice va' p.vs.length vc',.slice ja p.js.length jc,.slice sa p.ss.length sc] 29))).alloc (Nat.le_refl _) _)).1 _ j (by simp))];exact cell_of_row _ _ _ _ _ _ (heap_alloc_new w _));have hsz:(w.alloc (.cells #[.int .i64 p.dims,.int .i64 p.time.n,.slice ta p.time.cells.length tc,.int .i64 p.dist.n,.slice da p.dist.cells.length dc,.slice va' p.vs.length vc',.slice ja p.js.length jc,.slice sa p.ss.length sc] 29)).heap.size=w.heap.size+1:=(by simp);have HR1:Hid (IRow w1 (w.heap.size+1) (.slice (some ⟨w.heap.size+1,0,none⟩) dd dd) (startM p dd (V.take 0))):=(by have h9:=Ld.irow_made (w.alloc (.cells #[.int .i64 p.dims,.int .i64 p.time.n,.slice ta p.time.cells.length tc,.int .i64 p.dist.n,.slice da p.dist.cells.length dc,.slice va' p.vs.length vc',.slice ja p.js.length jc,.slice sa p.ss.length sc] 29)) (base:=w.heap.size+1) (n:=dd) (by simp) (by omega);rw [← hw1,hsz] at h9;exact h9);clear hw1 hsz) | fail)
 go_loopw [16,5] (fun vi v5 wr=>∃ (q:Nat) (aa:Option Addr) (ac:Nat),vi=.int .i64 q∧v5=.slice aa dd ac∧q≤m∧Hid (IRow wr (w.heap.size+1) (.slice aa dd ac) (startM p dd (V.take q)))∧Hid (Below w1.heap.size w1 wr)) (fun vi _ _=>m-(intOf vi).toNat)
 case atStart=>exact ⟨0,some ⟨w.heap.size+1,0,none⟩,dd,rfl,rfl,Nat.zero_le _,HR1.out,Below.refl _ _⟩
 case round =>
  clear HR1;obtain ⟨q,aa,ac,rfl,rfl,hq,HR,HB⟩:=hrel
  by_cases hqm:q<m
  ·have i1:(q:Int)<(m:Int):=by omega
   have i2:(0:Int)≤(q:Int):=by omega
   have i3:¬ (m:Int)≤(q:Int):=by omega
   obtain ⟨⟨kd,it⟩,hu⟩:∃ u,V[q]? = some u:=⟨_,List.getElem?_eq_getElem (by rw [HM.out];exact hqm)⟩;obtain ⟨b,off,rfl,hb,c1,c2,_⟩:=bL HV.out hu;simp only at c1 c2;have d1:wr.cell? ⟨b,off+q*2,none⟩=some (.int .i64 kd):=((aA (below_on HB1.out HB.out)).1 _ _ hb).trans c1;have d2:wr.cell? ⟨b,off+q*2+1,none⟩=some (.int .i64 it):=((aA (below_on HB1.out HB.out)).1 _ _ hb).trans c2;have HU:=hide hu;have HST:=hide (wI (p:=p) (dd:=dd) hu);clear c1 c2 hu hb;have HA:Hid (∀ o,Below w1.heap.size w1 (wr.alloc o)):=fun o=>HB.out.alloc HB.out.size o;have HRA:Hid (∀ o,IRow (wr.alloc o) (w.heap.size+1) (.slice aa dd ac) (startM p dd (V.take q))):=fun o=>HR.out.later (Nat.le_refl _) ((Below.refl _ _).alloc (Nat.le_refl _) o);have HSZ:Hid (w.heap.size<wr.heap.size):=Nat.lt_of_lt_of_le HL1.out HB.out.size;obtain ⟨r0,r1,r2,r3,r4,r5,r6,r7⟩:=Mn.c8 (fun j=>((aA HB.out).1 _ j HL1.out).trans (HC1.out j));have nb:¬ w.heap.size=wr.heap.size:=by have:=HSZ.out;omega
   have lb:w.heap.size<wr.heap.size:=HSZ.out
   by_cases hk1:kd=1
   ·subst hk1
    cases ht:aI p 1 it with
    | false =>
     have HT:=hide ht;have HS:Hid (startM p dd (V.take (q+1))=startM p dd (V.take q)):=by show _=_;rw [HST.out];unfold kC;rw [if_neg];rintro ⟨_,h2⟩;rw [ht] at h2;cases h2
     clear ht;go_wp2_with (first | (go_at_call 78;refine (H78.out _ _ _ (HP.out.on (below_on HB1.out (HA.out _)))).mono ?_;rintro e w2 ⟨rfl,k2⟩;rw [HT.out];have B2:=hide (below_on (HA.out _) k2);have HR2:=hide ((HRA.out _).later (Nat.le_refl _) k2);clear k2) | fail);go_roundw
     case rel=>exact ⟨q+1,aa,ac,by go_num,rfl,by omega,by rw [HS.out];exact HR2.out,B2.out⟩
     case measure=>simp [intOf];omega
    | true =>
     have HT:=hide ht
     obtain ⟨j,rfl,hj⟩:∃ j:Nat,it=j∧j<p.js.length:=by
      rcases aN ht with ⟨_,j,e,hj,_⟩ | ⟨e,_⟩ | ⟨e,_⟩
      ·exact ⟨j,e,hj⟩
      ·cases e
      ·cases e
     have HS:Hid (startM p dd (V.take (q+1))=kX (startM p dd (V.take q)) (p.js.getD j jz).drop):=by show _=_;rw [HST.out];unfold kC;rw [if_pos ⟨rfl,ht⟩];simp
     clear ht;obtain ⟨jb,joff,jcc,x1,x2,xa,he,hjb2,hcs,_,q2,_⟩:=dM HP.out.j hj;simp only at he;injection he with he1 _ he3;subst he1 he3;obtain ⟨fa,fc,rfl⟩:=q2.shape;have lD:=(fW HLW.out HDD.out hj).1;have HSD:=hide (fW HLW.out HDD.out hj).2.2.1;have c3:w.cell? ⟨jb,joff+j*7+3,none⟩=some (.slice fa (p.js.getD j jz).drop.length fc):=hcs 3 (by decide);rw [lD] at c3;have HLD:=hide lD;have HID:Hid (IntsAt w fa (p.js.getD j jz).drop):=by obtain ⟨a',c',e',_,_,hA⟩:=q2;injection e' with e1 _ _;subst e1;exact hA
     have HC3:Hid (∀ W2,Below w.heap.size w W2→W2.cell? ⟨jb,joff+j*7+3,none⟩=some (.slice fa dd fc)):=fun W2 hf=>((aA hf).1 _ _ hjb2).trans c3;have j1:(0:Int)≤(j:Int):=by omega
     have j2:(j:Int)<(p.js.length:Int):=by omega
     have j3:¬ (p.js.length:Int)≤(j:Int):=by omega
     have HFN:=hide (yZ HLW.out HDD.out V q (by omega));clear hcs q2 lD c3 hjb2;go_wp2_with (first | (go_at_call 79;refine (qW (IRow.ints HR2.out) (HID.out.later (below_on HB1.out B2.out)) HFN.out.1 HLD.out hd3 (HFN.out.2.mono (by decide)) (HSD.out.mono (by decide))).mono ?_;rintro e w3 ⟨a3,c3',rfl,R3,k3⟩;have HR3:=hide (R3.mono (Nat.succ_le_of_lt (Nat.lt_of_lt_of_le HSZ.out E2.out)));have B3:=hide (below_on B2.out k3);clear k3 R3) | (go_at_call 78;refine (H78.out _ _ _ (HP.out.on (below_on HB1.out (HA.out _)))).mono ?_;rintro e w2 ⟨rfl,k2⟩;rw [HT.out];have B2:=hide (below_on (HA.out _) k2);have HR2:=hide ((HRA.out _).later (Nat.le_refl _) k2);have E2:Hid (wr.heap.size≤w2.heap.size):=(by have:=k2.size;simp at this;show _≤_;omega);have jc3:=HC3.out w2 (below_on HB1.out B2.out);have jp6:w2.cell? ⟨w.heap.size,6,none⟩=some (.slice (some ⟨jb,joff,none⟩) p.js.length jc):=((aA B2.out).1 _ 6 HL1.out).trans (HC1.out 6);have v1:w2.cell? ⟨wr.heap.size,1,none⟩=some (.int .i64 j):=((aA k2).1 _ 1 (by simp)).trans (by simp [go_sem]);clear k2) | fail);go_roundw
     case rel=>exact ⟨q+1,a3,c3',by go_num,rfl,by omega,by rw [HS.out];exact HR3.out,B3.out⟩
     case measure=>simp [intOf];omega
   ·have y1:(kd == 1)=false:=by simpa using hk1
    have HS:Hid (startM p dd (V.take (q+1))=startM p dd (V.take q)):=by show _=_;rw [HST.out];unfold kC;rw [if_neg];rintro ⟨h2,_⟩;exact hk1 h2
    go_wp2;go_roundw
    case rel=>exact ⟨q+1,aa,ac,by go_num,rfl,by omega,by rw [HS.out];exact HRA.out _,HA.out _⟩
    case measure=>simp [intOf];omega
  ·have i1:¬ (q:Int)<(m:Int):=by omega
   have HT:Hid (V.take q=V):=by show _=_;rw [List.take_of_length_le (by rw [HM.out];omega)]
   have HR0:Hid (IRow wr (w.heap.size+1) (.slice aa dd ac) (startM p dd V)):=by have h9:=HR.out;rw [HT.out] at h9;exact h9
   have HSZ:Hid (w.heap.size<wr.heap.size):=Nat.lt_of_lt_of_le HL1.out HB.out.size;clear HR HT;go_wp2_with (first | (at_builtin;refine vP (wr:=w4) (LL:=[]) (ys:=[]) (.tmp 42) (.tmp 44) rfl rfl rfl rfl HROW.out rfl (by omega) (by have:=HS4.out;omega) HR4.out HAP.out ?_;intro g5 cap5 w5 r5 r6 _;have HR5:=hide r5;have B5:=hide ((HB.out.mono HL1.out).trans (B4.out.trans r6));clear r5 r6) | (at_make;refine m5 yfB Try.underlying79 (.const (.int .i64 0)) (.tmp 40) rfl rfl (n:=m+1) rfl rfl (by omega) (by omega) (by omega) ?_;intro w4 k4 k5 k6;have HROW:Hid (LdS w4 (w.heap.size+1) (.slice (some ⟨wr.heap.size,0,none⟩) 0 (m+1)) [] []):=RowS.nil (bC k4 HSZ.out);have B4:=hide (k5.mono (show w.heap.size+1≤wr.heap.size from HSZ.out));have HR4:=hide (HR0.out.later (Nat.le_refl _) k5);have HAP:Hid (Apt (.slice (some ⟨wr.heap.size,0,none⟩) 0 (m+1)) (.slice aa dd ac)):=apt_old (jQ HR0.out) (fun g hg=>Nat.le_of_eq (cF hg));have HS4:Hid (w.heap.size+1≤w4.heap.size):=Nat.le_trans HSZ.out (Nat.le_of_lt k6);clear k4 k5 k6) | fail);clear HR0 HR4 HROW HAP B4 HS4
   go_loopw [48,5,8] (fun vi v5 v8 wq=>∃ (q:Nat) (aa:Option Addr) (ac ga gc:Nat) (ys:List Value),vi=.int .i64 q∧v5=.slice aa dd ac∧v8=.slice (some ⟨ga,0,none⟩) (q+1) gc∧q≤m∧Hid (LdS wq (w.heap.size+1) (.slice (some ⟨ga,0,none⟩) (q+1) gc) (ldQ p dd V q) ys)∧Hid (Sep ys)∧Hid (ys[q]? = some (.slice aa dd ac))∧Hid (Below (w.heap.size+1) w1 wq)) (fun vi _ _ _=>m-(intOf vi).toNat)
   case atStart=>exact ⟨0,aa,ac,g5,cap5,[.slice aa dd ac],rfl,rfl,rfl,Nat.zero_le _,HR5.out,List.pairwise_singleton _ _,rfl,B5.out⟩
   case round =>
    clear HR5 B5 i1 HB HSZ;obtain ⟨q,aa,ac,ga,gc,ys,rfl,rfl,rfl,hq,HR,HSE,HY,HB⟩:=hrel;have hlk:=HP.out
    by_cases hqm:q<m
    ·have i1:(q:Int)<(m:Int):=by omega
     have i2:(0:Int)≤(q:Int):=by omega
     have i3:¬ (m:Int)≤(q:Int):=by omega
     obtain ⟨⟨kd,it⟩,hu⟩:∃ u,V[q]? = some u:=⟨_,List.getElem?_eq_getElem (by rw [HM.out];exact hqm)⟩;obtain ⟨b,off,rfl,hb,c1,c2,_⟩:=bL HV.out hu;simp only at c1 c2;have HBw:Hid (Below w.heap.size w wr):=HB1.out.trans (HB.out.mono (Nat.le_succ _));have d1:wr.cell? ⟨b,off+q*2,none⟩=some (.int .i64 kd):=((aA HBw.out).1 _ _ hb).trans c1;have d2:wr.cell? ⟨b,off+q*2+1,none⟩=some (.int .i64 it):=((aA HBw.out).1 _ _ hb).trans c2;have HLS:=hide (ye3 (p:=p) (dd:=dd) hu);have HLT:=hide (tG (p:=p) (dd:=dd) hu);have HLN:=hide (ldQ_len (p:=p) (dd:=dd) (V:=V) (q:=q) (by rw [HM.out];omega));have HFN:=hide (ycN HLW.out HDD.out V q (by omega) (by rw [HM.out];exact hm2));have HFN2:=hide (mN (k:=kd) (i:=it) HLW.out HDD.out HFN.out.1 HFN.out.2).1;have hx:(ldQ p dd V q)[q]? = some (dV p (startM p dd V) (V.take q)):=xH (by rw [HM.out];omega);have HAB:=hide (HR.out.sat q _ _ hx HY.out).1;clear c1 c2 hu hb hx hlk;have HSZ:Hid (w.heap.size<wr.heap.size):=Nat.lt_of_lt_of_le HL1.out HB.out.size;have lb:w.heap.size<wr.heap.size:=HSZ.out;have nb:¬ w.heap.size=wr.heap.size:=by omega
     have HA:Hid (∀ o,Below wr.heap.size wr (wr.alloc o)):=fun o=>(Below.refl _ _).alloc (Nat.le_refl _) o;have r0:wr.cell? ⟨w.heap.size,0,none⟩=some (.int .i64 p.dims):=(HB.out.cell (p:=⟨w.heap.size,0,none⟩) (Nat.lt_succ_self _)).trans (HC1.out 0);have r1:wr.cell? ⟨w.heap.size,1,none⟩=some (.int .i64 p.time.n):=(HB.out.cell (p:=⟨w.heap.size,1,none⟩) (Nat.lt_succ_self _)).trans (HC1.out 1);have r2:wr.cell? ⟨w.heap.size,2,none⟩=some (.slice ta p.time.cells.length tc):=(HB.out.cell (p:=⟨w.heap.size,2,none⟩) (Nat.lt_succ_self _)).trans (HC1.out 2);have r3:wr.cell? ⟨w.heap.size,3,none⟩=some (.int .i64 p.dist.n):=(HB.out.cell (p:=⟨w.heap.size,3,none⟩) (Nat.lt_succ_self _)).trans (HC1.out 3);have r4:wr.cell? ⟨w.heap.size,4,none⟩=some (.slice da p.dist.cells.length dc):=(HB.out.cell (p:=⟨w.heap.size,4,none⟩) (Nat.lt_succ_self _)).trans (HC1.out 4);have r5:wr.cell? ⟨w.heap.size,5,none⟩=some (.slice va' p.vs.length vc'):=(HB.out.cell (p:=⟨w.heap.size,5,none⟩) (Nat.lt_succ_self _)).trans (HC1.out 5);have r6:wr.cell? ⟨w.heap.size,6,none⟩=some (.slice ja p.js.length jc):=(HB.out.cell (p:=⟨w.heap.size,6,none⟩) (Nat.lt_succ_self _)).trans (HC1.out 6);have r7:wr.cell? ⟨w.heap.size,7,none⟩=some (.slice sa p.ss.length sc):=(HB.out.cell (p:=⟨w.heap.size,7,none⟩) (Nat.lt_succ_self _)).trans (HC1.out 7);go_wp2_with (first | (at_builtin;refine vP (wr:=w2) (.tmp 56) (.tmp 58) rfl rfl rfl rfl HR2.out HLN.out (by omega) HS2.out HU2.out HAP.out ?_;intro g3 cap3 w3 r5 r6 _;have HR3:=hide r5;have B3:=hide (B2.out.trans r6);clear r5 r6) | (go_at_call 81;refine (H81.out _ _ _ (HP.out.on (below_on HBw.out (HA.out _))) ((IRow.ints HAB.out).later (HA.out _)) (fun e=>by rw [e] at HAB;exact tH HAB.out) HFN.out.1 HFN.out.2).mono ?_;rintro e w2 ⟨u,rfl,R2,k2⟩;have F2:=hide (below_on (HA.out _) k2);have hsz2:wr.heap.size≤(wr.alloc (.cells #[.int .i64 kd,.int .i64 it] 34)).heap.size:=(by simp);have hge:=(fun g hg=>Nat.le_trans hsz2 (R2.lt g hg).1);have HU2:Hid (IRow w2 (w.heap.size+1) u (bK p kd it (dV p (startM p dd V) (V.take q)))):=(by show World.ownsRow _ _ _ _ _ _ _;rw [HFN2.out];exact bC R2 (Nat.le_trans HSZ.out hsz2));obtain ⟨ua,uc,hue⟩:=IRow.shape HU2.out;rw [HFN2.out] at hue;subst hue;have HR2:=hide (LdS.on HR.out F2.out);have HAP:Hid (Apt (.slice (some ⟨ga,0,none⟩) (q+1) gc) (.slice ua dd uc)):=pU (w:=wr) (fun g hg=>(World.ownsRow.lt HR.out.own g hg).2) hge;have HSP:Hid (Sep (ys ++ [.slice ua dd uc])):=wP HSE.out (fun y hy=>pU (RowS.inH HR.out y hy) hge);have B2:=hide (HB.out.trans (F2.out.mono HSZ.out));have HS2:Hid (w.heap.size+1≤w2.heap.size):=Nat.le_trans HSZ.out F2.out.size;clear k2 R2 hge hsz2) | fail);go_roundw
     case rel=>exact ⟨q+1,ua,uc,g3,cap3,ys ++ [Value.slice ua dd uc],by go_num,rfl,rfl,by omega,by rw [HLS.out];exact HR3.out,HSP.out,by show _=_;rw [List.getElem?_append_right (by rw [HR.out.len,HLN.out];omega),HR.out.len,HLN.out,Nat.sub_self];rfl,B3.out⟩
     case measure=>simp [intOf];omega
    ·have i1:¬ (q:Int)<(m:Int):=by omega
     have hqe:q=m:=by omega
     subst hqe;have HE:Hid (ldQ p dd V q=bZ p dd V):=by show _=_;unfold ldQ bZ;rw [List.take_of_length_le (by rw [HM.out];omega)]
     have HR9:Hid (LdS wr w.heap.size (.slice (some ⟨ga,0,none⟩) (q+1) gc) (bZ p dd V) ys):=by have h9:=HR.out.mono (Nat.le_succ w.heap.size);rw [HE.out] at h9;exact h9
     go_wp2;go_ret;exact ⟨_,rfl,ys,HR9.out,HSE.out,HB1.out.trans (HB.out.mono (Nat.le_succ _))⟩
end Go.Proofs.Ytgjpkpmikbpcnaa
