import Derived.Deep.RegionHeld3
import Derived.Test.YtgjpkpmikbpcnaaProg
import Derived.WalkKit
import Derived.WalkSpells
import Derived.WalkLawsBesides
import Derived.Deep.QuietTactic
import Derived.BigQuiet
import Derived.BigRegion
import Derived.Deep.RegionWith
import Derived.Deep.RegionHeld
import Derived.Laws.AppendOwnNone
import Derived.Laws.OwnMore
import Derived.Shelf.Abstract
import Derived.Test.YtgjpkpmikbpcnaaOStpAG
set_option maxRecDepth 100000
set_option maxHeartbeats 3200000
namespace Go.Proofs.Ytgjpkpmikbpcnaa
open Go.RowKit
def aK (m:Mat) (f t:Int):Int:=if (upB f (m.n-1) && upB t (m.n-1))=true then m.cells[(f*m.n+t).toNat]! else -1
def SqM (m:Mat):Prop:=1≤m.n∧m.n≤32∧(m.cells.length:Int)=m.n*m.n
theorem sK {n:Int} {m:Mat} (h:gW n m=true) (h1:1≤n) (h2:n≤32):SqM m:=by
 unfold gW at h;simp only [Bool.and_eq_true,decide_eq_true_eq] at h;obtain ⟨⟨rfl,h4⟩,_⟩:=h;exact ⟨h1,h2,h4⟩
theorem yfY {w:World} {x:Value} {m:Mat} (h:IntsV w x m.cells) (hm:SqM m) (f t:Int):Calls Try.prog 51 #[.agg #[.int .i64 m.n,x],.int .i64 f,.int .i64 t] w fun e w'=>e=.returned (.int .i64 (aK m f t))∧Below w.heap.size w w':=by
 obtain ⟨a,c,rfl,_,hl,hA⟩:=h;have HA:=hide hA;have HB0:Hid (∀ A,Below w.heap.size w (w.alloc A)):=fun A=>(Below.refl _ _).alloc (Nat.le_refl _) A;obtain ⟨n,L⟩:=m;obtain ⟨hn1,hn2,hn3⟩:=hm;simp only at hn1 hn2 hn3 HA hl ⊢;clear hA;obtain ⟨nn,rfl⟩:∃ nn:Nat,n=(nn:Int):=⟨n.toNat,by omega⟩;obtain ⟨ll,hll⟩:∃ k,L.length=k:=⟨_,rfl⟩;have HLL:=hide hll;rw [hll] at hn3 hl ⊢;obtain ⟨N2,hN⟩:∃ N2:Nat,nn*nn=N2:=⟨_,rfl⟩;have HNN:=hide hN;have hl2:ll=N2:=by rw [← hN];exact Int.ofNat_inj.1 (by rw [hn3];simp)
 subst hl2;have hN1:ll≤1024:=by rw [← hN];exact (Nat.mul_le_mul (show nn≤32 by omega) (show nn≤32 by omega):nn*nn≤32*32)
 clear hN hn3 hll;obtain ⟨b1,h1⟩:∃ b,upB f ((nn:Int)-1)=b:=⟨_,rfl⟩;obtain ⟨b2,h2⟩:∃ b,upB t ((nn:Int)-1)=b:=⟨_,rfl⟩;have H1:=hide h1;have H2:=hide h2;unfold aK;simp only;rw [h1,h2];clear h1 h2
 cases b1 with
 | false =>
  go_enter Try.func51,Try.ntmps51;go_wp2_with (go_at_call 58;refine (jI _ _ _).mono ?_;rintro e w' ⟨rfl,rfl⟩;rw [H1.out]);go_ret;exact ⟨by simp,HB0.out _⟩
 | true =>
  cases b2 with
  | false =>
   go_enter Try.func51,Try.ntmps51;go_wp2_with (go_at_call 58;refine (jI _ _ _).mono ?_;rintro e w' ⟨rfl,rfl⟩;first | rw [H1.out] | rw [H2.out]);go_ret;exact ⟨by simp,HB0.out _⟩
  | true =>
   obtain ⟨k1,k2⟩:=upB_iff.1 H1.out;obtain ⟨k3,k4⟩:=upB_iff.1 H2.out;obtain ⟨i,rfl⟩:∃ i:Nat,f=(i:Int):=⟨f.toNat,by omega⟩;obtain ⟨k,rfl⟩:∃ i:Nat,t=(i:Int):=⟨t.toNat,by omega⟩;have hlt:i<nn:=by omega
   have hkt:k<nn:=by omega
   obtain ⟨P,hP⟩:∃ P:Nat,i*nn=P:=⟨_,rfl⟩;have hPi:(i:Int)*(nn:Int)=(P:Int):=by rw [← hP];simp
   have hPP:P+nn≤ll:=by rw [← hP,← HNN.out];exact uW hlt
   have HJ:Hid (P+k<L.length):=by show _<_;have:=HLL.out;omega
   obtain ⟨b,off,rfl,c1⟩:=(HA.out.alloc (.cells #[.int .i64 nn,.slice a ll c] 24)) (P+k) HJ.out
   have hD:(ll:Int) / (nn:Int)=(nn:Int):=by
    have:=HNN.out;rw [← this];simp only [Int.natCast_mul];exact Int.mul_ediv_cancel _ (by omega)
   have hD2:Int.tdiv (ll:Int) (nn:Int)=(nn:Int):=by rw [Int.tdiv_eq_ediv_of_nonneg (by omega)];exact hD
   have i5:(P:Int)+(k:Int)<(ll:Int):=by omega
   have i6:¬ (ll:Int)≤(P:Int)+(k:Int):=by omega
   have i7:¬ (nn:Int)<(i:Int):=by omega
   have i8:P+k<ll:=by omega
   have E:Hid (((i:Int)*(nn:Int)+(k:Int)).toNat=P+k):=by show _=_;rw [hPi];omega
   rw [E.out]
   generalize L[P+k]! = z at c1
   clear hP k1 k2 k3 k4;go_enter Try.func51,Try.ntmps51;go_wp2_with (go_at_call 58;refine (jI _ _ _).mono ?_;rintro e w' ⟨rfl,rfl⟩;first | rw [H1.out] | rw [H2.out]);go_ret;exact ⟨by simp,HB0.out _⟩
theorem iA {w:World} {x:Value} {m:Mat} (h:IntsV w x m.cells) (hm:SqM m) (f t:Int):Calls Try.prog 48 #[.agg #[.int .i64 m.n,x],.int .i64 f,.int .i64 t] w fun e w'=>e=.returned (.int .i64 (aK m f t))∧Below w.heap.size w w':=by
 obtain ⟨a,c,rfl,_,hl,hA⟩:=h;have HA:=hide hA;have HB0:Hid (∀ A,Below w.heap.size w (w.alloc A)):=fun A=>(Below.refl _ _).alloc (Nat.le_refl _) A;obtain ⟨n,L⟩:=m;obtain ⟨hn1,hn2,hn3⟩:=hm;simp only at hn1 hn2 hn3 HA hl ⊢;clear hA;obtain ⟨nn,rfl⟩:∃ nn:Nat,n=(nn:Int):=⟨n.toNat,by omega⟩;obtain ⟨ll,hll⟩:∃ k,L.length=k:=⟨_,rfl⟩;have HLL:=hide hll;rw [hll] at hn3 hl ⊢;obtain ⟨N2,hN⟩:∃ N2:Nat,nn*nn=N2:=⟨_,rfl⟩;have HNN:=hide hN;have hl2:ll=N2:=by rw [← hN];exact Int.ofNat_inj.1 (by rw [hn3];simp)
 subst hl2;have hN1:ll≤1024:=by rw [← hN];exact (Nat.mul_le_mul (show nn≤32 by omega) (show nn≤32 by omega):nn*nn≤32*32)
 clear hN hn3 hll;obtain ⟨b1,h1⟩:∃ b,upB f ((nn:Int)-1)=b:=⟨_,rfl⟩;obtain ⟨b2,h2⟩:∃ b,upB t ((nn:Int)-1)=b:=⟨_,rfl⟩;have H1:=hide h1;have H2:=hide h2;unfold aK;simp only;rw [h1,h2];clear h1 h2
 cases b1 with
 | false =>
  go_enter Try.func48,Try.ntmps48;go_wp2_with (go_at_call 59;refine (bI _ _ _).mono ?_;rintro e w' ⟨rfl,rfl⟩;rw [H1.out]);go_ret;exact ⟨by simp,HB0.out _⟩
 | true =>
  cases b2 with
  | false =>
   go_enter Try.func48,Try.ntmps48;go_wp2_with (go_at_call 59;refine (bI _ _ _).mono ?_;rintro e w' ⟨rfl,rfl⟩;first | rw [H1.out] | rw [H2.out]);go_ret;exact ⟨by simp,HB0.out _⟩
  | true =>
   obtain ⟨k1,k2⟩:=upB_iff.1 H1.out;obtain ⟨k3,k4⟩:=upB_iff.1 H2.out;obtain ⟨i,rfl⟩:∃ i:Nat,f=(i:Int):=⟨f.toNat,by omega⟩;obtain ⟨k,rfl⟩:∃ i:Nat,t=(i:Int):=⟨t.toNat,by omega⟩;have hlt:i<nn:=by omega
   have hkt:k<nn:=by omega
   obtain ⟨P,hP⟩:∃ P:Nat,i*nn=P:=⟨_,rfl⟩;have hPi:(i:Int)*(nn:Int)=(P:Int):=by rw [← hP];simp
   have hPP:P+nn≤ll:=by rw [← hP,← HNN.out];exact uW hlt
   have HJ:Hid (P+k<L.length):=by show _<_;have:=HLL.out;omega
   obtain ⟨b,off,rfl,c1⟩:=(HA.out.alloc (.cells #[.int .i64 nn,.slice a ll c] 24)) (P+k) HJ.out;have i5:(P:Int)+(k:Int)<(ll:Int):=by omega
   have i8:P+k<ll:=by omega
   have E:Hid (((i:Int)*(nn:Int)+(k:Int)).toNat=P+k):=by show _=_;rw [hPi];omega
   rw [E.out]
   generalize L[P+k]! = z at c1
   clear hP k1 k2 k3 k4;go_enter Try.func48,Try.ntmps48;go_wp2_with (go_at_call 59;refine (bI _ _ _).mono ?_;rintro e w' ⟨rfl,rfl⟩;first | rw [H1.out] | rw [H2.out]);go_ret;exact ⟨by simp,HB0.out _⟩
end Go.Proofs.Ytgjpkpmikbpcnaa
namespace Go.Proofs.Ytgjpkpmikbpcnaa
open Go.RowKit
theorem u9 {w:World} {a:Option Addr} {m:Nat} {L:List Win} (h:WinsAt w a m L):Hr.WinsAt w a m L:=⟨h.len,h.max,h.cell⟩
theorem mV {w:World} {y:Value} {L:List Win} (pl sv t:Int) (h:WinsV w y L) (hb:-1000000000000000≤(Hr.startM t L).1+sv) (hb2:(Hr.startM t L).1+sv≤1000000000000000):Calls Try.prog 108 #[.agg #[.int .i64 pl,.int .i64 sv,y],.int .i64 t] w fun e w'=>e=.returned (.tuple #[.int .i64 (Hr.startM t L).1,.int .i64 ((Hr.startM t L).1+sv),.bool (Hr.startM t L).2])∧Below w.heap.size w w':=by
 obtain ⟨a,c,rfl,_,hA⟩:=h;have HA:=hide hA;have HB0:Hid (∀ A,Below w.heap.size w (w.alloc A)):=fun A=>(Below.refl _ _).alloc (Nat.le_refl _) A;obtain ⟨m,hm⟩:∃ m,L.length=m:=⟨_,rfl⟩;rw [hm] at HA ⊢;obtain ⟨s,b,hs⟩:∃ s b,Hr.startM t L=(s,b):=⟨_,_,rfl⟩;rw [hs] at hb hb2 ⊢;simp only at hb hb2 ⊢;have HS:=hide hs;clear hA hm hs;have hw:IntKind.i64.wrap (s+sv)=s+sv:=by rw [IntKind.wrap_i64];omega
 clear hb hb2;go_enter Try.func108,Try.ntmps108;go_wp2_with (first | (go_at_call 127;refine (Hr.start_any (c:=c) t (u9 (HA.out.on (HB0.out _)))).mono ?_;rintro e w1 ⟨rfl,k1⟩;rw [HS.out];have B1:=hide k1;have c1:w1.cell? ⟨w.heap.size,1,none⟩=some (.int .i64 sv):=((aA k1).1 _ 1 (by simp)).trans (by simp [go_sem]);clear k1) | fail)
 go_quiet (fail)
 go_wp2;refine bodyPost_ret (v:=.tuple #[.int .i64 s,.int .i64 (s+sv),.bool b]) ?_ rfl ⟨rfl,below_drewN (below_on (HB0.out _) B1.out) _⟩
 simp [results,Try.results108,go_sem]
theorem lO (w:World) (sv:Int) (a:Option Addr) (m c:Nat):Calls Try.prog 112 #[.agg #[.slice a m c,.int .i64 sv]] w fun e w'=>e=.returned (.agg #[.int .i64 0,.int .i64 sv,.slice a m c])∧Below w.heap.size w w':=by
 have HB0:Hid (∀ A B,Below w.heap.size w ((w.alloc A).alloc B)):=fun A B=>((Below.refl _ _).alloc (Nat.le_refl _) A).alloc (by simp) B;go_enter Try.func112,Try.ntmps112;go_wp2;refine bodyPost_ret (v:=.agg #[.int .i64 0,.int .i64 sv,.slice a m c]) ?_ rfl ⟨rfl,(by repeat (first | exact HB0.out _ _ | (refine Below.setCell ?_ (by simp) _) | refine Below.drew ?_))⟩
 simp [results,Try.results112,go_sem]
def eT (w:World) (v:Value) (L:List Stp):Prop:=SlV 3 40 sz StpV w v L
theorem jD {w:World} {v:Value} {L:List Stp} {k:Nat} (h:eT w v L) (hk:k<L.length):∃ b off c y,v=.slice (some ⟨b,off,none⟩) L.length c∧b<w.heap.size∧(∀ j,j<3→w.cell? ⟨b,off+k*3+j,none⟩=(kJ (L.getD k sz) y)[j]?)∧WinsV w y (L.getD k sz).wins:=by
 obtain ⟨a,c,rfl,_,_,hc⟩:=h;obtain ⟨b,off,l,rfl,hl,hcs,y,rfl,q1⟩:=hc k hk;have h0:w.cell? ⟨b,off+k*3+0,none⟩=some _:=hcs 0 (by decide);exact ⟨b,off,c,y,rfl,block_lt_of_cell h0,hcs,q1⟩
theorem vU {w:World} {x v:Value} (n:Int) (hx:∃ a m c,x=.slice a m c):Calls Try.prog 107 #[.agg #[.int .i64 n,x],v,.int .i64 0] w fun e w'=>e=.returned (.int .i64 0)∧Below w.heap.size w w':=by
 obtain ⟨a,m,c,rfl⟩:=hx;have HB0:Hid (∀ A,Below w.heap.size w (w.alloc A)):=fun A=>(Below.refl _ _).alloc (Nat.le_refl _) A;go_enter Try.func107,Try.ntmps107;go_wp2;go_ret;exact ⟨rfl,HB0.out _⟩
theorem yN {w:World} {x v:Value} {m:Mat} {L:List Stp} {i:Nat} (hx:IntsV w x m.cells) (hm:SqM m) (hv:eT w v L) (hi:i+1<L.length):Calls Try.prog 107 #[.agg #[.int .i64 m.n,x],v,.int .i64 ((i:Int)+1)] w fun e w'=>e=.returned (.int .i64 (aK m (L.getD i sz).place (L.getD (i+1) sz).place))∧Below w.heap.size w w':=by
 have hbd:=SlV.bound hv;obtain ⟨b,off,c,y,rfl,hb,hcs,_⟩:=jD hv (show i<L.length by omega);obtain ⟨b',off',c',y',e,_,hcs',_⟩:=jD hv hi;injection e with e1 _ e3;injection e1 with e1;injection e1 with e1 e2 _;subst e1 e2 e3;have c0:w.cell? ⟨b,off+i*3,none⟩=some (.int .i64 (L.getD i sz).place):=hcs 0 (by decide);have c1:w.cell? ⟨b,off+(i+1)*3,none⟩=some (.int .i64 (L.getD (i+1) sz).place):=hcs' 0 (by decide);obtain ⟨p0,h0⟩:∃ z,(L.getD i sz).place=z:=⟨_,rfl⟩;obtain ⟨p1,h1⟩:∃ z,(L.getD (i+1) sz).place=z:=⟨_,rfl⟩;obtain ⟨ln,hln⟩:∃ q,L.length=q:=⟨_,rfl⟩;rw [h0] at c0 ⊢;rw [h1] at c1 ⊢;rw [hln] at hi hbd ⊢;obtain ⟨xa,xc,rfl⟩:=hx.shape;have HX:=hide hx;have HB0:Hid (∀ A,Below w.heap.size w (w.alloc A)):=fun A=>(Below.refl _ _).alloc (Nat.le_refl _) A;obtain ⟨z,hz⟩:∃ z,aK m p0 p1=z:=⟨_,rfl⟩;rw [hz];have HZ:=hide hz;have hne:¬ b=w.heap.size:=by omega
 have y0:((i:Int)+1 == 0)=false:=by simp;omega
 have i1:(0:Int)≤(i:Int):=by omega
 have i2:(i:Int)<(ln:Int):=by omega
 have i3:(i:Int)+1<(ln:Int):=by omega
 have i4:(0:Int)≤(i:Int)+1:=by omega
 have i5:¬ (ln:Int)≤(i:Int):=by omega
 have i6:¬ (ln:Int)≤(i:Int)+1:=by omega
 have i7:(i:Int)+1-1=(i:Int):=by omega
 have i8:IntKind.i64.wrap (i:Int)=(i:Int):=by rw [IntKind.wrap_i64];omega
 clear h0 h1 hln hz hx hv hcs hcs';obtain ⟨W,hW⟩:∃ W,W=w.alloc (.cells #[.int .i64 m.n,.slice xa m.cells.length xc] 24):=⟨_,rfl⟩;have HBW:Hid (Below w.heap.size w W):=by rw [hW];exact HB0.out _
 have d0:W.cell? ⟨b,off+i*3,none⟩=some (.int .i64 p0):=((aA HBW.out).1 _ _ hb).trans c0;have d1:W.cell? ⟨b,off+(i+1)*3,none⟩=some (.int .i64 p1):=((aA HBW.out).1 _ _ hb).trans c1;have d2:W.cell? ⟨w.heap.size,0,none⟩=some (.int .i64 m.n):=by rw [hW];simp [go_sem]
 have d3:W.cell? ⟨w.heap.size,1,none⟩=some (.slice xa m.cells.length xc):=by rw [hW];simp [go_sem]
 have HL2:Hid (w.heap.size<W.heap.size):=by show _<_;rw [hW];simp
 go_enter Try.func107,Try.ntmps107;go_wp2;rw [← hW];clear hW c0 c1
 first | (go_region_held3 (fun w'=>w'.cell? ⟨b,off+i*3,none⟩=some (.int .i64 p0)∧w'.cell? ⟨b,off+(i+1)*3,none⟩=some (.int .i64 p1)∧w'.cell? ⟨w.heap.size,0,none⟩=some (.int .i64 m.n)∧w'.cell? ⟨w.heap.size,1,none⟩=some (.slice xa m.cells.length xc)) (go_keep) (first | (go_at_call 51;refine (yfY (HX.out.on (below_on HBW.out ((Below.refl _ _).drew))) hm _ _).mono ?_;rintro e w1 ⟨rfl,k1⟩;rw [HZ.out];have B1:=hide (below_on ((Below.refl _ _).drew) k1);have f0:=((aA B1.out).1 b (off+i*3) (by have:=HL2.out;omega)).trans d0;have f1:=((aA B1.out).1 b (off+(i+1)*3) (by have:=HL2.out;omega)).trans d1;have f2:=((aA B1.out).1 w.heap.size 0 HL2.out).trans d2;have f3:=((aA B1.out).1 w.heap.size 1 HL2.out).trans d3;clear k1) | fail)) | fail
 rename_i hHeld;clear hHeld;go_wp2;go_ret;exact ⟨rfl,below_on HBW.out B1.out⟩
end Go.Proofs.Ytgjpkpmikbpcnaa
namespace Go.Proofs.Ytgjpkpmikbpcnaa
open Go.RowKit
def cB (p:Prb) (x:aU) (vi:Int) (vs:Value):Array Value:=#[.int .i64 p.dims,.int .i64 p.time.n,x.t,.int .i64 p.dist.n,x.d,x.v,x.j,x.s,.int .i64 vi,vs]
def eZ (v:Veh) (xc xb:Value):Array Value:=#[.int .i64 v.start,.int .i64 v.stop,xc,.int .u64 v.skills,.int .i64 v.shift.1,.int .i64 v.shift.2,.int .i64 v.fixed,.int .i64 v.perT,.int .i64 v.perD,.int .i64 v.maxT,xb]
theorem nX {w:World} {v:Value} {L:List Veh} {k:Nat} (h:VehsV w v L) (hk:k<L.length):∃ b off c xc xb,v=.slice (some ⟨b,off,none⟩) L.length c∧b<w.heap.size∧(∀ j,j<11→w.cell? ⟨b,off+k*11+j,none⟩=(kF (L.getD k vz) xc xb)[j]?)∧IntsV w xc (L.getD k vz).cap∧BrksV w xb (L.getD k vz).brks:=by
 obtain ⟨a,c,rfl,_,_,hc⟩:=h;obtain ⟨b,off,l,rfl,hl,hcs,xc,xb,rfl,q1,q2,_⟩:=hc k hk;have h0:w.cell? ⟨b,off+k*11+0,none⟩=some _:=hcs 0 (by decide);exact ⟨b,off,c,xc,xb,rfl,block_lt_of_cell h0,hcs,q1,q2⟩
theorem car_any {w:World} {x:aU} {p:Prb} {k m vc:Nat} {va:Option Addr} (h:PrbV w x p) (hk:k<p.vs.length):Calls Try.prog 74 #[.agg (cB p x k (.slice va m vc))] w fun e w'=>∃ xc xb,e=.returned (.agg (eZ (p.vs.getD k vz) xc xb))∧IntsV w' xc (p.vs.getD k vz).cap∧BrksV w' xb (p.vs.getD k vz).brks∧Below w.heap.size w w':=by
 obtain ⟨b,off,cc,xc,xb,he,hb,hcs,q1,q2⟩:=nX h.v hk;have hbd:=SlV.bound h.v;obtain ⟨ta,tc,da,dc,va',vc',ja,jc,sa,sc,rfl⟩:=h.open;simp only at he;injection he with he1 _ he3;subst he1 he3;obtain ⟨ca,c1,rfl⟩:=q1.shape;obtain ⟨ba,c2,rfl⟩:=SlV.shape q2;obtain ⟨V,hV⟩:∃ V,p.vs.getD k vz=V:=⟨_,rfl⟩;rw [hV] at hcs q1 q2 ⊢;clear hV;obtain ⟨lc,hlc⟩:∃ q,V.cap.length=q:=⟨_,rfl⟩;obtain ⟨lb,hlb⟩:∃ q,V.brks.length=q:=⟨_,rfl⟩;rw [hlc,hlb] at hcs;rw [hlc] at q1;rw [hlb] at q2;clear hlc hlb;have c0v:w.cell? ⟨b,off+k*11,none⟩=some (.int .i64 V.start):=hcs 0 (by decide);have c1v:w.cell? ⟨b,off+k*11+1,none⟩=some (.int .i64 V.stop):=hcs 1 (by decide);have c2v:w.cell? ⟨b,off+k*11+2,none⟩=some (.slice ca lc c1):=hcs 2 (by decide);have c3v:w.cell? ⟨b,off+k*11+3,none⟩=some (.int .u64 V.skills):=hcs 3 (by decide);have c4v:w.cell? ⟨b,off+k*11+4,none⟩=some (.int .i64 V.shift.1):=hcs 4 (by decide);have c5v:w.cell? ⟨b,off+k*11+5,none⟩=some (.int .i64 V.shift.2):=hcs 5 (by decide);have c6v:w.cell? ⟨b,off+k*11+6,none⟩=some (.int .i64 V.fixed):=hcs 6 (by decide);have c7v:w.cell? ⟨b,off+k*11+7,none⟩=some (.int .i64 V.perT):=hcs 7 (by decide);have c8v:w.cell? ⟨b,off+k*11+8,none⟩=some (.int .i64 V.perD):=hcs 8 (by decide);have c9v:w.cell? ⟨b,off+k*11+9,none⟩=some (.int .i64 V.maxT):=hcs 9 (by decide);have c10v:w.cell? ⟨b,off+k*11+10,none⟩=some (.slice ba lb c2):=hcs 10 (by decide);have HQ1:=hide q1;have HQ2:=hide q2;have HB0:Hid (∀ A B,Below w.heap.size w ((w.alloc A).alloc B)):=fun A B=>((Below.refl _ _).alloc (Nat.le_refl _) A).alloc (by simp) B;obtain ⟨ln,hln⟩:∃ q,p.vs.length=q:=⟨_,rfl⟩;rw [hln] at hk hbd;unfold cB;simp only;rw [hln];have i1:(0:Int)≤(k:Int):=by omega
 have i2:(k:Int)<(ln:Int):=by omega
 have i3:¬ (ln:Int)≤(k:Int):=by omega
 have n0:¬ b=w.heap.size:=by omega
 have n1:¬ b=w.heap.size+1:=by omega
 clear hcs q1 q2 h hln;go_enter Try.func74,Try.ntmps74;go_wp2;refine bodyPost_ret (v:=.agg (eZ V (.slice ca lc c1) (.slice ba lb c2))) ?_ rfl ⟨_,_,rfl,HQ1.out.on ?_,BrksV.on HQ2.out ?_,?_⟩
 ·simp [results,Try.results74,go_sem,eZ]
 all_goals (repeat (first | exact HB0.out _ _ | (refine Below.setCell ?_ (by simp) _) | refine Below.drew ?_))
end Go.Proofs.Ytgjpkpmikbpcnaa
namespace Go.Proofs.Ytgjpkpmikbpcnaa.Ld
def fitsB (a:Int):Bool:=decide (-4611686018427387903≤a∧a≤4611686018427387903)
def addOk (a b:Int):Bool:=fitsB a && fitsB b && fitsB (a+b)
def addV (a b:Int):Int:=bif addOk a b then a+b else 0
def addE (a b:Int):Int:=bif addOk a b then 0 else 10

theorem fitsB_iff (a:Int):fitsB a=true↔-4611686018427387903≤a∧a≤4611686018427387903:=by simp [fitsB]
theorem xQ (a:Int):fitsB a=false↔a < -4611686018427387903∨4611686018427387903<a:=by
 simp [fitsB];omega


def addF (x y:Int):Int × Int:=(addV x y,addE x y)
def subF (x y:Int):Int × Int:=if fitsB y=true then (addV x (-y),addE x (-y)) else (0,10)
def eachM (f:Int→Int→Int × Int) (xs ys:List Int):List Int × Int :=
 if xs.length=ys.length then
  match (List.range xs.length).find? (fun i=>decide ((f xs[i]! ys[i]!).2≠0)) with
  | some i=>([],(f xs[i]! ys[i]!).2)
  | none=>((List.range xs.length).map (fun i=>(f xs[i]! ys[i]!).1),0)
 else ([],43)
theorem yfR {f:Int→Int→Int × Int} {xs ys:List Int} (h:xs.length≠ys.length):eachM f xs ys=([],43):=by
 unfold eachM;rw [if_neg h]
theorem eachM_ok {f:Int→Int→Int × Int} {xs ys:List Int} (h:xs.length=ys.length) (ho:∀ i,i<xs.length→(f xs[i]! ys[i]!).2=0):eachM f xs ys=((List.range xs.length).map (fun i=>(f xs[i]! ys[i]!).1),0):=by
 unfold eachM;rw [if_pos h,List.find?_eq_none.2 (fun i hi=>by rw [ho i (List.mem_range.1 hi)];decide)]
theorem ydE {f:Int→Int→Int × Int} {xs ys:List Int} {k:Nat} (h:xs.length=ys.length) (hk:k<xs.length) (ho:∀ i,i<k→(f xs[i]! ys[i]!).2=0) (he:(f xs[k]! ys[k]!).2≠0):eachM f xs ys=([],(f xs[k]! ys[k]!).2):=by
 unfold eachM;rw [if_pos h]
 have:(List.range xs.length).find? (fun i=>decide ((f xs[i]! ys[i]!).2≠0))=some k:=by
  rw [List.find?_eq_some_iff_append];refine ⟨by simpa using he,List.range k,(List.range (xs.length-(k+1))).map (·+(k+1)),?_,fun i hi=>?_⟩
  ·have e:List.range xs.length=List.range (k+1) ++ (List.range (xs.length-(k+1))).map (k+1 + ·):=by
    rw [← List.range_add];congr 1;omega
   rw [e,List.range_succ,List.append_assoc]
   simp [Nat.add_comm]
  ·rw [ho i (List.mem_range.1 hi)];decide
 rw [this]
def underB (xs ys:List Int):Bool:=decide (xs.length=ys.length∧∀ i,i<xs.length→xs[i]!≤ys[i]!)
theorem sD {xs ys:List Int} (h:xs.length≠ys.length):underB xs ys=false:=decide_eq_false fun h'=>h h'.1
theorem rZ {xs ys:List Int} (h:xs.length=ys.length) (ho:∀ i,i<xs.length→xs[i]!≤ys[i]!):underB xs ys=true:=decide_eq_true ⟨h,ho⟩
theorem sB {xs ys:List Int} {k:Nat} (hk:k<xs.length) (h:¬ xs[k]!≤ys[k]!):underB xs ys=false:=decide_eq_false fun h'=>h (h'.2 k hk)
def sameB (xs ys:List Int):Bool:=decide (xs=ys)
theorem list_ext {xs ys:List Int} (h:xs.length=ys.length) (ho:∀ i,i<xs.length→xs[i]! = ys[i]!):xs=ys:=by
 apply List.ext_getElem h
 intro i h1 h2;have:=ho i h1
 rwa [getElem!_pos _ i h1,getElem!_pos _ i h2] at this
theorem yeD {xs ys:List Int} (h:xs.length≠ys.length):sameB xs ys=false:=decide_eq_false fun e=>h (by rw [e])
theorem yeB {xs ys:List Int} (h:xs.length=ys.length) (ho:∀ i,i<xs.length→xs[i]! = ys[i]!):sameB xs ys=true:=decide_eq_true (list_ext h ho)
theorem yeC {xs ys:List Int} {k:Nat} (h:¬ xs[k]! = ys[k]!):sameB xs ys=false:=decide_eq_false fun e=>h (by rw [e])
end Go.Proofs.Ytgjpkpmikbpcnaa.Ld
namespace Go.Proofs.Ytgjpkpmikbpcnaa.Ld
open Go.RowKit
theorem lW (a:Int) (w:World) :
  Calls Try.prog 129 #[.int .i64 a] w fun e w'=>e=.returned (.bool (fitsB a))∧w'=w:=by
 by_cases h1:-4611686018427387903≤a <;> by_cases h2:a≤4611686018427387903
 all_goals
  go_enter Try.func129,Try.ntmps129;go_wp2;go_ret;exact ⟨by simp [fitsB,h1,h2],rfl⟩

theorem kU (a:Int) (w:World) :
  Calls Try.prog 130 #[.int .i64 a] w fun e w'=>e=.returned (.tuple #[.int .i64 (bif fitsB a then a else 0),.int .i64 (bif fitsB a then 0 else 10)])∧w'=w:=by
 cases h:fitsB a
 all_goals
  go_enter Try.func130,Try.ntmps130;go_wp2_with (go_at_call 129;refine (lW _ _).mono ?_;rintro e w' ⟨rfl,rfl⟩)
  go_ret2
  exact ⟨by simp,rfl⟩

theorem qV (a b:Int) (w:World) :
  Calls Try.prog 116 #[.int .i64 a,.int .i64 b] w fun e w'=>e=.returned (.tuple #[.int .i64 (addV a b),.int .i64 (addE a b)])∧w'=w:=by
 cases ha:fitsB a
 ·go_enter Try.func116,Try.ntmps116;go_wp2_with (first | (go_at_call 129;refine (lW _ _).mono ?_;rintro e w' ⟨rfl,rfl⟩) | (go_at_call 130;refine (kU _ _).mono ?_;rintro e w' ⟨rfl,rfl⟩))
  go_ret2
  exact ⟨by simp [addV,addE,addOk,ha],rfl⟩
 ·cases hb:fitsB b
  ·go_enter Try.func116,Try.ntmps116;go_wp2_with (first | (go_at_call 129;refine (lW _ _).mono ?_;rintro e w' ⟨rfl,rfl⟩) | (go_at_call 130;refine (kU _ _).mono ?_;rintro e w' ⟨rfl,rfl⟩))
   go_ret2
   exact ⟨by simp [addV,addE,addOk,ha,hb],rfl⟩
  ·have ha':=(fitsB_iff a).1 ha;have hb':=(fitsB_iff b).1 hb;obtain ⟨ha1,ha2⟩:=ha';obtain ⟨hb1,hb2⟩:=hb';go_enter Try.func116,Try.ntmps116;go_wp2_with (first | (go_at_call 129;refine (lW _ _).mono ?_;rintro e w' ⟨rfl,rfl⟩) | (go_at_call 130;refine (kU _ _).mono ?_;rintro e w' ⟨rfl,rfl⟩))
   go_ret2
   exact ⟨by simp [addV,addE,addOk,ha,hb],rfl⟩

end Go.Proofs.Ytgjpkpmikbpcnaa.Ld
namespace Go.Proofs.Ytgjpkpmikbpcnaa.Ld
open Go.RowKit
theorem hide {p:Prop} (h:p):Hid p:=h
theorem add0 (g j:Nat):(⟨g,0,none⟩:Addr).add j=⟨g,j,none⟩:=by
 unfold Addr.add
 split
 ·rename_i h;subst h;rfl
 ·simp
theorem drewN_heap (w:World) (n:Nat):(w.drewN n).heap=w.heap:=by
 induction n with
 | zero=>rfl
 | succ n ih=>exact ih
theorem below_drewN {B:Nat} {a w:World} (h:Below B a w) (n:Nat):Below B a (w.drewN n):=⟨h.os,h.tape,h.output,by rw [drewN_heap];exact h.size,fun k hk=>by rw [drewN_heap];exact h.block k hk⟩
def IntsAt (w:World) (a:Option Addr) (zs:List Int):Prop:=∀ k,k<zs.length→∃ b off,a=some ⟨b,off,none⟩∧w.cell? ⟨b,off+k,none⟩=some (.int .i64 zs[k]!)
theorem IntsAt.later {w w':World} {a:Option Addr} {zs:List Int} (h:IntsAt w a zs) (f:Below w.heap.size w w'):IntsAt w' a zs:=fun k hk=>by
 obtain ⟨b,off,e,h1⟩:=h k hk;exact ⟨b,off,e,(f.cell (p:=⟨b,_,none⟩) (block_lt_of_cell h1)).trans h1⟩
theorem IntsAt.drew {w:World} {a:Option Addr} {zs:List Int} (h:IntsAt w a zs):IntsAt w.drew a zs:=h.later (Below.refl _ _).drew
theorem IntsAt.alloc {w:World} {a:Option Addr} {zs:List Int} (h:IntsAt w a zs) (o:Obj):IntsAt (w.alloc o) a zs:=h.later ((Below.refl _ _).alloc (Nat.le_refl _) o)
def intsV (xs:List Int):List Value:=xs.map (Value.int .i64 ·)
theorem intsV_len (xs:List Int):(intsV xs).length=xs.length:=by simp [intsV]
theorem intsV_get (xs:List Int) (k:Nat) (h:k<xs.length):(intsV xs)[k]? = some (.int .i64 xs[k]!):=by
 simp [intsV,h]
theorem intsV_set (xs:List Int) (k:Nat) (x:Int):intsV (xs.set k x)=(intsV xs).set k (.int .i64 x):=by simp [intsV,List.map_set]
def IRow (w:World) (base:Nat) (v:Value) (xs:List Int):Prop:=w.ownsRow base 3 1 v xs.length (intsV xs)
theorem info3:(Try.prog.info? 3).map (fun i=>(i.zero,i.size,i.bytes))=some (some (.int .i64 0),1,8):=by kernel_rfl
section
variable {w w':World} {base g cap m:Nat} {v:Value} {xs:List Int}
theorem own_of_block {base e size m:Nat} {v:Value} {xs:List Value} (h:w.ownsRow base e size v m xs) (hb:∀ g,v.ownBlock=some g→w'.heap[g]? = w.heap[g]?):w'.ownsRow base e size v m xs:=by
 obtain ⟨h1,h2⟩:=h;refine ⟨h1,?_⟩
 rcases h2 with h2 | ⟨g,cap,cur,rfl,a,b,r⟩
 ·exact .inl h2
 ·exact .inr ⟨g,cap,cur,rfl,a,(hb g rfl).trans b,r⟩
theorem IRow.cell (h:IRow w base (.slice (some ⟨g,0,none⟩) m cap) xs) (k:Nat) (hk:k<xs.length):w.cell? ⟨g,k,none⟩=some (.int .i64 xs[k]!):=by
 have:=World.ownsRow.cells (g:=g) h rfl k _ (intsV_get xs k hk);rw [add0] at this;exact this
theorem IRow.frozen (h:IRow w base (.slice (some ⟨g,0,none⟩) m cap) xs) (k:Nat):w.frozen? ⟨g,k,none⟩=false:=by
 rcases h.2 with ⟨h2,_⟩ | ⟨g2,cap2,cur,e,_,hb,_⟩
 ·cases h2
 ·cases e;exact frozen_of_row w g k _ _ hb
theorem IRow.set (h:IRow w base (.slice (some ⟨g,0,none⟩) m cap) xs) (k:Nat) (x:Int):IRow (w.setCell ⟨g,k,none⟩ (.int .i64 x)) base (.slice (some ⟨g,0,none⟩) m cap) (xs.set k x):=by
 obtain ⟨h1,h2⟩:=h;unfold IRow;rw [List.length_set,intsV_set];refine ⟨by simpa using h1,?_⟩
 rcases h2 with ⟨h2,_⟩ | ⟨g2,cap2,cur,e,a,hb,r1,r2,r3,r4⟩
 ·cases h2
 ·cases e
  refine .inr ⟨g,cap,cur.setIfInBounds k (.int .i64 x),rfl,a,heap_setCell_same w g k _ _ _ hb,r1,r2,by simpa using r3,?_⟩;rw [← r4,Array.toList_setIfInBounds,List.take_set]
theorem IRow.later {B:Nat} (h:IRow w base v xs) (hB:w.heap.size≤B) (f:Below B w w'):IRow w' base v xs:=own_of_block h (fun k hk=>f.block k (Nat.lt_of_lt_of_le (h.lt k hk).2 hB))
theorem IRow.drewN (h:IRow w base v xs) (q:Nat):IRow (w.drewN q) base v xs:=h.later (Nat.le_refl _) (below_drewN (Below.refl _ _) q)
theorem IRow.alloc (h:IRow w base v xs) (o:Obj):IRow (w.alloc o) base v xs:=World.ownsRow.alloc h o
theorem IRow.mono {base':Nat} (h:IRow w base v xs) (hb:base'≤base):IRow w base' v xs:=by
 obtain ⟨h1,h2⟩:=h;refine ⟨h1,?_⟩
 rcases h2 with h2 | ⟨g,cap,cur,e,a,r⟩
 ·exact .inl h2
 ·exact .inr ⟨g,cap,cur,e,Nat.le_trans hb a,r⟩
theorem xK (w:World) (base:Nat):IRow w base (.slice none 0 0) []:=World.ownsRow_nil _ _ _ _
end
theorem made_ints (n:Nat) (hn:n≤1000) (w:World):(Instr.makeSlice 22 (.int .i64 n) (.int .i64 n)).run Try.prog w=.ok (.slice (some ⟨w.heap.size,0,none⟩) n n) (w.alloc (.cells (Array.replicate n (.int .i64 0)) 3)):=by
 obtain ⟨i0,hi0,hz0,hz1,hz2⟩:=info_parts info3;have:=run_makeSlice (P:=Try.prog) w 22 3 i0 _ Try.underlying22 hi0 hz0 .i64 .i64 n n (by omega) (by omega) (by rw [hz1];omega) (by rw [hz2];omega) (by omega);rw [hz1] at this;simp only [Int.toNat_natCast,Nat.mul_one] at this
 have e:madeCells (Value.int .i64 0).cells n=Array.replicate n (Value.int .i64 0):=by
  apply Array.ext
  ·simp [madeCells]
  ·intro i h1 h2
   simp [madeCells,Value.cells,Nat.mod_one]
 rw [e] at this;exact this
theorem irow_made (w:World) {base n:Nat} (hb:base≤w.heap.size) (hn:n≤1000):IRow (w.alloc (.cells (Array.replicate n (.int .i64 0)) 3)) base (.slice (some ⟨w.heap.size,0,none⟩) n n) (List.replicate n 0):=by
 have e:intsV (List.replicate n 0)=List.replicate n (.int .i64 0):=by simp [intsV]
 refine ⟨by rw [intsV_len];omega,.inr ⟨w.heap.size,n,(Array.replicate n (.int .i64 0)),by simp,hb,heap_alloc_new _ _,by simp,by unfold maxLen;omega,by simp,by rw [e];simp⟩⟩
end Go.Proofs.Ytgjpkpmikbpcnaa.Ld
