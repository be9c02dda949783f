import Derived.Test.YtgjpkpmikbpcnaaOMem
set_option maxRecDepth 100000
set_option maxHeartbeats 3200000
namespace Go.Proofs.Ytgjpkpmikbpcnaa
open Go.RowKit
theorem cV {w:World} {a:Option Addr} {ca m:Nat} {xs:List Int} (n:Int) (ha:IntsAt w a xs) (hm:xs.length=m) (hl:m≤9223372036854775807) :
  Calls Try.prog 85 #[.slice a m ca,.int .i64 n] w fun e w'=>e=.returned (.int .i64 (fY xs n))∧w'=w:=by
 have HA:=hide ha;have HM:=hide hm
 by_cases hnm:n=(m:Int)
 ·have HL:Hid ((xs.length:Int)=n):=by show _=_;omega
  subst hnm;have z0:((m:Int) != (m:Int))=false:=by simp
  clear ha hm;go_enter Try.func85,Try.ntmps85;go_wp2
  go_loop [5] (fun vi=>∃ i:Nat,vi=.int .i64 i∧i≤m∧Hid (∀ j,j<i→0≤xs[j]!∧xs[j]!≤1000000)) (fun vi=>m-(intOf vi).toNat)
  case atStart=>exact ⟨0,rfl,Nat.zero_le _,fun j hj=>absurd hj (Nat.not_lt_zero j)⟩
  case round =>
   obtain ⟨i,rfl,hi,HI⟩:=hrel
   by_cases hil:i<m
   ·have i1:(i:Int)<(m:Int):=by omega
    obtain ⟨b1,o1,rfl,c1⟩:=HA.out i (by rw [HM.out];exact hil)
    by_cases h0:xs[i]!<0
    ·have HF:=hide (uD (k:=i) HL.out (by rw [HM.out];exact hil) (by omega))
     generalize xs[i]! = x at c1 h0
     go_wp2;go_ret;exact ⟨by rw [HF.out];rfl,rfl⟩
    ·by_cases h1:1000000<xs[i]!
     ·have HF:=hide (uD (k:=i) HL.out (by rw [HM.out];exact hil) (by omega))
      generalize xs[i]! = x at c1 h0 h1
      go_wp2;go_ret;exact ⟨by rw [HF.out];rfl,rfl⟩
     ·have HI2:Hid (∀ j,j<i+1→0≤xs[j]!∧xs[j]!≤1000000):=fun j hj=>by
       by_cases e:j=i
       ·rw [e];omega
       ·exact HI.out j (by omega)
      generalize xs[i]! = x at c1 h0 h1
      go_wp2
      go_round
      case rel=>exact ⟨i+1,by go_num,by omega,HI2.out⟩
      case measure=>simp [intOf];omega
   ·have i1:¬ (i:Int)<(m:Int):=by omega
    have HF:=hide (ydM HL.out (fun j hj=>HI.out j (by have:=HM.out;omega)));go_wp2;go_ret;exact ⟨by rw [HF.out];rfl,rfl⟩
 ·have HF:=hide (ydN (xs:=xs) (n:=n) (by omega));have z0:((m:Int) != n)=true:=by simp;omega
  clear ha hm;go_enter Try.func85,Try.ntmps85;go_wp2;go_ret;exact ⟨by rw [HF.out];rfl,rfl⟩
theorem len_max {w:World} {a:Option Addr} {m:Nat} {L:List Win} (h:WinsAt w a m L):m≤8796093021952:=by have:=h.max;omega
theorem gI {p:Prop} [Decidable p] (h:p):decide p=true:=decide_eq_true h
theorem iX {p:Prop} [Decidable p] (h:¬ p):decide p=false:=decide_eq_false h
theorem uB (w:World) (p q:Nat):∃ r,(w.drewN p).drewN q=w.drewN r:=⟨_,World.drewN_drewN ..⟩
structure WInv (w:World) (L:List Win) (wr:World) (k:Nat) (e:Int):Prop where
 drew:∃ q,wr=w.drewN q
 low:-1≤e
 first:k=0→e=-1
 prev:∀ j,k=j+1→e=(L[j]!).2
 sum:jV (-1) 0 L=jV e k (L.drop k)
theorem WInv.on {w wr wr':World} {L:List Win} {k:Nat} {e x1 x2:Int} (_h:WInv w L wr k e) (hw:∃ q,wr'=w.drewN q) (hx:L[k]! = (x1,x2)) (h2:-1≤x2) (hs:jV (-1) 0 L=jV x2 (k+1) (L.drop (k+1))):WInv w L wr' (k+1) x2 :=
 ⟨hw,h2,fun h=>by omega,fun j hj=>(by
  have e:j=k:=by omega
  rw [e,hx]),hs⟩
theorem uP {a:Option Addr} {m c:Nat} {L:List Win} {w:World} (h:WinsAt w a m L) :
  Calls Try.prog 132 #[.slice a m c] w fun e w'=>e=.returned (.tuple #[.int .i64 (chk L).1,.int .i64 (chk L).2])∧∃ q,w'=w.drewN q:=by
 have HA:=hide h;have hlm:=h.len;have hmm:=len_max h;clear h;unfold chk
 by_cases h1:m<1
 ·rw [if_pos (.inl (by omega))];have i1:(m:Int)<1:=by omega
  go_enter Try.func132,Try.ntmps132;go_wp2
  go_ret2
  exact ⟨rfl,0,rfl⟩
 ·have i1:¬ (m:Int)<1:=by omega
  by_cases h2:4<m
  ·rw [if_pos (.inr (by omega))];have i2:(4:Int)<(m:Int):=by omega
   go_enter Try.func132,Try.ntmps132;go_wp2
   go_ret2
   exact ⟨rfl,0,rfl⟩
  ·have i2:¬ (4:Int)<(m:Int):=by omega
   rw [if_neg (by omega)];go_enter Try.func132,Try.ntmps132;go_wp2
   go_loopw [4] (fun vi wr=>∃ (k:Nat) (e:Int),vi=.int .i64 k∧k≤m∧Hid (WInv w L wr k e)) (fun vi _=>m-(intOf vi).toNat)
   case atStart=>exact ⟨0,-1,rfl,Nat.zero_le _,⟨0,rfl⟩,by omega,fun _=>rfl,fun j h=>by omega,by rw [List.drop_zero]⟩
   case round =>
    obtain ⟨k,e,rfl,hk,HR⟩:=hrel;have HQ:Hid (∀ n,∃ q',wr.drewN n=w.drewN q'):=fun n=>by obtain ⟨q,hq⟩:=HR.out.drew;rw [hq];exact uB w q n
    have HQ2:Hid (∀ n n',∃ q',(wr.drewN n).drewN n'=w.drewN q'):=fun n n'=>by obtain ⟨q,hq⟩:=HQ.out n;rw [hq];exact uB w q n'
    by_cases hlt:k<m
    ·have HAr:=hide (HA.out.on (by obtain ⟨q,hq⟩:=HR.out.drew;rw [hq];exact below_drewN (Below.refl _ _) q):WinsAt wr a m L);obtain ⟨b,off,rfl,c0,c1⟩:=HAr.out.cell k hlt;have HC:=hide (HR.out.sum.trans (ydK e L k (by omega)));obtain ⟨x,hx⟩:∃ x,L[k]! = x:=⟨_,rfl⟩;have HX:=hide hx;rw [hx] at c0 c1 HC;obtain ⟨x1,x2⟩:=x;simp only at c0 c1;clear hx;have i3:(k:Int)<(m:Int):=by omega
     by_cases p1:x1<0
     ·have E:Hid (jV (-1) 0 L=((k:Int),2)):=by
       show _=_;rw [HC.out,if_pos (nJ (.inl (by have:=HR.out.low;omega)))]
      have q1:=gI p1;go_wp2
      go_quiet (fail)
      go_wp2
      go_ret2
      exact ⟨by rw [E.out];rfl,HQ.out _⟩
     ·have q1:=iX p1
      by_cases p2:1000000<x2
      ·have E:Hid (jV (-1) 0 L=((k:Int),2)):=by show _=_;rw [HC.out,if_pos (nJ (.inr (.inr p2)))]
       have q2:=gI p2;go_wp2
       go_quiet (fail)
       go_wp2
       go_ret2
       exact ⟨by rw [E.out];rfl,HQ.out _⟩
      ·have q2:=iX p2
       by_cases p3:x2<x1
       ·have E:Hid (jV (-1) 0 L=((k:Int),2)):=by show _=_;rw [HC.out,if_pos (nJ (.inr (.inl p3)))]
        have q3:=gI p3;go_wp2
        go_quiet (fail)
        go_wp2
        go_ret2
        exact ⟨by rw [E.out];rfl,HQ.out _⟩
       ·have q3:=iX p3;have HX2:Hid (-1≤x2):=by show -1≤x2;omega
        by_cases hk0:k=0
        ·have E:Hid (jV (-1) 0 L=jV x2 (k+1) (L.drop (k+1))):=by
          show _=_;have:=HR.out.first hk0
          rw [HC.out,ybK (by omega)];simp only [Bool.false_eq_true,if_false]
         have i5:¬ (0:Int)<(k:Int):=by omega
         have q5:=iX i5;have i6:¬ 0<k:=by omega
         have q6:=iX i6;clear hk0;go_wp2
         go_quiet (fail)
         go_wp2
         go_quiet (fail)
         go_wp2;go_roundw
         case rel=>exact ⟨k+1,x2,by go_num,by omega,HR.out.on (HQ.out _) HX.out HX2.out E.out⟩
         case measure=>simp [intOf];omega
        ·obtain ⟨j,hj⟩:∃ j,k=j+1:=⟨k-1,by omega⟩;obtain ⟨b',off',eb,d0,d1⟩:=HAr.out.cell j (by omega)
         cases eb
         have he:=HR.out.prev j hj;rw [← he] at d1;have hw:IntKind.i64.wrap ((k:Int)-1)=(j:Int):=by rw [IntKind.wrap_i64] <;> omega
         have i4:(j:Int)<(m:Int):=by omega
         have i5:(0:Int)<(k:Int):=by omega
         have q5:=gI i5;have i6:0<k:=by omega
         have q6:=gI i6;clear he d0 hj hk0
         by_cases p4:x1≤e
         ·have E:Hid (jV (-1) 0 L=((k:Int),2)):=by show _=_;rw [HC.out,if_pos (nJ (.inl p4))]
          have q4:=gI p4;go_wp2
          go_quiet (fail)
          go_wp2
          go_quiet (fail)
          go_wp2
          go_ret2
          exact ⟨by rw [E.out];rfl,HQ2.out _ _⟩
         ·have E:Hid (jV (-1) 0 L=jV x2 (k+1) (L.drop (k+1))):=by
           show _=_;rw [HC.out,ybK (by omega)];simp only [Bool.false_eq_true,if_false]
          have q4:=iX p4;go_wp2
          go_quiet (fail)
          go_wp2
          go_quiet (fail)
          go_wp2;go_roundw
          case rel=>exact ⟨k+1,x2,by go_num,by omega,HR.out.on (HQ.out _) HX.out HX2.out E.out⟩
          case measure=>simp [intOf];omega
    ·have:k=m:=by omega
     subst this;have E:Hid (jV (-1) 0 L=(-1,0)):=by show _=_;rw [HR.out.sum,List.drop_eq_nil_of_le (by omega)];rfl
     go_wp2
     go_ret2
     exact ⟨by rw [E.out];rfl,HR.out.drew⟩
end Go.Proofs.Ytgjpkpmikbpcnaa
namespace Go.Proofs.Ytgjpkpmikbpcnaa
open Go.RowKit
theorem jI (x m:Int) (w:World):Calls Try.prog 58 #[.int .i64 x,.int .i64 m] w fun e w'=>e=.returned (.bool (upB x (m-1)))∧w'=w:=by
 by_cases h1:0≤x
 ·by_cases h2:x<m
  ·rw [mS h1 (by omega)];go_enter Try.func58,Try.ntmps58;go_wp2;go_ret;exact ⟨rfl,rfl⟩
  ·rw [ydX (by omega)];go_enter Try.func58,Try.ntmps58;go_wp2;go_ret;exact ⟨rfl,rfl⟩
 ·rw [ydW h1];go_enter Try.func58,Try.ntmps58;go_wp2;go_ret;exact ⟨rfl,rfl⟩
theorem bI (x m:Int) (w:World):Calls Try.prog 59 #[.int .i64 x,.int .i64 m] w fun e w'=>e=.returned (.bool (upB x m))∧w'=w:=by
 by_cases h1:0≤x
 ·by_cases h2:x≤m
  ·rw [mS h1 h2];go_enter Try.func59,Try.ntmps59;go_wp2;go_ret;exact ⟨rfl,rfl⟩
  ·rw [ydX h2];go_enter Try.func59,Try.ntmps59;go_wp2;go_ret;exact ⟨rfl,rfl⟩
 ·rw [ydW h1];go_enter Try.func59,Try.ntmps59;go_wp2;go_ret;exact ⟨rfl,rfl⟩
theorem cY {w:World} {v:Value} {L:List Win} (h:WinsV w v L):Calls Try.prog 118 #[v] w fun e w'=>e=.returned (.bool (uI L))∧Below w.heap.size w w':=by
 obtain ⟨a,c,rfl,_,hA⟩:=h;obtain ⟨y,hy⟩:∃ y,(chk L).1=y:=⟨_,rfl⟩;obtain ⟨z,hz⟩:∃ z,(chk L).2=z:=⟨_,rfl⟩;have HC:=hide (uP (c:=c) hA);rw [hy,hz] at HC;unfold uI;rw [hz];have hd:(z == 0)=decide (z=0):=by by_cases e:z=0 <;> simp [e]
 clear hA hy hz;go_enter Try.func118,Try.ntmps118;go_wp2_with (go_at_call 132;refine HC.out.mono ?_;rintro e w' ⟨rfl,q,hb⟩;have HB:=hide hb;clear hb);go_ret;exact ⟨rfl,by rw [HB.out];exact below_drewN (Below.refl _ _) q⟩
end Go.Proofs.Ytgjpkpmikbpcnaa
namespace Go.Proofs.Ytgjpkpmikbpcnaa
open Go.RowKit
def iM (n:Int) (L:List Int) (k:Nat):Bool:=(List.range' k (L.length-k)).all (fun i=>yA n i L[i]!)
theorem yf7 (n:Int) (L:List Int):(List.range L.length).all (fun i=>yA n i L[i]!)=iM n L 0:=by unfold iM;rw [List.range_eq_range',Nat.sub_zero]
theorem ydO (n:Int) (L:List Int) (k:Nat) (h:k<L.length):iM n L k=(yA n k L[k]! && iM n L (k+1)):=by
 unfold iM;rw [show L.length-k=(L.length-(k+1))+1 by omega,List.range'_succ]
 rfl
theorem yfZ (n:Int) (L:List Int) (k:Nat) (h:¬ k<L.length):iM n L k=true:=by
 unfold iM;rw [show L.length-k=0 by omega]
 rfl
theorem matB_n {n:Int} {m:Mat} (h:¬ m.n=n):gW n m=false:=by unfold gW;rw [iX h];rfl
theorem matB_l {n:Int} {m:Mat} (h:¬ (m.cells.length:Int)=n*n):gW n m=false:=by unfold gW;rw [iX h];simp
theorem matB_c {n:Int} {m:Mat} (h:m.n=n) (k:(m.cells.length:Int)=n*n):gW n m=iM n m.cells 0:=by unfold gW;rw [gI h,gI k,yf7];rfl
end Go.Proofs.Ytgjpkpmikbpcnaa
namespace Go.Proofs.Ytgjpkpmikbpcnaa
open Go.RowKit
theorem ydL {p:Prb} {b1 b2 b3 bf b4 b5 b6:Bool} (h1:xX p=b1) (h2:gW p.time.n p.time=b2) (h3:gW p.time.n p.dist=b3) (hf:zX p=bf) (h4:p.vs.all (pE p.dims p.time.n)=b4) (h5:p.js.all (mK p.dims p.time.n)=b5) (h6:p.ss.all (jE p.dims p.time.n)=b6) :
  oT p=if (b1 && b2 && b3)=false then 2 else if bf=false then 27 else if (b4 && b5 && b6)=false then 2 else 0:=by
 unfold oT ydR;rw [h1,h2,h3,hf,h4,h5,h6]
theorem dimB_in {p:Prb} (h:xX p=true):1≤p.time.n∧p.time.n≤32∧0≤p.dims∧p.dims≤3:=by
 unfold xX at h;rw [Bool.and_eq_true] at h;have h1:=upB_iff.1 h.1;have h2:=of_decide_eq_true h.2
 omega
theorem few_yes {p:Prb} (h:zX p=true):p.vs.length≤4∧p.js.length+p.ss.length≤12:=of_decide_eq_true h
theorem few_no {p:Prb} (h:zX p=false):¬ (p.vs.length≤4∧p.js.length+p.ss.length≤12):=of_decide_eq_false h
theorem PrbV.open {w:World} {x:aU} {p:Prb} (h:PrbV w x p):∃ ta tc da dc va vc ja jc sa sc,x=⟨.slice ta p.time.cells.length tc,.slice da p.dist.cells.length dc,.slice va p.vs.length vc,.slice ja p.js.length jc,.slice sa p.ss.length sc⟩:=by
 obtain ⟨ta,tc,h1⟩:=h.t.shape;obtain ⟨da,dc,h2⟩:=h.d.shape;obtain ⟨va,vc,h3⟩:=SlV.shape h.v;obtain ⟨ja,jc,h4⟩:=SlV.shape h.j;obtain ⟨sa,sc,h5⟩:=SlV.shape h.s;obtain ⟨x1,x2,x3,x4,x5⟩:=x;simp only at h1 h2 h3 h4 h5;exact ⟨ta,tc,da,dc,va,vc,ja,jc,sa,sc,by rw [h1,h2,h3,h4,h5]⟩
theorem SlV.bound {α:Type} {z y:Nat} {zero:α} {V:World→List Value→α→Prop} {w:World} {v:Value} {L:List α} (h:SlV z y zero V w v L):L.length*y≤140737488351232:=by
 obtain ⟨_,_,_,_,h,_⟩:=h;exact h
theorem IntsV.bound {w:World} {v:Value} {L:List Int} (h:IntsV w v L):L.length*8≤140737488351232:=by
 obtain ⟨_,_,_,_,h,_⟩:=h;exact h
end Go.Proofs.Ytgjpkpmikbpcnaa
